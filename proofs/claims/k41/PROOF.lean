import PyProof.Rows.All
import Wide.All
import OpenK.AllK
import Wide.FinOn
import Lean
import PyProof.EqAt
import PyProof.EqKinds
import PyProof.TupleCall
import PyProof.SetKind
import PyProof.Rows.SortShell
import PyProof.SetRoads
import PyProof.ListNew
import PyProof.CollectWalk
import PyProof.Rows.SetFrom
import PyProof.NeKinds
import PyProof.IsiHeapPairs
import PyProof.IsiNone
import PyProof.IsiPairs
import PyProof.ZipIter
import PyProof.Draws
import PyProof.WalksMore
import PyProof.EnumMake
import PyProof.EnumFor
import PyProof.ListRange
import PyProof.RangeFor
import PyProof.DictUpdate
import PyProof.DictItemsLoops
import PyProof.DictWalks
import PyProof.DictIter
import PyProof.P3Eq
import PyProof.P3In
import PyProof.NeData
import KE.KTryMore
import PyProof.ExcArgsOwn
import PyProof.StrOps2
import PySem.Challenge.RW_fenlevel_k41_rows_read_or_refused
set_option Elab.async false
set_option linter.all false
set_option maxRecDepth 100000
namespace L2
open PySem PySem.Spec PyProof.Rows
abbrev Key := Sum Int Str
def keyIs : Key -> Value -> Bool
 | .inl k, v => Value.isInt k v
 | .inr x, v => Value.isStrOf x v
def keyH (w : World) : Key -> Int
 | .inl k => hashInt k
 | .inr x => hashStr w x
theorem keyIs_shape : ∀ {k : Key} {v : Value}, keyIs k v = true -> (∃ i t, k = Sum.inl i /\ v = Value.int i t) \/ (∃ x t, k = Sum.inr x /\ v = Value.str x t)
 | .inl i, v, h => by
  obtain ⟨t, e⟩ := Value.isInt_shape (k := i) (v := v) h
  exact .inl ⟨i, t, rfl, e⟩
 | .inr x, v, h => by
  obtain ⟨t, e⟩ := Value.isStrOf_shape (x := x) (v := v) h
  exact .inr ⟨x, t, rfl, e⟩
theorem keyIs_int (i : Int) (t : Tok) : keyIs (.inl i) (.int i t) = true := by simp [keyIs, Value.isInt]
theorem keyIs_str (x : Str) (t : Tok) : keyIs (.inr x) (.str x t) = true := by simp [keyIs, Value.isStrOf]
theorem key_ll (a b : Int) : decide ((Sum.inl a : Key) = Sum.inl b) = (a == b) := by
 by_cases e : a = b
 ·subst e; simp
 ·have h : ¬ (Sum.inl a : Key) = Sum.inl b := fun q => e (Sum.inl.inj q)
  rw [decide_eq_false h]
  exact (beq_eq_false_iff_ne.mpr e).symm
theorem key_rr (a b : Str) : decide ((Sum.inr a : Key) = Sum.inr b) = decide (a = b) := by
 by_cases e : a = b
 ·subst e; simp
 ·have h : ¬ (Sum.inr a : Key) = Sum.inr b := fun q => e (Sum.inr.inj q)
  rw [decide_eq_false h, decide_eq_false e]
theorem key_lr (a : Int) (b : Str) : decide ((Sum.inl a : Key) = Sum.inr b) = false := decide_eq_false (fun q => nomatch q)
theorem key_rl (a : Str) (b : Int) : decide ((Sum.inr a : Key) = Sum.inl b) = false := decide_eq_false (fun q => nomatch q)
def mixKind (prog : Program) (w : World) : PySem.KeyKind prog w Key where
 is := keyIs
 hash := keyH w
 inj := fun v a b ha hb => by
  rcases keyIs_shape ha with ⟨i, t, rfl, rfl⟩ | ⟨x, t, rfl, rfl⟩
  ·rcases keyIs_shape hb with ⟨j, u, rfl, e⟩ | ⟨y, u, rfl, e⟩
   ·injection e with e1 _; rw [e1]
   ·exact nomatch e
  ·rcases keyIs_shape hb with ⟨j, u, rfl, e⟩ | ⟨y, u, rfl, e⟩
   ·exact nomatch e
   ·injection e with e1 _; rw [e1]
 byValue := fun k v h => by
  rcases keyIs_shape h with ⟨i, t, rfl, rfl⟩ | ⟨x, t, rfl, rfl⟩ <;> rfl
 pyHash := fun hv h => by
  rcases keyIs_shape hv with ⟨i, t, rfl, rfl⟩ | ⟨x, t, rfl, rfl⟩
  ·exact wpAny_pyHash_int h
  ·exact wpAny_pyHash_str h
 eqBool := fun hu hv h => by
  rcases keyIs_shape hu with ⟨i, t, rfl, rfl⟩ | ⟨x, t, rfl, rfl⟩
  ·rcases keyIs_shape hv with ⟨j, u, rfl, rfl⟩ | ⟨y, u, rfl, rfl⟩
   ·rw [key_ll] at h; exact wpAny_eqBool_int h
   ·rw [key_lr] at h; exact SeqAt.EqAt.int_str i t y u _ _ _ _ h
  ·rcases keyIs_shape hv with ⟨j, u, rfl, rfl⟩ | ⟨y, u, rfl, rfl⟩
   ·rw [key_rl] at h; exact SeqAt.EqAt.str_int x t j u _ _ _ _ h
   ·rw [key_rr] at h; exact wpAny_eqBool_str h
 «strs» := fun k x t v h => by
  rcases keyIs_shape h with ⟨i, u, rfl, e⟩ | ⟨y, u, rfl, e⟩
  ·exact nomatch e
  ·injection e with e1 _
   subst e1
   cases v <;> rfl
theorem mixKind_int (prog : Program) (w : World) (i : Int) (t : Tok) : (mixKind prog w).is (.inl i) (.int i t) = true := keyIs_int i t
theorem mixKind_str (prog : Program) (w : World) (x : Str) (t : Tok) : (mixKind prog w).is (.inr x) (.str x t) = true := keyIs_str x t
inductive V where
 | non | bl (b : Bool) | int (i : Int) | str (x : Str) | byt (b : Array UInt8) | flt (b : UInt64) | ref (a : Addr) | ty (n : String)
 deriving DecidableEq
def RelV : V -> Value -> Prop
 | .non, u => u = Value.none
 | .bl b, u => u = Value.bool b
 | .int i, u => ∃ t, u = Value.int i t
 | .str x, u => ∃ t, u = Value.str x t
 | .byt b, u => ∃ t, u = Value.bytes b t
 | .flt b, u => ∃ t, u = Value.float b t
 | .ref a, u => u = Value.ref a
 | .ty n, u => u = Value.type n
abbrev Vals : List V -> List Value -> Prop := Paired RelV
theorem Vals.length {xs : List V} {us : List Value} (r : Vals xs us) : xs.length = us.length := Paired.length r
theorem Vals.get : ∀ {xs : List V} {us : List Value} {i : Nat} {x : V}, Vals xs us -> xs[i]? = some x -> ∃ u, us[i]? = some u /\ RelV x u
 | _, _, _, _, .nil, e => by simp at e
 | _, _, 0, _, .cons r _, e => by simp at e; subst e; exact ⟨_, rfl, r⟩
 | _, _, i + 1, x, .cons _ t, e => by
  obtain ⟨u, h1, h2⟩ := Vals.get (i := i) (x := x) t (by simpa using e)
  exact ⟨u, by simpa using h1, h2⟩
theorem Vals.set  (r : RelV x u) : ∀ {xs : List V} {us : List Value} (i : Nat), Vals xs us -> Vals (xs.set i x) (us.set i u)
 | _, _, _, .nil => .nil
 | _, _, 0, .cons _ t => .cons r t
 | _, _, i + 1, .cons q t => .cons q (Vals.set r i t)
theorem Vals.append : ∀ {xs ys : List V} {us ws : List Value}, Vals xs us -> Vals ys ws -> Vals (xs ++ ys) (us ++ ws)
 | _, _, _, _, .nil, s => s
 | _, _, _, _, .cons r t, s => .cons r (Vals.append t s)
theorem Vals.take : ∀ {xs : List V} {us : List Value} (n : Nat), Vals xs us -> Vals (xs.take n) (us.take n)
 | _, _, 0, _ => .nil
 | _, _, _ + 1, .nil => .nil
 | _, _, n + 1, .cons r t => .cons r (Vals.take n t)
theorem Vals.drop : ∀ {xs : List V} {us : List Value} (n : Nat), Vals xs us -> Vals (xs.drop n) (us.drop n)
 | _, _, 0, r => r
 | _, _, _ + 1, .nil => .nil
 | _, _, n + 1, .cons _ t => Vals.drop n t
def RelO : Option V -> Option Value -> Prop
 | some v, some u => RelV v u
 | none, none => True
 | _, _ => False
def KV {κ : Type} : List (κ × V) -> List (κ × Value) -> Prop := Paired fun (p : κ × V) (q : κ × Value) => p.1 = q.1 /\ RelV p.2 q.2
def kV : Key -> V
 | .inl i => .int i
 | .inr x => .str x
inductive HO where
 /-- a list -/
 | lst (xs : List V)
 /-- a tuple (never changes) -/
 | tup (xs : List V)
 /-- a dict whose keys are ints and texts; one whose keys are tuples of ints and texts (the empty one is both) -/
 | dK (kvs : List (Key × V)) | dT (kvs : List (List Key × V))
 /-- a set of ints: its members, its size -/
 | set (S : Int -> Bool) (n : Nat)
 /-- an instance of the class at C, its dict at dx, its attributes -/
 | ins (C dx : Addr) (fs : List (Str × V))
 /-- the dict of the instance at x -/
 | own (x : Addr)
 /-- the dict of an exception -/
 | xd (fs : List (Str × V))
 /-- a bound method, f of x -/
 | met (f x : Addr)
 /-- a range object lo, lo + 1, .. below hi -/
 | rng (lo hi : Int)
 /-- a thing that is known to the object (the script; a dict while a loop walks it): read, never written while it is so -/
 | frz (o : Obj) (u : HO)
 /-- a code object's table -/
 | tbl (ps : Array Value)
 /-- any other thing, by what is true of its one object (a def of one's own: SetO a S n := HO.ext fun h => ..) -/
 | ext (φ : Heap -> Prop)
abbrev Hp := Addr -> Option HO
def upd (H : Hp) (a : Addr) (o : HO) : Hp := fun b => if b = a then some o else H b
theorem upd_same  : upd H a o a = some o := by unfold upd; rw [if_pos rfl]
theorem upd_ne  (h : b ≠ a) : upd H a o b = H b := by unfold upd; rw [if_neg h]
theorem upd_upd  : upd (upd H a o) a u = upd H a u := by
 funext b; unfold upd; split <;> rfl
theorem ne_of {H : Hp} {a b : Addr} {o u : HO} (h : H a = some o) (h' : H b = some u) (d : o ≠ u) : a ≠ b := by
 intro e; subst e; rw [h] at h'; exact d (Option.some.inj h')
theorem ne_of_none {H : Hp} {a b : Addr} {o : HO} (h : H a = some o) (h' : H b = none) : a ≠ b := by
 intro e; subst e; rw [h] at h'; cases h'
section
variable (P : Program) (w : World)
def ObjOk (H : Hp) (h : Heap) (a : Addr) : HO -> Prop
 | .lst xs => xs.length <= sizeLine /\ ∃ (its : List Value) (n : Nat), Vals xs its /\ h.get? a = some { cls := .type "list", data := .seq its.toArray n }
 | .tup xs => xs.length <= sizeLine /\ ∃ its : List Value, Vals xs its /\ IsTup h a its.toArray
 | .dK kvs => kvs.length <= sizeLine /\ (a == sysModules) = false /\ ∃ vs, KV kvs vs /\ h.DictOf (mixKind P w) a vs
 | .dT kvs => kvs.length <= sizeLine /\ (a == sysModules) = false /\ ∃ xs : List (List Key × Addr × Value),
   Paired (fun (p : List Key × V) (q : List Key × Addr × Value) => p.1 = q.1 /\ H q.2.1 = some (.tup (p.1.map kV)) /\ RelV p.2 q.2.2) kvs xs /\
   ∃ o es ep, h.get? a = some o /\ o.ExactDict /\ o.data = .dict es ep /\ es.toList = xs.map (entryOfKey (tupleKind (mixKind P w))) /\ (xs.map (·.1)).Nodup
 | .set S n => h.SetOf (intKind P w) a S n
 | .ins C dx fs => H dx = some (.own a) /\ fs.length <= 1000 /\ dx ≠ a /\ h.get? a = some (PySem.W.instObj C dx) /\
   ∃ mA, h.Ns1 dx mA /\ (∀ f, RelO (fs.lookup f) (mA f)) /\ PySem.Within mA (fs.map (·.1))
 | .own _ => ∃ o, h.get? a = some o
 | .xd fs => ∃ mA, h.Ns1 a mA /\ ∀ f, RelO (fs.lookup f) (mA f)
 | .rng lo hi => ∃ t u v, h.get? a = some { cls := .type "range", data := .fields #[.int lo t, .int hi u, .int 1 v] }
 | .frz o u => h.get? a = some o /\ ObjOk H h a u
 | .tbl ps => h.get? a = some { cls := .none, data := .fields ps }
 | .met f x => h.get? a = some (PySem.W.methodObj (.ref f) (.ref x))
 | .ext φ => φ h /\ (∃ o, h.get? a = some o) /\ ∀ h1 h2 : Heap, φ h1 -> (∀ o, h1.get? a = some o -> h2.get? a = some o) -> φ h2
def HOk (H : Hp) (h : Heap) : Prop := ∀ a o, H a = some o -> ObjOk P w H h a o
end
section
variable {P : Program} {w : World} {H H' : Hp} {h h' : Heap} {a : Addr} {o : HO}
theorem ObjOk.lt (x : ObjOk P w H h a o) : a < h.objs.size := by
 cases o with
 | lst xs => obtain ⟨_, _, _, _, e⟩ := x; exact Heap.lt_size e
 | tup xs => obtain ⟨_, _, _, p⟩ := x; exact p.lt
 | dK kvs => obtain ⟨_, _, _, _, o, _, _, e, _⟩ := x; exact Heap.lt_size e
 | dT kvs => obtain ⟨_, _, _, _, o, _, _, e, _⟩ := x; exact Heap.lt_size e
 | set S n => obtain ⟨o, _, _, _, e, _⟩ := x; exact Heap.lt_size e
 | ins C dx fs => obtain ⟨_, _, _, e, _⟩ := x; exact Heap.lt_size e
 | own y => obtain ⟨_, e⟩ := x; exact Heap.lt_size e
 | xd fs => obtain ⟨_, ⟨_, _, _, e, _⟩, _⟩ := x; exact Heap.lt_size e
 | rng lo hi => obtain ⟨_, _, _, e⟩ := x; exact Heap.lt_size e
 | frz ob u => obtain ⟨e, _⟩ := x; exact Heap.lt_size e
 | tbl ps => exact Heap.lt_size (show h.get? a = some _ from x)
 | met f y => exact Heap.lt_size (show h.get? a = some _ from x)
 | ext φ => obtain ⟨_, ⟨_, e⟩, _⟩ := x; exact Heap.lt_size e
theorem Paired.mapP {α β : Type} {F G : α -> β -> Prop} : ∀ {l₁ : List α} {l₂ : List β}, Paired F l₁ l₂ -> (∀ a b, F a b -> G a b) -> Paired G l₁ l₂
 | _, _, .nil, _ => .nil
 | _, _, .cons r t, f => .cons (f _ _ r) (Paired.mapP t f)
theorem ObjOk.stay (x : ObjOk P w H h a o) (k : ∀ b u, (b = a \/ H b = some (.own a)) -> h.get? b = some u -> h'.get? b = some u)
  (ho : ∀ b, H b = some (.own a) -> H' b = some (.own a)) (ht : ∀ b xs, H b = some (.tup xs) -> H' b = some (.tup xs)) : ObjOk P w H' h' a o := by
 induction o with
 | lst xs => obtain ⟨z, its, n, r, e⟩ := x; exact ⟨z, its, n, r, k _ _ (.inl rfl) e⟩
 | tup xs => obtain ⟨z, its, r, ob, e, c⟩ := x; exact ⟨z, its, r, ob, k _ _ (.inl rfl) e, c⟩
 | dK kvs => obtain ⟨z, y, vs, r, ob, es, ep, e, c⟩ := x; exact ⟨z, y, vs, r, ob, es, ep, k _ _ (.inl rfl) e, c⟩
 | dT kvs =>
  obtain ⟨z, y, xs, r, ob, es, ep, e, c⟩ := x
  exact ⟨z, y, xs, Paired.mapP r fun p q z => ⟨z.1, ht _ _ z.2.1, z.2.2⟩, ob, es, ep, k _ _ (.inl rfl) e, c⟩
 | set S n => obtain ⟨ob, es, ep, t, e, c⟩ := x; exact ⟨ob, es, ep, t, k _ _ (.inl rfl) e, c⟩
 | ins C dx fs =>
  obtain ⟨d, z, ne, e, mA, ⟨od, es, ep, e2, c⟩, r⟩ := x
  exact ⟨ho _ d, z, ne, k _ _ (.inl rfl) e, mA, ⟨od, es, ep, k _ _ (.inr d) e2, c⟩, r⟩
 | own y => obtain ⟨ob, e⟩ := x; exact ⟨ob, k _ _ (.inl rfl) e⟩
 | xd fs => obtain ⟨mA, ⟨od, es, ep, e, c⟩, r⟩ := x; exact ⟨mA, ⟨od, es, ep, k _ _ (.inl rfl) e, c⟩, r⟩
 | rng lo hi => obtain ⟨t, u, v, e⟩ := x; exact ⟨t, u, v, k _ _ (.inl rfl) e⟩
 | frz ob u ih => obtain ⟨e, q⟩ := x; exact ⟨k _ _ (.inl rfl) e, ih q⟩
 | tbl ps =>
  have e : h.get? a = some { cls := .none, data := .fields ps } := x
  show h'.get? a = some { cls := .none, data := .fields ps }
  exact k a _ (.inl rfl) e
 | met f y =>
  have e : h.get? a = some (PySem.W.methodObj (.ref f) (.ref y)) := x
  show h'.get? a = some (PySem.W.methodObj (.ref f) (.ref y))
  exact k a _ (.inl rfl) e
 | ext φ => obtain ⟨p, ⟨o, e⟩, st⟩ := x; exact ⟨st _ _ p fun o q => k _ _ (.inl rfl) q, ⟨o, k _ _ (.inl rfl) e⟩, st⟩
theorem HOk.lt (x : HOk P w H h) (e : H a = some o) : a < h.objs.size := (x a o e).lt
theorem HOk.fresh (x : HOk P w H h) (e : h.objs.size <= a) : H a = none := by
 cases q : H a with
 | none => rfl
 | some u => exact absurd (Nat.lt_of_lt_of_le (x.lt q) e) (Nat.lt_irrefl _)
theorem HOk.kept (x : HOk P w H h) (k : ∀ b u, h.get? b = some u -> h'.get? b = some u) : HOk P w H h' := fun a o e =>
 (x a o e).stay (fun b u _ q => k b u q) (fun _ q => q) fun _ _ q => q
theorem HOk.laid (x : HOk P w H h) (k : ∀ b u, h.get? b = some u -> h'.get? b = some u) (hp : h.objs.size <= a) (new : ObjOk P w (upd H a o) h' a o) : HOk P w (upd H a o) h' := fun b u e => by
 have hn := x.fresh hp
 by_cases hb : b = a
 ·subst hb; rw [upd_same] at e; cases e; exact new
 ·rw [upd_ne hb] at e
  exact (x b u e).stay (fun c v _ q => k c v q) (fun c q => by rw [upd_ne (ne_of_none q hn)]; exact q) fun c xs q => by rw [upd_ne (ne_of_none q hn)]; exact q
end
def Rd (H : Hp) (a : Addr) (u : HO) : Prop := H a = some u \/ ∃ o, H a = some (.frz o u)
theorem Rd.ok {P : Program} {w : World} {H : Hp} {h : Heap} {a : Addr} {u : HO} (r : Rd H a u) (x : HOk P w H h) : ObjOk P w H h a u := by
 rcases r with r | ⟨o, r⟩
 ·exact x a u r
 ·obtain ⟨_, q⟩ := x a _ r
  exact q
def Mut : Option HO -> Prop
 | some (.lst _) => True
 | some (.dK _) => True
 | some (.dT _) => True
 | some (.set _ _) => True
 | some (.ins _ _ _) => True
 | some (.ext _) => True
 | _ => False
section
variable {P : Program} {w : World} {H : Hp} {h h' : Heap} {x e : Addr} {o' : HO}
theorem HOk.write (ok : HOk P w H h) (mu : Mut (H x)) (he : e = x \/ H e = some (.own x)) (k : ∀ b u, b ≠ e -> h.get? b = some u -> h'.get? b = some u) (heo : ∃ u, h'.get? e = some u)
  (new : ObjOk P w (upd H x o') h' x o') : HOk P w (upd H x o') h' := fun b u q => by
 have nown : ∀ c y, H c = some (.own y) -> c ≠ x := fun c y r z => by subst z; rw [r] at mu; exact mu
 have ntup : ∀ c xs, H c = some (.tup xs) -> c ≠ x := fun c xs r z => by subst z; rw [r] at mu; exact mu
 by_cases hb : b = x
 ·subst hb; rw [upd_same] at q; cases q; exact new
 ·rw [upd_ne hb] at q
  by_cases hbe : b = e
  ·have q' : H b = some (.own x) := by
    rcases he with z | z
    ·exact absurd (hbe.trans z) hb
    ·rw [hbe]; exact z
   rw [q] at q'; cases q'
   obtain ⟨v, hv⟩ := heo
   exact ⟨v, by rw [hbe]; exact hv⟩
  ·refine (ok b u q).stay (fun c v hc r => k c v ?_ r) (fun c r => by rw [upd_ne (nown c b r)]; exact r) fun c xs r => by rw [upd_ne (ntup c xs r)]; exact r
   rcases hc with rfl | hc
   ·exact hbe
   ·rintro rfl
    rcases he with z | z
    ·exact nown c b hc z
    ·rw [hc] at z; cases z; exact hb rfl
end
structure Un (fs ex : List Addr) (H H' : Hp) (h h' : Heap) : Prop where
 keep : ∀ b o, h.get? b = some o -> H b = none -> b ∉ fs -> b ∉ ex -> h'.get? b = some o
 slot : ∀ b o, h.get? b = some o -> H b = none -> b ∈ fs -> b ∉ ex -> ∃ sl, h'.get? b = some { o with slots := sl }
 free : ∀ b o, h.get? b = some o -> H b = none -> b ∉ ex -> H' b = none
 there : ∀ b o, h.get? b = some o -> b ∉ ex -> ∃ o', h'.get? b = some o'
 tups : ∀ b xs, H b = some (.tup xs) -> H' b = some (.tup xs)
 frzs : ∀ b o u, H b = some (.frz o u) -> H' b = some (.frz o u)
 tbls : ∀ b ps, H b = some (.tbl ps) -> ∃ more, H' b = some (.tbl (ps ++ more))
section
variable {fs fs' ex ex' : List Addr} {H H1 H2 : Hp} {h h1 h2 h' : Heap} {a x e : Addr} {o : HO}
theorem Un.any (u : Un fs ex H H1 h h1) {b : Addr} {ob : Obj} (q : h.get? b = some ob) (n : H b = none) (hx : b ∉ ex) : ∃ sl, h1.get? b = some { ob with slots := sl } := by
 by_cases hb : b ∈ fs
 ·exact u.slot b ob q n hb hx
 ·exact ⟨ob.slots, u.keep b ob q n hb hx⟩
theorem Un.kept (k : ∀ b u, h.get? b = some u -> h'.get? b = some u) : Un fs ex H H h h' :=
 ⟨fun b ob q _ _ _ => k b ob q, fun b ob q _ _ _ => ⟨ob.slots, k b ob q⟩, fun _ _ _ n _ => n, fun b ob q _ => ⟨ob, k b ob q⟩, fun _ _ q => q, fun _ _ _ q => q, fun _ ps q => ⟨#[], by rw [q]; simp⟩⟩
theorem Un.refl : Un fs ex H H h h := Un.kept fun _ _ q => q
theorem Un.laid (k : ∀ b u, h.get? b = some u -> h'.get? b = some u) (hp : h.objs.size <= a) (hn : H a = none) : Un fs ex H (upd H a o) h h' where
 keep := fun b u q _ _ _ => k b u q
 slot := fun b u q _ _ _ => ⟨u.slots, k b u q⟩
 free := fun b u q n _ => by rw [upd_ne (Nat.ne_of_lt (Nat.lt_of_lt_of_le (Heap.lt_size q) hp))]; exact n
 there := fun b u q _ => ⟨u, k b u q⟩
 tups := fun b xs q => by rw [upd_ne (ne_of_none q hn)]; exact q
 frzs := fun b u xs q => by rw [upd_ne (ne_of_none q hn)]; exact q
 tbls := fun b ps q => ⟨#[], by rw [upd_ne (ne_of_none q hn), q]; simp⟩
theorem Un.write (mu : Mut (H x)) (he : e = x \/ H e = some (.own x)) (k : ∀ b u, b ≠ e -> h.get? b = some u -> h'.get? b = some u) (heo : ∃ u, h'.get? e = some u) : Un fs ex H (upd H x o) h h' := by
 have hx : ∀ b, H b = none -> b ≠ x := fun b n z => by subst z; rw [n] at mu; exact mu
 have hb : ∀ b, H b = none -> b ≠ e := fun b n z => by
  subst z
  rcases he with r | r
  ·exact hx b n r
  ·rw [n] at r; cases r
 have hm : ∀ b u, H b = some u -> ¬ Mut (some u) -> b ≠ x := fun b u q nm z => by subst z; rw [q] at mu; exact nm mu
 refine ⟨fun b u q n _ _ => k b u (hb b n) q, fun b u q n _ _ => ⟨u.slots, k b u (hb b n) q⟩, fun b u q n _ => by rw [upd_ne (hx b n)]; exact n, fun b u q _ => ?_,
  fun b xs q => by rw [upd_ne (hm b _ q fun z => z)]; exact q, fun b u xs q => by rw [upd_ne (hm b _ q fun z => z)]; exact q, fun b ps q => ⟨#[], by rw [upd_ne (hm b _ q fun z => z), q]; simp⟩⟩
 by_cases hbe : b = e
 ·subst hbe; exact heo
 ·exact ⟨u, k b u hbe q⟩
end
def trk (h : Heap) (H : Hp) : List Addr := (List.range h.objs.size).filter fun a => (H a).isSome
def hidT (h : Heap) (H : Hp) : Heap := PySem.W.hideAll h (trk h H)
theorem hidT_size (h : Heap) (H : Hp) : (hidT h H).objs.size = h.objs.size := PySem.W.hideAll_size _ _
theorem hidT_get {h : Heap} {H : Hp} {b : Addr} {o : Obj} (e : h.get? b = some o) (n : H b = none) : (hidT h H).get? b = some o :=
 PySem.W.hideAll_get _ e fun hm => by
  have q : (H b).isSome = true := (List.mem_filter.mp hm).2
  rw [n] at q; simp at q
theorem of_hidT {h : Heap} {H : Hp} {b : Addr} {o : Obj} (e : (hidT h H).get? b = some o) : h.get? b = some o /\ H b = none := by
 have e' : h.get? b = some o := PySem.W.of_hideAll (trk h H) e
 refine ⟨e', ?_⟩
 cases q : H b with
 | none => rfl
 | some x =>
  have hm : b ∈ trk h H := List.mem_filter.mpr ⟨List.mem_range.mpr (Heap.lt_size e'), by simp [q]⟩
  have z : (hidT h H).get? b = none := PySem.W.hideAll_none (trk h H) hm
  rw [z] at e; cases e
structure Mod (K : PySem.W.Frag) (mg : Str -> Option Value) (base : Heap) : Prop where
 kin : K.In base
 glob : base.Ns mainGlobals mg
 blt : ∃ mb, base.Ns builtinsNs mb /\ ∀ x : Str, x ≠ "__name__" -> mb x = bootBuiltins x
 nolimit : base.NoLimit
structure Cx where
 prog : Program
 w : World
 K : PySem.W.Frag
 mg : Str -> Option Value
 base : Heap
 A : Around
 N : List Str
 s₀ : Shared
 H₀ : Hp
 env : Env
 outer : List Env
 stack : List Env
 ex : List Addr
 fn : Str -> Bool
 calm : Bool
 pn : List (Addr × Obj)
 xe : Value -> Shared -> Prop
def frs (l : List Env) : List Addr := l.filterMap (·.frame)
abbrev Cx.fs (X : Cx) : List Addr := frs X.outer
def Vis (sc : Scope) (x : Str) : Prop := sc.names.lookup x = some .local \/ sc.names.lookup x = some .cell \/ sc.names.lookup x = some .free
def Loc (sc : Scope) (x : Str) : Prop := sc.names.lookup x = some .local \/ sc.names.lookup x = some .cell
def Look (env : Env) (h : Heap) (m : Str -> Option Value) (x : Str) (u : Value) : Prop :=
 (env.kindOf x = some .local /\ m x = some u) \/ ((env.kindOf x = some .cell \/ env.kindOf x = some .free) /\ ∃ c, env.cells.lookup x = some c /\ h.IsCell c (some u))
structure Cx.Ok (X : Cx) : Prop where
 mod : Mod X.K X.mg X.base
 kind : X.env.scope.kind = .function
 glob : X.env.globals = mainGlobals
 blt : X.env.builtins = builtinsNs
 above : X.s₀.heap.objs.size <= X.env.locals
 inj : ∀ x y c, X.env.cells.lookup x = some c -> X.env.cells.lookup y = some c -> x = y
 has : ∀ x, (X.env.kindOf x = some .cell \/ X.env.kindOf x = some .free) -> ∃ c, X.env.cells.lookup x = some c
 cab : ∀ x c, X.fn x = true -> X.env.cells.lookup x = some c -> X.s₀.heap.objs.size <= c
 hd : X.calm = true -> X.A.handled = none
 frames : X.A.frames = some X.stack
 stk : X.stack = X.outer \/ (X.stack = X.env :: X.outer /\ X.env.frame = some X.env.locals)
 exf : ∀ b ∈ X.ex, b ≠ X.env.locals /\ ∀ x c, X.env.cells.lookup x = some c -> c ≠ b
 bs : ∀ b o, X.base.get? b = some o -> X.s₀.heap.get? b = some o /\ X.H₀ b = none
 bsz : X.base.objs.size <= X.s₀.heap.objs.size
 noex : ∀ b o, X.base.get? b = some o -> b ∉ X.ex
 exfs : ∀ b ∈ X.ex, b ∉ X.fs
 funs : X.s₀.heap.FunFrames X.base X.outer
 frf : ∀ b ∈ X.fs, X.H₀ b = none
structure Inv (X : Cx) (pins : List (Addr × Obj)) (σ : List (Option V)) (H : Hp) (s : Shared) : Prop where
 ok : X.Ok
 os : s.os = X.s₀.os
 bare : AllBare s.gens
 base : Un X.fs X.ex X.H₀ H X.s₀.heap s.heap
 loc : ∃ m, s.heap.Ns X.env.locals m /\ ∀ (i : Nat) (x : Str) (v : V), X.N[i]? = some x -> σ[i]? = some (some v) -> Vis X.env.scope x -> ∃ u, RelV v u /\ Look X.env s.heap m x u
 cell : ∀ x c, X.env.cells.lookup x = some c -> ∃ v, s.heap.IsCell c v
 free : H X.env.locals = none
 freeC : ∀ x c, X.env.cells.lookup x = some c -> H c = none
 pin : ∀ p ∈ X.pn ++ pins, s.heap.get? p.1 = some p.2 /\ H p.1 = none /\ p.1 ≠ X.env.locals /\ p.1 ∉ X.fs /\ ∀ v, p.2.data ≠ .cell v
 hok : HOk X.prog X.w H s.heap
 len : σ.length = X.N.length
section
variable {X : Cx} {pins : List (Addr × Obj)} {σ : List (Option V)} {H H' : Hp} {s : Shared} {h' : Heap}
theorem Cx.Ok.nofr (ok : X.Ok)  (e : X.base.get? b = some o) : b ∉ X.fs := fun hb => by
 have := (ok.funs.mem hb).1
 rw [e] at this; cases this
theorem Inv.bs (I : Inv X pins σ H s) : ∀ b o, X.base.get? b = some o -> s.heap.get? b = some o /\ H b = none := fun b o e =>
 ⟨I.base.keep b o (I.ok.bs b o e).1 (I.ok.bs b o e).2 (I.ok.nofr e) (I.ok.noex b o e), I.base.free b o (I.ok.bs b o e).1 (I.ok.bs b o e).2 (I.ok.noex b o e)⟩
theorem Inv.bk (I : Inv X pins σ H s) : ∀ b o, X.base.get? b = some o -> s.heap.get? b = some o := fun b o e => (I.bs b o e).1
theorem Inv.mod (I : Inv X pins σ H s) : Mod X.K X.mg X.base := I.ok.mod
theorem Inv.kIn (I : Inv X pins σ H s) : X.K.In s.heap := I.ok.mod.kin.keeps I.bk
theorem Inv.lt (I : Inv X pins σ H s) : X.env.locals < s.heap.objs.size := let ⟨_, hn, _⟩ := I.loc; hn.lt
theorem Inv.sz (I : Inv X pins σ H s) : X.s₀.heap.objs.size <= s.heap.objs.size := Nat.le_trans I.ok.above (Nat.le_of_lt I.lt)
theorem Inv.nofs (I : Inv X pins σ H s) (h : s.heap.objs.size <= a) : a ∉ X.fs := fun hb => by
 obtain ⟨_, o, ho, _⟩ := I.ok.funs.mem hb
 exact absurd (Nat.lt_of_lt_of_le (Heap.lt_size ho) (Nat.le_trans I.sz h)) (Nat.lt_irrefl _)
theorem Inv.cne (I : Inv X pins σ H s) : ∀ x c, X.env.cells.lookup x = some c -> c ≠ X.env.locals := fun x c e z => by
 obtain ⟨v, o, ho, hd⟩ := I.cell x c e
 obtain ⟨m, ⟨o', es, ep, ho', hd', _⟩, _⟩ := I.loc
 rw [z, ho'] at ho; cases ho; rw [hd'] at hd; cases hd
theorem Inv.funs (I : Inv X pins σ H s) : s.heap.FunFrames X.base X.outer := by
 have all : ∀ (l : List Env), (∀ b ∈ frs l, b ∈ X.fs) -> X.s₀.heap.FunFrames X.base l -> s.heap.FunFrames X.base l := by
  intro l
  induction l with
  | nil => intro _ _; trivial
  | cons env r ih =>
   intro hs hl
   obtain ⟨hk, ⟨L, o, hf, hn, ho, hd⟩, hr⟩ := hl
   have hL : L ∈ X.fs := hs L (by unfold frs; rw [List.filterMap_cons, hf]; exact List.mem_cons_self)
   obtain ⟨sl, e⟩ := I.base.slot L o ho (I.ok.frf L hL) hL fun z => I.ok.exfs L z hL
   exact ⟨hk, ⟨L, _, hf, hn, e, hd⟩, ih (fun b hb => hs b (by unfold frs; rw [List.filterMap_cons, hf]; exact List.mem_cons_of_mem _ hb)) hr⟩
 exact all X.outer (fun _ hb => hb) I.ok.funs
theorem Inv.stack (I : Inv X pins σ H s) : s.heap.FunFrames X.base X.stack := by
 rcases I.ok.stk with e | ⟨e, hf⟩
 ·rw [e]; exact I.funs
 ·rw [e]
  obtain ⟨m, hn, _⟩ := I.loc
  refine .cons (by rw [I.ok.kind]; decide) hf hn ?_ I.funs
  exact Heap.get?_none_of_le (Nat.le_trans I.ok.bsz I.ok.above)
theorem Inv.stkSub (I : Inv X pins σ H s) : ∀ b ∈ frs X.stack, b ∈ X.env.locals :: X.fs := fun b hb => by
 rcases I.ok.stk with e | ⟨e, hf⟩
 ·rw [e] at hb; exact List.mem_cons_of_mem _ hb
 ·rw [e] at hb
  unfold frs at hb
  rw [List.filterMap_cons, hf] at hb
  exact hb
theorem Inv.stkFree (I : Inv X pins σ H s) : ∀ b ∈ frs X.stack, H b = none := fun b hb => by
 rcases List.mem_cons.mp (I.stkSub b hb) with e | hb
 ·rw [e]; exact I.free
 ·obtain ⟨_, o, ho, _⟩ := I.ok.funs.mem hb
  exact I.base.free b o ho (I.ok.frf b hb) fun z => I.ok.exfs b z hb
theorem Inv.step {g' : Array GenState} {t' : Nat} {d' : Drawn} {ch : List Addr} (I : Inv X pins σ H s)
  (hch : ∀ b ∈ ch, (b ∈ X.ex \/ X.s₀.heap.objs.size <= b) /\ b ≠ X.env.locals /\ (∀ x c, X.env.cells.lookup x = some c -> c ≠ b) /\ ∀ p ∈ X.pn ++ pins, p.1 ≠ b)
  (keep : ∀ b o, b ≠ X.env.locals -> b ∉ X.fs -> b ∉ ch -> s.heap.get? b = some o -> H b = none -> h'.get? b = some o)
  (slot : ∀ b o, b ≠ X.env.locals -> b ∈ X.fs -> b ∉ ch -> s.heap.get? b = some o -> H b = none -> ∃ sl, h'.get? b = some { o with slots := sl }) (free : ∀ b o, b ∉ ch -> s.heap.get? b = some o -> H b = none -> H' b = none)
  (there : ∀ b o, b ∉ ch -> s.heap.get? b = some o -> ∃ o', h'.get? b = some o')
  (tups : ∀ b xs, H b = some (.tup xs) -> H' b = some (.tup xs)) (frzs : ∀ b o u, H b = some (.frz o u) -> H' b = some (.frz o u)) (tbls : ∀ b ps, H b = some (.tbl ps) -> ∃ more, H' b = some (.tbl (ps ++ more)))
  (ns : ∀ m, s.heap.Ns X.env.locals m -> h'.Ns X.env.locals m) (hok : HOk X.prog X.w H' h') (hg : AllBare g') :
  Inv X pins σ H' { s with heap := h', gens := g', drawn := d', toks := t' } := by
 have neL : ∀ b o, X.s₀.heap.get? b = some o -> b ≠ X.env.locals := fun b o e => Nat.ne_of_lt (Nat.lt_of_lt_of_le (Heap.lt_size e) I.ok.above)
 have neC : ∀ b o, X.s₀.heap.get? b = some o -> b ∉ X.ex -> b ∉ ch := fun b o e hx hb => by
  rcases (hch b hb).1 with z | z
  ·exact hx z
  ·exact absurd (Nat.lt_of_lt_of_le (Heap.lt_size e) z) (Nat.lt_irrefl _)
 have cellK : ∀ x c, X.env.cells.lookup x = some c -> ∀ v, s.heap.IsCell c v -> h'.IsCell c v := fun x c e v ⟨o, ho, hd⟩ => by
  have nch : c ∉ ch := fun z => (hch c z).2.2.1 x c e rfl
  by_cases hc : c ∈ X.fs
  ·obtain ⟨sl, q⟩ := slot c o (I.cne x c e) hc nch ho (I.freeC x c e)
   exact ⟨_, q, hd⟩
  ·exact ⟨o, keep c o (I.cne x c e) hc nch ho (I.freeC x c e), hd⟩
 refine ⟨I.ok, I.os, hg, ⟨fun b o e n hb hx => ?_, fun b o e n hb hx => ?_, fun b o e n hx => ?_, fun b o e hx => ?_, fun b xs e => tups b xs (I.base.tups b xs e), fun b o xs e => frzs b o xs (I.base.frzs b o xs e), fun b ps e => ?_⟩, ?_, fun x c e => ?_, ?_, fun x c e => ?_, fun p hp => ?_, hok, I.len⟩
 ·exact keep b o (neL b o e) hb (neC b o e hx) (I.base.keep b o e n hb hx) (I.base.free b o e n hx)
 ·obtain ⟨sl, e1⟩ := I.base.slot b o e n hb hx
  obtain ⟨sl', e2⟩ := slot b _ (neL b o e) hb (neC b o e hx) e1 (I.base.free b o e n hx)
  exact ⟨sl', e2⟩
 ·obtain ⟨o', e1⟩ := I.base.there b o e hx
  exact free b o' (neC b o e hx) e1 (I.base.free b o e n hx)
 ·obtain ⟨o', e1⟩ := I.base.there b o e hx
  exact there b o' (neC b o e hx) e1
 ·obtain ⟨m1, e1⟩ := I.base.tbls b ps e
  obtain ⟨m2, e2⟩ := tbls b _ e1
  exact ⟨m1 ++ m2, by rw [e2, Array.append_assoc]⟩
 ·obtain ⟨m, hn, hl⟩ := I.loc
  refine ⟨m, ns m hn, fun i x v e1 e2 e3 => ?_⟩
  obtain ⟨u, r, l⟩ := hl i x v e1 e2 e3
  refine ⟨u, r, ?_⟩
  rcases l with l | ⟨k, c, e, z⟩
  ·exact .inl l
  ·exact .inr ⟨k, c, e, cellK x c e _ z⟩
 ·obtain ⟨v, z⟩ := I.cell x c e
  exact ⟨v, cellK x c e v z⟩
 ·obtain ⟨m, ⟨o, _, _, ho, _⟩, _⟩ := I.loc
  exact free _ o (fun z => (hch _ z).2.1 rfl) ho I.free
 ·obtain ⟨v, o, ho, hd⟩ := I.cell x c e
  exact free c o (fun z => (hch c z).2.2.1 x c e rfl) ho (I.freeC x c e)
 ·obtain ⟨e, n, ne, nf, d⟩ := I.pin p hp
  have nch : p.1 ∉ ch := fun z => (hch p.1 z).2.2.2 p hp rfl
  exact ⟨keep p.1 p.2 ne nf nch e n, free p.1 p.2 nch e n, ne, nf, d⟩
theorem Inv.un {t' : Nat} (I : Inv X pins σ H s) (u : Un X.fs [] H H' s.heap h') (hok : HOk X.prog X.w H' h') : Inv X pins σ H' { s with heap := h', toks := t' } := by
 obtain ⟨m, ⟨o, es, ep, ho, r⟩, _⟩ := id I.loc
 obtain ⟨sl, hL⟩ := u.any ho I.free (by simp)
 exact I.step (g' := s.gens) (d' := s.drawn) (ch := []) (fun _ z => nomatch z) (fun b o _ hb _ e n => u.keep b o e n hb (by simp)) (fun b o _ hb _ e n => u.slot b o e n hb (by simp)) (fun b o _ e n => u.free b o e n (by simp)) (fun b o _ e => u.there b o e (by simp)) u.tups u.frzs u.tbls (fun m' hm => by
  obtain ⟨o', es', ep', ho', r'⟩ := hm
  rw [ho] at ho'; cases ho'
  exact ⟨_, es', ep', hL, r'⟩) hok I.bare
theorem Inv.call {g' : Array GenState} {t' : Nat} {d' : Drawn} {ch : List Addr} (I : Inv X pins σ H s) (u : Un (frs X.stack) ch H H' s.heap h') (hok : HOk X.prog X.w H' h') (hg : AllBare g')
  (hch : ∀ b ∈ ch, (b ∈ X.ex \/ X.s₀.heap.objs.size <= b) /\ b ≠ X.env.locals /\ (∀ x c, X.env.cells.lookup x = some c -> c ≠ b) /\ ∀ p ∈ X.pn ++ pins, p.1 ≠ b) :
  Inv X pins σ H' { s with heap := h', gens := g', drawn := d', toks := t' } := by
 obtain ⟨m, ⟨o, es, ep, ho, r⟩, _⟩ := id I.loc
 obtain ⟨sl, hL⟩ := u.any ho I.free fun z => (hch _ z).2.1 rfl
 exact I.step (ch := ch) hch (fun b o hL hb hc e n => u.keep b o e n (fun z => (List.mem_cons.mp (I.stkSub b z)).elim hL hb) hc) (fun b o _ _ hc e n => u.any e n hc) (fun b o hc e n => u.free b o e n hc) (fun b o hc e => u.there b o e hc) u.tups u.frzs u.tbls (fun m' hm => by
  obtain ⟨o', es', ep', ho', r'⟩ := hm
  rw [ho] at ho'; cases ho'
  exact ⟨_, es', ep', hL, r'⟩) hok hg
theorem Inv.turned {t' : Nat} {it : Addr} (I : Inv X pins σ H s) (k : ∀ b o, b ≠ it -> s.heap.get? b = some o -> h'.get? b = some o) (hn : H it = none) (hL : it ≠ X.env.locals)
  (h1 : it ∈ X.ex \/ X.s₀.heap.objs.size <= it) (h2 : ∀ x c, X.env.cells.lookup x = some c -> c ≠ it) (h3 : ∀ p ∈ X.pn ++ pins, p.1 ≠ it) : Inv X pins σ H { s with heap := h', toks := t' } := by
 have nit : ∀ b u, H b = some u -> b ≠ it := fun b u e z => by rw [z, hn] at e; cases e
 refine I.step (g' := s.gens) (d' := s.drawn) (ch := [it]) (fun b hb => ?_) (fun b o _ _ hc e _ => k b o (fun z => hc (by simp [z])) e) (fun b o _ _ hc e _ => ⟨o.slots, k b o (fun z => hc (by simp [z])) e⟩) (fun _ _ _ _ n => n)
  (fun b o hc e => ⟨o, k b o (fun z => hc (by simp [z])) e⟩) (fun _ _ e => e) (fun _ _ _ e => e) (fun b ps e => ⟨#[], by rw [e]; simp⟩) (fun m hm => ?_) (fun b u e => ?_) I.bare
 ·have e : b = it := by simpa using hb
  subst e
  exact ⟨h1, hL, h2, h3⟩
 ·obtain ⟨o, es, ep, ho, r⟩ := hm
  exact ⟨o, es, ep, k _ o (Ne.symm hL) ho, r⟩
 ·refine (I.hok b u e).stay (fun c v hc q => k c v ?_ q) (fun _ q => q) fun _ _ q => q
  rcases hc with z | z
  ·rw [z]; exact nit b u e
  ·exact nit c _ z
theorem Inv.tok (I : Inv X pins σ H s) (t : Nat) : Inv X pins σ H { s with toks := t } := I.un (h' := s.heap) (t' := t) Un.refl I.hok
theorem Inv.kept {t' : Nat} (I : Inv X pins σ H s) (k : ∀ b u, s.heap.get? b = some u -> h'.get? b = some u) : Inv X pins σ H { s with heap := h', toks := t' } := I.un (Un.kept k) (I.hok.kept k)
theorem Inv.laid {a : Addr} {o : HO} {t' : Nat} (I : Inv X pins σ H s) (k : ∀ b u, s.heap.get? b = some u -> h'.get? b = some u) (hp : s.heap.objs.size <= a) (new : ObjOk X.prog X.w (upd H a o) h' a o) :
  Inv X pins σ (upd H a o) { s with heap := h', toks := t' } := I.un (Un.laid k hp (I.hok.fresh hp)) (I.hok.laid k hp new)
theorem Inv.write {x e : Addr} {o : HO} {t' : Nat} (I : Inv X pins σ H s) (mu : Mut (H x)) (he : e = x \/ H e = some (.own x)) (k : ∀ b u, b ≠ e -> s.heap.get? b = some u -> h'.get? b = some u) (heo : ∃ u, h'.get? e = some u)
  (new : ObjOk X.prog X.w (upd H x o) h' x o) : Inv X pins σ (upd H x o) { s with heap := h', toks := t' } := I.un (Un.write mu he k heo) (I.hok.write mu he k heo new)
theorem Inv.weak (I : Inv X pins σ H s) (hl : σ'.length = σ.length) (w : ∀ (i : Nat) v, σ'[i]? = some (some v) -> σ[i]? = some (some v)) : Inv X pins σ' H s :=
 ⟨I.ok, I.os, I.bare, I.base, let ⟨m, hn, hl'⟩ := I.loc; ⟨m, hn, fun i x v e1 e2 e3 => hl' i x v e1 (w i v e2) e3⟩, I.cell, I.free, I.freeC, I.pin, I.hok, hl.trans I.len⟩
theorem Inv.pins_of (I : Inv X pins σ H s) (h : ∀ p ∈ pins', s.heap.get? p.1 = some p.2 /\ H p.1 = none /\ p.1 ≠ X.env.locals /\ p.1 ∉ X.fs /\ ∀ v, p.2.data ≠ .cell v) : Inv X pins' σ H s :=
 ⟨I.ok, I.os, I.bare, I.base, I.loc, I.cell, I.free, I.freeC, fun p hp => (List.mem_append.mp hp).elim (fun z => I.pin p (List.mem_append_left _ z)) (h p), I.hok, I.len⟩
theorem nodup_ix {N : List Str} (hN : N.Nodup) {i j : Nat} {x : Str} (a : N[i]? = some x) (b : N[j]? = some x) : i = j := by
 obtain ⟨h1, e1⟩ := List.getElem?_eq_some_iff.mp a
 obtain ⟨h2, e2⟩ := List.getElem?_eq_some_iff.mp b
 exact (List.getElem_inj hN).mp (e1.trans e2.symm)
theorem store_ok2 {M : Model} {A : Around} {E : Value -> Shared -> Prop} {i : Nat} {x : Str} {v : V} {u : Value} {Q : Unit -> Shared -> Prop} (I : Inv X pins σ H s) (hN : X.N.Nodup) (hi : X.N[i]? = some x) (hx : Loc X.env.scope x) (r : RelV v u)
  (h : ∀ s', Inv X pins (σ.set i (some v)) H s' -> (∃ a, Heap.SameBut a s.heap s'.heap /\ (a = X.env.locals \/ X.env.cells.lookup x = some a)) -> Q () s') (hf : X.fn x = true \/ X.env.scope.names.lookup x = some .local := by first | exact .inl rfl | exact .inr rfl | assumption) : wpAny M A (storeName X.env x u) Q E s := by
 obtain ⟨m, hn, hl⟩ := id I.loc
 have hcls : (X.env.scope.kind == .class || (X.env.scope.kind == .module && X.env.locals != X.env.globals)) = false := by rw [I.ok.kind]; rfl
 have hiσ : i < σ.length := by rw [I.len]; exact (List.getElem?_eq_some_iff.mp hi).1
 have cne := I.cne
 have tracked : ∀ {a : Addr} {h' : Heap}, (∃ o, s.heap.get? a = some o /\ H a = none) -> Heap.SameBut a s.heap h' -> HOk X.prog X.w H h' := fun {a h'} ha hs b ob e => by
  obtain ⟨_, _, hfree⟩ := ha
  refine (I.hok b ob e).stay (fun c w' hc q => (hs.2 c ?_).trans q) (fun _ q => q) fun _ _ q => q
  rintro rfl
  rcases hc with rfl | hc
  ·rw [hfree] at e; cases e
  ·rw [hfree] at hc; cases hc
 rcases hx with hk | hk
 ·refine wpAny_storeName_local hk hn (fun h' hn' hs => ?_) hcls
  obtain ⟨oL, _, _, hoL, _⟩ := id hn
  refine h _ ⟨I.ok, I.os, I.bare, ⟨fun b o e n hb hx => ?_, fun b o e n hb hx => ?_, I.base.free, fun b o e hx => ?_, I.base.tups, I.base.frzs, I.base.tbls⟩, ⟨_, hn', fun j y v' e1 e2 e3 => ?_⟩, fun y c e => ?_, I.free, I.freeC, fun p hp => ?_, tracked ⟨oL, hoL, I.free⟩ hs, by simpa using I.len⟩ ⟨_, hs, .inl rfl⟩
  ·exact (hs.2 b (Nat.ne_of_lt (Nat.lt_of_lt_of_le (Heap.lt_size e) I.ok.above))).trans (I.base.keep b o e n hb hx)
  ·obtain ⟨sl, e1⟩ := I.base.slot b o e n hb hx
   exact ⟨sl, (hs.2 b (Nat.ne_of_lt (Nat.lt_of_lt_of_le (Heap.lt_size e) I.ok.above))).trans e1⟩
  ·obtain ⟨o', e1⟩ := I.base.there b o e hx
   exact ⟨o', (hs.2 b (Nat.ne_of_lt (Nat.lt_of_lt_of_le (Heap.lt_size e) I.ok.above))).trans e1⟩
  ·by_cases hj : j = i
   ·subst hj
    rw [hi] at e1; cases e1
    rw [List.getElem?_set_self hiσ] at e2
    cases e2
    exact ⟨u, r, .inl ⟨hk, by simp⟩⟩
   ·rw [List.getElem?_set_ne (Ne.symm hj)] at e2
    obtain ⟨u', r', q⟩ := hl j y v' e1 e2 e3
    refine ⟨u', r', ?_⟩
    rcases q with ⟨k, e⟩ | ⟨k, c, e, z⟩
    ·refine .inl ⟨k, ?_⟩
     have : y ≠ x := fun e => hj (nodup_ix hN e1 (e ▸ hi))
     simp [this, e]
    ·exact .inr ⟨k, c, e, z.sameBut hs (cne y c e)⟩
  ·obtain ⟨w', z⟩ := I.cell y c e
   exact ⟨w', z.sameBut hs (cne y c e)⟩
  ·obtain ⟨e, n, ne, nf, d⟩ := I.pin p hp
   exact ⟨(hs.2 p.1 ne).trans e, n, ne, nf, d⟩
 ·have hfn : X.fn x = true := by
   rcases hf with z | z
   ·exact z
   ·rw [z] at hk; cases hk
  obtain ⟨c, hc⟩ := I.ok.has x (.inl hk)
  obtain ⟨w', z⟩ := I.cell x c hc
  refine wpAny_storeName_cell I.ok.kind hk hc z (fun h' hc' hs => ?_)
  obtain ⟨oc, hoc, hocd⟩ := id z
  refine h { s with heap := h' } ⟨I.ok, I.os, I.bare, ⟨fun b o e n hb hx => ?_, fun b o e n hb hx => ?_, I.base.free, fun b o e hx => ?_, I.base.tups, I.base.frzs, I.base.tbls⟩, ⟨m, hn.sameBut hs (Ne.symm (cne x c hc)), fun j y v' e1 e2 e3 => ?_⟩, fun y c' e => ?_, I.free, I.freeC, fun p hp => ?_, tracked ⟨oc, hoc, I.freeC x c hc⟩ hs, by simpa using I.len⟩ ⟨c, hs, .inr hc⟩
  ·exact (hs.2 b (Nat.ne_of_lt (Nat.lt_of_lt_of_le (Heap.lt_size e) (I.ok.cab x c hfn hc)))).trans (I.base.keep b o e n hb hx)
  ·obtain ⟨sl, e1⟩ := I.base.slot b o e n hb hx
   exact ⟨sl, (hs.2 b (Nat.ne_of_lt (Nat.lt_of_lt_of_le (Heap.lt_size e) (I.ok.cab x c hfn hc)))).trans e1⟩
  ·obtain ⟨o', e1⟩ := I.base.there b o e hx
   exact ⟨o', (hs.2 b (Nat.ne_of_lt (Nat.lt_of_lt_of_le (Heap.lt_size e) (I.ok.cab x c hfn hc)))).trans e1⟩
  ·by_cases hj : j = i
   ·subst hj
    rw [hi] at e1; cases e1
    rw [List.getElem?_set_self hiσ] at e2
    cases e2
    exact ⟨u, r, .inr ⟨.inl hk, c, hc, hc'⟩⟩
   ·rw [List.getElem?_set_ne (Ne.symm hj)] at e2
    obtain ⟨u', r', q⟩ := hl j y v' e1 e2 e3
    refine ⟨u', r', ?_⟩
    rcases q with q | ⟨k, c', e, z'⟩
    ·exact .inl q
    ·refine .inr ⟨k, c', e, z'.sameBut hs ?_⟩
     rintro rfl
     exact hj (nodup_ix hN e1 (I.ok.inj _ _ _ e hc ▸ hi))
  ·by_cases hcc : c' = c
   ·subst hcc; exact ⟨_, hc'⟩
   ·obtain ⟨w2, z2⟩ := I.cell y c' e
    exact ⟨w2, z2.sameBut hs hcc⟩
  ·obtain ⟨e, n, ne, nf, d⟩ := I.pin p hp
   refine ⟨(hs.2 p.1 ?_).trans e, n, ne, nf, d⟩
   intro q
   rw [q, hoc] at e
   have q' : oc = p.2 := Option.some.inj e
   exact d w' (by rw [<- q']; exact hocd)
theorem store_ok {M : Model} {A : Around} {E : Value -> Shared -> Prop} {i : Nat} {x : Str} {v : V} {u : Value} {Q : Unit -> Shared -> Prop} (I : Inv X pins σ H s) (hN : X.N.Nodup) (hi : X.N[i]? = some x) (hx : Loc X.env.scope x) (r : RelV v u)
  (h : ∀ s', Inv X pins (σ.set i (some v)) H s' -> Q () s') (hf : X.fn x = true \/ X.env.scope.names.lookup x = some .local := by first | exact .inl rfl | exact .inr rfl | assumption) : wpAny M A (storeName X.env x u) Q E s :=
 store_ok2 I hN hi hx r (fun s' I' _ => h s' I') hf
theorem Inv.call'  (I : Inv X pins σ H s) (ho : s'.os = s.os) (u : Un (frs X.stack) ch H H' s.heap s'.heap) (hok : HOk X.prog X.w H' s'.heap) (hg : AllBare s'.gens)
  (hch : ∀ b ∈ ch, (b ∈ X.ex \/ X.s₀.heap.objs.size <= b) /\ b ≠ X.env.locals /\ (∀ x c, X.env.cells.lookup x = some c -> c ≠ b) /\ ∀ p ∈ X.pn ++ pins, p.1 ≠ b) : Inv X pins σ H' s' := by
 obtain ⟨h', g', d', t', o'⟩ := s'
 have e : o' = s.os := ho
 subst e
 exact I.call (g' := g') (t' := t') (d' := d') u hok hg hch
end
abbrev XK := Value -> Option Addr -> Hp -> Prop
abbrev St := List (Option V)
abbrev VK := V -> Hp -> Prop
abbrev TE := St -> Hp -> VK -> Prop
abbrev TT := St -> Hp -> (Bool -> Hp -> Prop) -> Prop
abbrev TA := St -> Hp -> (List V -> Hp -> Prop) -> Prop
structure Ends where
 nx : St -> Hp -> Prop
 rt : VK
 bk : St -> Hp -> Prop := fun _ _ => False
 ct : St -> Hp -> Prop := fun _ _ => False
abbrev TS := Ends -> St -> Hp -> Prop
def EP (X : Cx) (pins : List (Addr × Obj)) (σ : St) (Q : VK) (u : Value) (s' : Shared) : Prop := ∃ v H', Inv X pins σ H' s' /\ RelV v u /\ Q v H'
def TP (X : Cx) (pins : List (Addr × Obj)) (σ : St) (Q : Bool -> Hp -> Prop) (b : Bool) (s' : Shared) : Prop := ∃ H', Inv X pins σ H' s' /\ Q b H'
def AP (X : Cx) (pins : List (Addr × Obj)) (σ : St) (Q : List V -> Hp -> Prop) (us : List Value) (s' : Shared) : Prop := ∃ vs H', Inv X pins σ H' s' /\ Vals vs us /\ Q vs H'
def SP (X : Cx) (pins : List (Addr × Obj)) (D : Ends) (f : Flow) (s' : Shared) : Prop :=
 match f with
 | .next => ∃ σ' H', Inv X pins σ' H' s' /\ D.nx σ' H'
 | .brk => ∃ σ' H', Inv X pins σ' H' s' /\ D.bk σ' H'
 | .cont => ∃ σ' H', Inv X pins σ' H' s' /\ D.ct σ' H'
 | .ret u => ∃ v σ' H', Inv X pins σ' H' s' /\ RelV v u /\ D.rt v H'
def PE (X : Cx) (e : Expr) (t : TE) : Prop :=
 ∀ (pins : List (Addr × Obj)) (s : Shared) (σ : St) (H : Hp) (Q : VK), Inv X pins σ H s -> t σ H Q -> wpAny (model X.prog X.w) X.A (eval e X.env) (EP X pins σ Q) X.xe s
def PT (X : Cx) (e : Expr) (t : TT) : Prop :=
 ∀ (pins : List (Addr × Obj)) (s : Shared) (σ : St) (H : Hp) (Q : Bool -> Hp -> Prop), Inv X pins σ H s -> t σ H Q -> wpAny (model X.prog X.w) X.A (isTrue e X.env (eval e X.env)) (TP X pins σ Q) X.xe s
def PW (X : Cx) (e : Expr) (t : TT) : Prop :=
 ∀ (whole : Sem Value) (pins : List (Addr × Obj)) (s : Shared) (σ : St) (H : Hp) (Q : Bool -> Hp -> Prop), Inv X pins σ H s -> t σ H Q -> wpAny (model X.prog X.w) X.A (isTrue e X.env whole) (TP X pins σ Q) X.xe s
theorem PW.pt {X : Cx} {e : Expr} {t : TT} (h : PW X e t) : PT X e t := h _
def PA (X : Cx) (es : List Expr) (t : TA) : Prop :=
 ∀ (pos : Pos) (pins : List (Addr × Obj)) (s : Shared) (σ : St) (H : Hp) (Q : List V -> Hp -> Prop), Inv X pins σ H s -> t σ H Q -> wpAny (model X.prog X.w) X.A (spliced (backTo pos (starEach es X.env))) (AP X pins σ Q) X.xe s
def PS (X : Cx) (st : Stmt) (t : TS) : Prop :=
 ∀ (pins : List (Addr × Obj)) (s : Shared) (σ : St) (H : Hp) (D : Ends), Inv X pins σ H s -> t D σ H -> wpAny (model X.prog X.w) X.A (exec st X.env) (SP X pins D) X.xe s
def PSs (X : Cx) (st : List Stmt) (t : TS) : Prop :=
 ∀ (pins : List (Addr × Obj)) (s : Shared) (σ : St) (H : Hp) (D : Ends), Inv X pins σ H s -> t D σ H -> wpAny (model X.prog X.w) X.A (execs st X.env) (SP X pins D) X.xe s
theorem thn {α : Type} {t : Sem α} {Q Q' : α -> Shared -> Prop} {M : Model} {A : Around} {E : Value -> Shared -> Prop} {s : Shared} (h : wpAny M A t Q E s) (hQ : ∀ a s, Q a s -> Q' a s) : wpAny M A t Q' E s := wpAny_mono h hQ fun _ _ x => x
section
variable {X : Cx}
def tVar (i : Nat) : TE := fun σ H Q => ∃ v, σ[i]? = some (some v) /\ Q v H
def tC (v : V) : TE := fun _ H Q => Q v H
theorem pe_var  (hN : X.N[i]? = some x) (hv : Vis X.env.scope x) (hd : (x == ("__debug__" : Str)) = false := by decide) (hcd : (x == ("__classdict__" : Str)) = false := by decide) : PE X (.Name x pos) (tVar i) := by
 intro pins s σ H Q I h
 obtain ⟨v, e, h⟩ := h
 obtain ⟨m, hn, hl⟩ := I.loc
 obtain ⟨u, r, l⟩ := hl i x v hN e hv
 have fin : EP X pins σ Q u s := ⟨v, H, I, r, h⟩
 rcases l with ⟨hk, hm⟩ | ⟨hk, c, hc, hcell⟩
 ·exact wpAny_Name (wpAny_loadName_local I.ok.kind hk hn hm fin) hd
 ·rcases hk with hk | hk
  ·exact wpAny_Name (wpAny_loadName_cell I.ok.kind hk hc hcell fin) hd
  ·exact wpAny_Name (wpAny_loadName_free I.ok.kind hk hc hcell fin hcd) hd
theorem pe_int {i j pos} : PE X (.Constant (.int i) j pos) (tC (.int i)) := fun _ _ _ H _ I h => wpAny_Constant_int ⟨.int i, H, I.tok _, ⟨_, rfl⟩, h⟩
theorem pe_bl {b j pos} : PE X (.Constant (.bool b) j pos) (tC (.bl b)) := fun _ _ _ H _ I h => Constant_bool ⟨.bl b, H, I, rfl, h⟩
theorem pe_non {j pos} : PE X (.Constant .none j pos) (tC .non) := fun _ _ _ H _ I h => Constant_none ⟨.non, H, I, rfl, h⟩
theorem pe_str {x j pos} : PE X (.Constant (.str x) j pos) (tC (.str x)) := fun _ _ _ H _ I h => Calls.Constant_str ⟨.str x, H, I.tok _, ⟨_, rfl⟩, h⟩
def Gl (X : Cx) (x : Str) : Prop := X.env.kindOf x = some .globalImplicit
theorem ld_glob {E : Value -> Shared -> Prop} {pins : List (Addr × Obj)} {s : Shared} {σ : St} {H : Hp} {x : Str} {u : Value} {pos : Pos} {Q : Value -> Shared -> Prop} (I : Inv X pins σ H s) (hg : Gl X x) (hm : X.mg x = some u) (h : Q u s)
  (hd : (x == ("__debug__" : Str)) = false := by decide) : wpAny (model X.prog X.w) X.A (eval (.Name x pos) X.env) Q E s :=
 Calls.Name_function_global I.ok.kind hg (Calls.loadGlobal_global (by rw [I.ok.glob]; exact I.mod.glob.keeps I.bk) hm h) hd
theorem ld_blt {E : Value -> Shared -> Prop} {pins : List (Addr × Obj)} {s : Shared} {σ : St} {H : Hp} {x : Str} {u : Value} {pos : Pos} {Q : Value -> Shared -> Prop} (I : Inv X pins σ H s) (hg : Gl X x) (hm : X.mg x = none) (hv : bootBuiltins x = some u) (h : Q u s)
  (hn : x ≠ "__name__" := by decide) (hd : (x == ("__debug__" : Str)) = false := by decide) : wpAny (model X.prog X.w) X.A (eval (.Name x pos) X.env) Q E s := by
 obtain ⟨mb, h1, h2⟩ := I.mod.blt
 exact Calls.Name_function_global I.ok.kind hg (Calls.loadGlobal_builtin (by rw [I.ok.glob]; exact I.mod.glob.keeps I.bk) hm (by rw [I.ok.blt]; exact h1.keeps I.bk) ((h2 x hn).trans hv) h) hd
theorem pe_glob   (hg : Gl X x) (hm : X.mg x = some u) (r : RelV v u) (hd : (x == ("__debug__" : Str)) = false := by decide) : PE X (.Name x pos) (tC v) :=
 fun _ _ _ H _ I h => ld_glob I hg hm ⟨v, H, I, r, h⟩ hd
theorem pe_bltn   (hg : Gl X x) (hm : X.mg x = none) (hv : bootBuiltins x = some u) (r : RelV v u) (hn : x ≠ "__name__" := by decide) (hd : (x == ("__debug__" : Str)) = false := by decide) : PE X (.Name x pos) (tC v) :=
 fun _ _ _ H _ I h => ld_blt I hg hm hv ⟨v, H, I, r, h⟩ hn hd
variable {a b : Expr} {ta tb : TE} {pos : Pos}
def PC (X : Cx) (op : CmpOp) (a b : Expr) (t : TE) : Prop :=
 ∀ (pins : List (Addr × Obj)) (s : Shared) (σ : St) (H : Hp) (Q : VK), Inv X pins σ H s -> t σ H Q ->
  wpAny (model X.prog X.w) X.A (eval a X.env) (fun v s₁ => wpAny (model X.prog X.w) X.A (eval b X.env) (fun u s₂ => wpAny (model X.prog X.w) X.A (compareOp op v u) (EP X pins σ Q) X.xe s₂) X.xe s₁) X.xe s
theorem nobehind (b : Expr) {op : CmpOp} (h : op ≠ .In) (h2 : op ≠ .NotIn) : behindInMarks op b = false := by
 have e1 : (op == CmpOp.In) = false := by cases op <;> first | rfl | exact absurd rfl h
 have e2 : (op == CmpOp.NotIn) = false := by cases op <;> first | rfl | exact absurd rfl h2
 cases b <;> simp [behindInMarks, e1, e2]
def tIsN (ta : TE) : TE := fun σ H Q => ta σ H fun x H1 => Q (.bl (decide (x = .non))) H1
theorem RelV.none_iff {x : V} {v : Value} (r : RelV x v) : (v == Value.none) = decide (x = .non) := by
 cases x with
 | non => cases r; rfl
 | bl _ => cases r; rfl
 | int _ => obtain ⟨t, rfl⟩ := r; rfl
 | str _ => obtain ⟨t, rfl⟩ := r; rfl
 | byt _ => obtain ⟨t, rfl⟩ := r; rfl
 | flt _ => obtain ⟨t, rfl⟩ := r; rfl
 | ref _ => cases r; rfl
 | ty _ => cases r; rfl
theorem pc_isN {j pos'} (ha : PE X a ta) : PC X .Is a (.Constant .none j pos') (tIsN ta) := by
 intro pins s σ H Q I h
 refine thn (ha pins s σ H _ I h) fun v s1 ⟨x, H1, I1, r1, q1⟩ => ?_
 exact Constant_none (is_none_gen ⟨.bl _, H1, I1, by rw [r1.none_iff]; rfl, q1⟩)
def tB (t : TE) : TT := fun σ H Q => t σ H fun x H1 => ∃ c, x = .bl c /\ Q c H1
theorem pe_cmp  (h : PC X op a b t) (h1 : behindInMarks op b = false := by first | exact nobehind _ (by decide) (by decide) | rfl) : PE X (.Compare a [op] [b] pos) t := fun pins s σ H Q I hw => wpAny_Compare1 (h pins s σ H Q I hw) h1
theorem pt_cmp {op : CmpOp} {t : TE} (h : PC X op a b t) (h1 : behindInMarks op b = false := by first | exact nobehind _ (by decide) (by decide) | rfl) : PT X (.Compare a [op] [b] pos) (tB t) := by
 intro pins s σ H Q I hw
 refine wpAny_isTrue_Compare1 (thn (h pins s σ H _ I hw) fun v s1 h1 => thn h1 fun u s2 h2 => thn h2 fun c s3 ⟨x, H1, I1, r1, q1⟩ => ?_) h1
 obtain ⟨d, rfl, q⟩ := q1
 cases r1
 exact wpAny_truthy_bool ⟨H1, I1, q⟩
variable {tA tB' : TT} {rest : List Expr}
def tAnd (t u : TT) : TT := fun σ H Q => t σ H fun c H1 => if c = true then u σ H1 Q else Q false H1
def tOr (t u : TT) : TT := fun σ H Q => t σ H fun c H1 => if c = true then Q true H1 else u σ H1 Q
def tNot (t : TT) : TT := fun σ H Q => t σ H fun c H1 => Q (!c) H1
theorem pw_and1 (ha : PT X a tA) : PW X (.BoolOp .And [a] pos) tA := by
 intro wh pins s σ H Q I h
 refine isTrue_and (thn (ha pins s σ H Q I h) fun c s1 e => ?_)
 cases c with
 | true => exact isTrue_and_nil e
 | false => exact e
theorem pw_or1 (ha : PT X a tA) : PW X (.BoolOp .Or [a] pos) tA := by
 intro wh pins s σ H Q I h
 refine isTrue_or (thn (ha pins s σ H Q I h) fun c s1 e => ?_)
 cases c with
 | false => exact isTrue_or_nil e
 | true => exact e
theorem pw_and (ha : PT X a tA) (hb : PW X (.BoolOp .And (b :: rest) pos) tB') : PW X (.BoolOp .And (a :: b :: rest) pos) (tAnd tA tB') := by
 intro wh pins s σ H Q I h
 refine isTrue_and (thn (ha pins s σ H _ I h) fun c s1 ⟨H1, I1, q1⟩ => ?_)
 cases c with
 | true => exact hb wh pins s1 σ H1 Q I1 q1
 | false => exact ⟨H1, I1, q1⟩
theorem pw_or (ha : PT X a tA) (hb : PW X (.BoolOp .Or (b :: rest) pos) tB') : PW X (.BoolOp .Or (a :: b :: rest) pos) (tOr tA tB') := by
 intro wh pins s σ H Q I h
 refine isTrue_or (thn (ha pins s σ H _ I h) fun c s1 ⟨H1, I1, q1⟩ => ?_)
 cases c with
 | true => exact ⟨H1, I1, q1⟩
 | false => exact hb wh pins s1 σ H1 Q I1 q1
theorem pt_not (ha : PT X a tA) : PT X (.UnaryOp .Not a pos) (tNot tA) := by
 intro pins s σ H Q I h
 exact isTrue_not (ha pins s σ H (fun c H1 => Q (!c) H1) I h)
def tAndV (ta tb : TE) : TE := fun σ H Q => ta σ H fun x H1 => ∃ c, x = .bl c /\ if c = true then tb σ H1 Q else Q (.bl false) H1
def tOrV (ta tb : TE) : TE := fun σ H Q => ta σ H fun x H1 => ∃ c, x = .bl c /\ if c = true then Q (.bl true) H1 else tb σ H1 Q
def tNotV (ta : TE) : TE := fun σ H Q => ta σ H fun x H1 => ∃ c, x = .bl c /\ Q (.bl (!c)) H1
theorem pe_one {op} (h : PE X a t) : PE X (.BoolOp op [a] pos) t := fun pins s σ H Q I hw => BoolOp_one (h pins s σ H Q I hw)
theorem pe_and (ha : PE X a ta) (hb : PE X (.BoolOp .And (b :: rest) pos) tb) : PE X (.BoolOp .And (a :: b :: rest) pos) (tAndV ta tb) := by
 intro pins s σ H Q I h
 refine BoolOp_and (thn (ha pins s σ H _ I h) fun v s1 ⟨x, H1, I1, r1, q1⟩ => ?_)
 obtain ⟨c, rfl, q1⟩ := q1
 cases r1
 refine wpAny_truthy_bool ?_
 cases c with
 | true => exact hb pins s1 σ H1 Q I1 q1
 | false => exact ⟨.bl false, H1, I1, rfl, q1⟩
theorem pe_or (ha : PE X a ta) (hb : PE X (.BoolOp .Or (b :: rest) pos) tb) : PE X (.BoolOp .Or (a :: b :: rest) pos) (tOrV ta tb) := by
 intro pins s σ H Q I h
 refine BoolOp_or (thn (ha pins s σ H _ I h) fun v s1 ⟨x, H1, I1, r1, q1⟩ => ?_)
 obtain ⟨c, rfl, q1⟩ := q1
 cases r1
 refine wpAny_truthy_bool ?_
 cases c with
 | false => exact hb pins s1 σ H1 Q I1 q1
 | true => exact ⟨.bl true, H1, I1, rfl, q1⟩
theorem pe_not (ha : PE X a ta) : PE X (.UnaryOp .Not a pos) (tNotV ta) := by
 intro pins s σ H Q I h
 refine UnaryOp_ (thn (ha pins s σ H _ I h) fun v s1 ⟨x, H1, I1, r1, q1⟩ => ?_)
 obtain ⟨c, rfl, q1⟩ := q1
 cases r1
 exact not_of (wpAny_truthy_bool ⟨.bl (!c), H1, I1, rfl, q1⟩)
def tIf (t : TT) (ta tb : TE) : TE := fun σ H Q => t σ H fun c H1 => if c = true then ta σ H1 Q else tb σ H1 Q
theorem pe_ifExp {c : Expr} (hc : PT X c tA) (ha : PE X a ta) (hb : PE X b tb) : PE X (.IfExp c a b pos) (tIf tA ta tb) := by
 intro pins s σ H Q I h
 refine wpAny_IfExp (thn (hc pins s σ H _ I h) fun d s1 ⟨H1, I1, q1⟩ => ?_)
 cases d with
 | true => exact ha pins s1 σ H1 Q I1 q1
 | false => exact hb pins s1 σ H1 Q I1 q1
end
def SqL (K : PySem.W.Frag) (H : Hp) (a : Addr) (xs : List V) : Prop :=
 Rd H a (.lst xs) \/
  ∃ (o : Obj) (its : Array Value) (n : Nat), K.lookup a = some o /\ o.cls = .type "list" /\ o.dict = none /\ o.data = .seq its n /\ its.size <= sizeLine /\ Vals xs its.toList
def SqT (K : PySem.W.Frag) (H : Hp) (a : Addr) (xs : List V) : Prop :=
 Rd H a (.tup xs) \/
  ∃ (o : Obj) (its : Array Value) (n : Nat), K.lookup a = some o /\ o.cls = .type "tuple" /\ o.data = .seq its n /\ its.size <= sizeLine /\ Vals xs its.toList
def absV : Value -> Option V
 | .none => some .non
 | .bool b => some (.bl b)
 | .int i _ => some (.int i)
 | .str x _ => some (.str x)
 | .bytes b _ => some (.byt b)
 | .float b _ => some (.flt b)
 | .ref a => some (.ref a)
 | .type n => some (.ty n)
 | _ => none
theorem RelV.abs  (r : RelV x u) : absV u = some x := by
 cases x with
 | non => cases r; rfl
 | bl _ => cases r; rfl
 | int _ => obtain ⟨t, rfl⟩ := r; rfl
 | str _ => obtain ⟨t, rfl⟩ := r; rfl
 | byt _ => obtain ⟨t, rfl⟩ := r; rfl
 | flt _ => obtain ⟨t, rfl⟩ := r; rfl
 | ref _ => cases r; rfl
 | ty _ => cases r; rfl
theorem RelV.inj {x y : V} {u : Value} (r : RelV x u) (q : RelV y u) : x = y := Option.some.inj (r.abs.symm.trans q.abs)
theorem Vals.inj : ∀ {xs ys : List V} {us : List Value}, Vals xs us -> Vals ys us -> xs = ys
 | _, _, _, .nil, .nil => rfl
 | _, _, _, .cons r t, .cons r' t' => by rw [r.inj r', Vals.inj t t']
section
variable {X : Cx} {pins : List (Addr × Obj)} {σ : St} {H : Hp} {s : Shared} {a : Addr} {xs ys : List V}
theorem SqL.of {K : PySem.W.Frag} (h : H a = some (.lst xs)) : SqL K H a xs := .inl (.inl h)
theorem SqT.of {K : PySem.W.Frag} (h : H a = some (.tup xs)) : SqT K H a xs := .inl (.inl h)
theorem Inv.list (I : Inv X pins σ H s) (h : SqL X.K H a xs) : ∃ its : List Value, Vals xs its /\ PlainL s.heap a its.toArray /\ xs.length <= sizeLine := by
 rcases h with h | ⟨o, its, n, hk, hc, hd, hs, hz, r⟩
 ·obtain ⟨z, its, n, r, e⟩ := h.ok I.hok
  exact ⟨its, r, ⟨_, n, e, rfl, rfl, rfl⟩, z⟩
 ·refine ⟨its.toList, r, ⟨o, n, I.kIn a o hk, hc, hd, by simpa using hs⟩, ?_⟩
  have e := r.length
  simp only [Array.length_toList] at e
  omega
theorem Inv.tuple (I : Inv X pins σ H s) (h : SqT X.K H a xs) : ∃ its : List Value, Vals xs its /\ IsTup s.heap a its.toArray /\ xs.length <= sizeLine := by
 rcases h with h | ⟨o, its, n, hk, hc, hs, hz, r⟩
 ·obtain ⟨z, its, r, p⟩ := h.ok I.hok
  exact ⟨its, r, p, z⟩
 ·refine ⟨its.toList, r, ⟨o, I.kIn a o hk, hc, n, by simpa using hs⟩, ?_⟩
  have e := r.length
  simp only [Array.length_toList] at e
  omega
theorem Inv.list_inj (I : Inv X pins σ H s) (h : SqL X.K H a xs) (h' : SqL X.K H a ys) : xs = ys := by
 obtain ⟨its, r, ⟨o, n, e, _, _, d⟩, _⟩ := I.list h
 obtain ⟨its', r', ⟨o', n', e', _, _, d'⟩, _⟩ := I.list h'
 rw [e] at e'; cases e'
 rw [d] at d'
 injection d' with d1 _
 have : its = its' := by simpa using congrArg Array.toList d1
 subst this
 exact r.inj r'
theorem Inv.tuple_inj (I : Inv X pins σ H s) (h : SqT X.K H a xs) (h' : SqT X.K H a ys) : xs = ys := by
 obtain ⟨its, r, ⟨o, e, _, n, d⟩, _⟩ := I.tuple h
 obtain ⟨its', r', ⟨o', e', _, n', d'⟩, _⟩ := I.tuple h'
 rw [e] at e'; cases e'
 rw [d] at d'
 injection d' with d1 _
 have : its = its' := by simpa using congrArg Array.toList d1
 subst this
 exact r.inj r'
end
abbrev Cx.wish (X : Cx) (E : Value -> Shared -> Prop) : Cx := { X with xe := E }
abbrev Cx.nox (X : Cx) : Cx := X.wish fun _ _ => False
theorem Cx.Ok.wish {X : Cx} (ok : X.Ok) (E : Value -> Shared -> Prop) : (X.wish E).Ok :=
 ⟨ok.mod, ok.kind, ok.glob, ok.blt, ok.above, ok.inj, ok.has, ok.cab, ok.hd, ok.frames, ok.stk, ok.exf, ok.bs, ok.bsz, ok.noex, ok.exfs, ok.funs, ok.frf⟩
theorem Cx.Ok.unwish {X : Cx} {E : Value -> Shared -> Prop} (ok : (X.wish E).Ok) : X.Ok :=
 ⟨ok.mod, ok.kind, ok.glob, ok.blt, ok.above, ok.inj, ok.has, ok.cab, ok.hd, ok.frames, ok.stk, ok.exf, ok.bs, ok.bsz, ok.noex, ok.exfs, ok.funs, ok.frf⟩
section
variable {X : Cx} {pins : List (Addr × Obj)} {σ : St} {H : Hp} {s : Shared} {E : Value -> Shared -> Prop}
theorem Inv.wish (I : Inv X pins σ H s) (E : Value -> Shared -> Prop) : Inv (X.wish E) pins σ H s := ⟨I.ok.wish E, I.os, I.bare, I.base, I.loc, I.cell, I.free, I.freeC, I.pin, I.hok, I.len⟩
theorem Inv.unwish (I : Inv (X.wish E) pins σ H s) : Inv X pins σ H s := ⟨I.ok.unwish, I.os, I.bare, I.base, I.loc, I.cell, I.free, I.freeC, I.pin, I.hok, I.len⟩
theorem SP.unwish  (h : SP (X.wish E) pins D f s') : SP X pins D f s' := by
 cases f with
 | next => obtain ⟨σ', H', I, q⟩ := h; exact ⟨σ', H', I.unwish, q⟩
 | brk => obtain ⟨σ', H', I, q⟩ := h; exact ⟨σ', H', I.unwish, q⟩
 | cont => obtain ⟨σ', H', I, q⟩ := h; exact ⟨σ', H', I.unwish, q⟩
 | ret u => obtain ⟨v, σ', H', I, r, q⟩ := h; exact ⟨v, σ', H', I.unwish, r, q⟩
theorem PT.nox  (h : PT X.nox e t) : PT X e t := fun pins s σ H Q I hw =>
 wpAny_mono (h pins s σ H Q (I.wish _) hw) (fun _ _ ⟨H', I', q⟩ => ⟨H', I'.unwish, q⟩) fun _ _ z => False.elim z
theorem PSs.nox {st : List Stmt} {t : TS} (h : PSs X.nox st t) : PSs X st t := fun pins s σ H D I hw =>
 wpAny_mono (h pins s σ H D (I.wish _) hw) (fun _ _ q => q.unwish) fun _ _ z => False.elim z
end
section
variable {X : Cx} {st : Stmt} {rest : List Stmt} {t u : TS} {e : Expr} {te : TE} {pos : Pos}
def tNext : TS := fun D σ H => D.nx σ H
def tSeq (t u : TS) : TS := fun D σ H => t { D with nx := u D } σ H
theorem pss_nil : PSs X [] tNext := fun _ _ σ H _ I h => wpAny_execs_nil ⟨σ, H, I, h⟩
theorem pss_cons (h1 : PS X st t) (h2 : PSs X rest u) : PSs X (st :: rest) (tSeq t u) := by
 intro pins s σ H D I h
 refine wpAny_execs_cons (thn (h1 pins s σ H { D with nx := u D } I h) fun f s1 q => ?_)
 cases f with
 | next =>
  obtain ⟨σ', H', I', q⟩ := q
  exact h2 pins s1 σ' H' D I' q
 | ret v => exact q
 | brk => exact q
 | cont => exact q
theorem pss_one (h1 : PS X st t) : PSs X [st] t := by
 intro pins s σ H D I h
 refine wpAny_execs_cons (thn (h1 pins s σ H D I h) fun f s1 q => ?_)
 cases f with
 | next => exact wpAny_execs_nil q
 | ret v => exact q
 | brk => exact q
 | cont => exact q
theorem Inv.quiet {pins : List (Addr × Obj)} {σ : St} {H : Hp} {s : Shared} (I : Inv X pins σ H s) : interactive X.env = false := by simp [interactive, I.ok.kind]
def tDrop (te : TE) : TS := fun D σ H => te σ H fun _ H1 => D.nx σ H1
theorem ps_expr (he : PE X e te) (hs : swapsWith e none pos.line X.env = pure false := by rfl) : PS X (.Expr e pos) (tDrop te) := by
 intro pins s σ H D I h
 exact wpAny_Expr_any (thn (he pins s σ H _ I h) fun v s1 ⟨x, H1, I1, r1, q1⟩ => ⟨σ, H1, I1, q1⟩) I.quiet hs
def tRet (te : TE) : TS := fun D σ H => te σ H D.rt
theorem ps_ret (he : PE X e te) : PS X (.Return (some e) pos) (tRet te) := by
 intro pins s σ H D I h
 exact wpAny_Return_some (thn (he pins s σ H _ I h) fun v s1 ⟨x, H1, I1, r1, q1⟩ => ⟨x, σ, H1, I1, r1, q1⟩)
def tIfS (c : TT) (t u : TS) : TS := fun D σ H => c σ H fun b H1 => if b = true then t D σ H1 else u D σ H1
theorem ps_if {c : Expr} {a b : List Stmt} {tc : TT} (hc : PT X c tc) (ha : PSs X a t) (hb : PSs X b u) : PS X (.If c a b pos) (tIfS tc t u) := by
 intro pins s σ H D I h
 refine wpAny_If (thn (hc pins s σ H _ I h) fun d s1 ⟨H1, I1, q1⟩ => ?_)
 cases d with
 | true => exact ha pins s1 σ H1 D I1 q1
 | false => exact hb pins s1 σ H1 D I1 q1
end
abbrev TG := V -> St -> Hp -> (St -> Hp -> Prop) -> Prop
abbrev TGs := List V -> St -> Hp -> (St -> Hp -> Prop) -> Prop
def PG (X : Cx) (target : Expr) (t : TG) : Prop :=
 ∀ (pins : List (Addr × Obj)) (s : Shared) (σ : St) (H : Hp) (v : V) (u : Value) (Q : St -> Hp -> Prop), Inv X pins σ H s -> RelV v u -> t v σ H Q ->
  wpAny (model X.prog X.w) X.A (assign target X.env u) (fun _ s' => ∃ σ' H', Inv X pins σ' H' s' /\ Q σ' H') X.xe s
def PGs (X : Cx) (ts : List Expr) (t : TGs) : Prop :=
 ∀ (pins : List (Addr × Obj)) (s : Shared) (σ : St) (H : Hp) (vs : List V) (us : List Value) (Q : St -> Hp -> Prop), Inv X pins σ H s -> Vals vs us -> t vs σ H Q ->
  wpAny (model X.prog X.w) X.A (assignInOrder ((assignEach ts X.env).map (·.2)) us) (fun _ s' => ∃ σ' H', Inv X pins σ' H' s' /\ Q σ' H') X.xe s
abbrev TSet := V -> V -> V -> Hp -> (Hp -> Prop) -> Prop
def PSet (X : Cx) (t : TSet) : Prop :=
 ∀ (pins : List (Addr × Obj)) (s : Shared) (σ : St) (H : Hp) (o i v : V) (ov iv u : Value) (Q : Hp -> Prop), Inv X pins σ H s -> RelV o ov -> RelV i iv -> RelV v u -> t o i v H Q ->
  wpAny (model X.prog X.w) X.A (setItem ov iv u) (fun _ s' => ∃ H', Inv X pins σ H' s' /\ Q H') X.xe s
abbrev TIp := V -> V -> Hp -> VK -> Prop
def PIp (X : Cx) (op : Operator) (t : TIp) : Prop :=
 ∀ (pins : List (Addr × Obj)) (s : Shared) (σ : St) (H : Hp) (x y : V) (v u : Value) (Q : VK), Inv X pins σ H s -> RelV x v -> RelV y u -> t x y H Q ->
  wpAny (model X.prog X.w) X.A (inplaceOp op v u) (EP X pins σ Q) X.xe s
section
variable {X : Cx} {pos : Pos}
def gName (i : Nat) : TG := fun v σ H Q => Q (σ.set i (some v)) H
theorem pg_name  (hN : X.N.Nodup) (hi : X.N[i]? = some x) (hx : Loc X.env.scope x) (hf : X.fn x = true \/ X.env.scope.names.lookup x = some .local := by first | exact .inl rfl | exact .inr rfl | assumption) : PG X (.Name x pos) (gName i) := by
 intro pins s σ H v u Q I r h
 exact wpAny_assign_Name (store_ok I hN hi hx r (fun s' I' => ⟨_, H, I', h⟩) hf)
def gNil : TGs := fun vs σ H Q => vs = [] /\ Q σ H
def gCons (t : TG) (u : TGs) : TGs := fun vs σ H Q => ∃ v r, vs = v :: r /\ t v σ H fun σ' H' => u r σ' H' Q
theorem pgs_nil : PGs X [] gNil := by
 intro pins s σ H vs us Q I r h
 obtain ⟨e, h⟩ := h
 subst e
 cases r
 exact assignInOrder_nil ⟨σ, H, I, h⟩
theorem pgs_cons {e : Expr} {es : List Expr} {t : TG} {u : TGs} (h1 : PG X e t) (h2 : PGs X es u)
  (hs : (assignEach (e :: es) X.env).map (·.2) = assign e X.env :: (assignEach es X.env).map (·.2) := by rfl) : PGs X (e :: es) (gCons t u) := by
 intro pins s σ H vs us Q I r h
 obtain ⟨v, vr, e1, h⟩ := h
 subst e1
 cases r with
 | cons r rr =>
  rw [hs]
  refine assignInOrder_cons (thn (h1 pins s σ H _ _ _ I r h) fun _ s1 ⟨σ1, H1, I1, q1⟩ => ?_)
  exact h2 pins s1 σ1 H1 _ _ Q I1 rr q1
def gTup (K : PySem.W.Frag) (n : Nat) (t : TGs) : TG := fun v σ H Q => ∃ a xs, v = .ref a /\ SqT K H a xs /\ xs.length = n /\ t xs σ H Q
theorem pg_tup   (hc : X.calm = true) (h : PGs X es t)
  (hn : (assignEach es X.env).length = n := by rfl) (hst : (assignEach es X.env).findIdx? (·.1) = none := by rfl) : PG X (.Tuple es k pos) (gTup X.K n t) := by
 intro pins s σ H v u Q I r hw
 obtain ⟨a, xs, e1, hq, hl, hw⟩ := hw
 subst e1
 cases r
 obtain ⟨its, rv, ht, hz⟩ := I.tuple hq
 refine assign_Tuple_tuple (I.ok.hd hc) ht (by simp [hn, <- hl, rv.length]) hst fun h' hx => ?_
 have I1 : Inv X pins σ H { s with heap := h' } := I.kept (t' := s.toks) fun b o e => hx b o (Nat.ne_of_lt (Heap.lt_size e)) e
 exact h pins _ σ H xs _ Q I1 (by simpa using rv) hw
def gSub (to ti : TE) (t : TSet) : TG := fun v σ H Q => to σ H fun o H1 => ti σ H1 fun i H2 => t o i v H2 fun H3 => Q σ H3
theorem pg_sub {o i : Expr} {to ti : TE} {t : TSet} (ho : PE X o to) (hi : PE X i ti) (hs : PSet X t)
  (ha : ∀ v, assign (.Subscript o i pos) X.env v = (do
   let ov <- holding [v] (eval o X.env)
   let iv <- holding [v, ov] (eval i X.env)
   standAt pos
   holding [v, ov, iv] (setItem ov iv v)
   release [v, ov, iv] []) := by intro _; rfl) : PG X (.Subscript o i pos) (gSub to ti t) := by
 intro pins s σ H v u Q I r h
 rw [ha]
 refine wpAny_bind (wpAny_holding (thn (ho pins s σ H _ I h) fun ov s1 ⟨x, H1, I1, r1, q1⟩ => ?_))
 refine wpAny_bind (wpAny_holding (thn (hi pins s1 σ H1 _ I1 q1) fun iv s2 ⟨y, H2, I2, r2, q2⟩ => ?_))
 refine wpAny_bind (wpAny_standAt (wpAny_bind (wpAny_holding (thn (hs pins s2 σ H2 x y v ov iv u _ I2 r1 r2 r q2) fun _ s3 ⟨H3, I3, q3⟩ => ?_))))
 exact wpAny_release ⟨σ, H3, I3, q3⟩
def tAsg (te : TE) (g : TG) : TS := fun D σ H => te σ H fun x H1 => g x σ H1 D.nx
theorem ps_asg {tg e : Expr} {te : TE} {g : TG} (he : PE X e te) (hg : PG X tg g) (hs : swapsWithSole [tg] e pos.line X.env = pure false := by rfl) (hw : swappedStores [tg] e X.env = pure none := by rfl)
  (h1 : (assignEach [tg] X.env).map (·.2) = [assign tg X.env] := by rfl) : PS X (.Assign [tg] e pos) (tAsg te g) := by
 intro pins s σ H D I h
 refine wpAny_Assign_stores (thn (he pins s σ H _ I h) fun v s1 ⟨x, H1, I1, r1, q1⟩ => ?_) hs hw
 rw [h1]
 exact thn (hg pins s1 σ H1 x v _ I1 r1 q1) fun _ s2 q => q
theorem ps_set {i : Nat} {x : Str} {e : Expr} {te : TE} {pos' : Pos} (hN : X.N.Nodup) (hi : X.N[i]? = some x) (hx : Loc X.env.scope x) (he : PE X e te) (hs : swapsWith e (some (.Name x pos')) pos.line X.env = pure false := by rfl) (hf : X.fn x = true \/ X.env.scope.names.lookup x = some .local := by first | exact .inl rfl | exact .inr rfl | assumption) :
  PS X (.Assign [.Name x pos'] e pos) (tAsg te (gName i)) := by
 intro pins s σ H D I h
 refine wpAny_Assign_Name (thn (he pins s σ H _ I h) fun v s1 ⟨y, H1, I1, r1, q1⟩ => ?_) hs
 exact store_ok I1 hN hi hx r1 (fun s2 I2 => ⟨_, H1, I2, q1⟩) hf
def tAugS (to ti te : TE) (tget : V -> V -> Hp -> VK -> Prop) (tip : TIp) (tset : TSet) : TS := fun D σ H => to σ H fun o H1 => ti σ H1 fun i H2 => tget o i H2 fun x H3 => te σ H3 fun y H4 => tip x y H4 fun z H5 => tset o i z H5 fun H6 => D.nx σ H6
def PGet (X : Cx) (t : V -> V -> Hp -> VK -> Prop) : Prop :=
 ∀ (pins : List (Addr × Obj)) (s : Shared) (σ : St) (H : Hp) (o i : V) (ov iv : Value) (Q : VK), Inv X pins σ H s -> RelV o ov -> RelV i iv -> t o i H Q ->
  wpAny (model X.prog X.w) X.A (getItem ov iv) (EP X pins σ Q) X.xe s
theorem ps_augS {o i e : Expr} {to ti te : TE} {tget : V -> V -> Hp -> VK -> Prop} {tip : TIp} {tset : TSet} {op : Operator} {tpos : Pos} (ho : PE X o to) (hi : PE X i ti) (hg : PGet X tget) (he : PE X e te) (hp : PIp X op tip) (hs : PSet X tset)
  (ha : ∀ ov iv new, augStore i ov iv new = (do holding [new, ov, iv] (setItem ov iv new); release [new, ov, iv] []; pure .next) := by intros; rfl) : PS X (.AugAssign (.Subscript o i tpos) op e pos) (tAugS to ti te tget tip tset) := by
 intro pins s σ H D I h
 refine wpAny_AugAssign_SubscriptAny (thn (ho pins s σ H _ I h) fun ov s1 ⟨x1, H1, I1, r1, q1⟩ => ?_) ha
 refine thn (hi pins s1 σ H1 _ I1 q1) fun iv s2 ⟨x2, H2, I2, r2, q2⟩ => ?_
 refine thn (hg pins s2 σ H2 x1 x2 ov iv _ I2 r1 r2 q2) fun old s3 ⟨x3, H3, I3, r3, q3⟩ => ?_
 refine thn (he pins s3 σ H3 _ I3 q3) fun v s4 ⟨x4, H4, I4, r4, q4⟩ => ?_
 refine thn (hp pins s4 σ H4 x3 x4 old v _ I4 r3 r4 q4) fun new s5 ⟨x5, H5, I5, r5, q5⟩ => ?_
 exact thn (hs pins s5 σ H5 x1 x2 x5 ov iv new _ I5 r1 r2 r5 q5) fun _ s6 ⟨H6, I6, q6⟩ => ⟨σ, H6, I6, q6⟩
def ipI (f : Int -> Int -> Int) : TIp := fun x y H Q => ∃ i j, x = .int i /\ y = .int j /\ Q (.int (f i j)) H
theorem ip_add : PIp X .Add (ipI fun i j => i + j) := by
 intro pins s σ H x y v u Q I r1 r2 h
 obtain ⟨i, j, e1, e2, q⟩ := h
 subst e1; subst e2
 obtain ⟨t, rfl⟩ := r1
 obtain ⟨t', rfl⟩ := r2
 exact iadd_int ⟨.int _, H, I.tok _, ⟨_, rfl⟩, q⟩
end
section
variable {X : Cx} {pos : Pos}
end
structure It where
 go : Nat -> Hp -> Prop
 yld : Nat -> Hp -> V -> Hp -> Prop
 stop : Nat -> Hp -> Prop
def FpOk (X : Cx) (pins : List (Addr × Obj)) (H : Hp) (b : Addr) : Prop :=
 H b = none /\ b ≠ X.env.locals /\ b ∉ X.fs /\ (b ∈ X.ex \/ X.s₀.heap.objs.size <= b) /\ (∀ x c, X.env.cells.lookup x = some c -> c ≠ b) /\ ∀ p ∈ X.pn ++ pins, p.1 ≠ b
theorem Inv.fpOk {X : Cx} {pins : List (Addr × Obj)} {σ : St} {H H' : Hp} {s : Shared} {b : Addr} (I : Inv X pins σ H s) (hb : s.heap.objs.size <= b) (hn : H' b = none) : FpOk X pins H' b := by
 refine ⟨hn, Nat.ne_of_gt (Nat.lt_of_lt_of_le I.lt hb), I.nofs hb, .inr (Nat.le_trans I.sz hb), fun x c e z => ?_, fun p hp z => ?_⟩
 ·obtain ⟨v, q⟩ := I.cell x c e
  exact absurd (Nat.lt_of_lt_of_le q.lt (by rw [z]; exact hb)) (Nat.lt_irrefl _)
 ·exact absurd (Nat.lt_of_lt_of_le (Heap.lt_size (I.pin p hp).1) (by rw [z]; exact hb)) (Nat.lt_irrefl _)
structure Turn (P : Program) (w : World) (K : PySem.W.Frag) (tg : Expr) (J : It) (fp : List Addr) (it : Addr) (tn : Nat -> Heap -> Prop) : Prop where
 mem : it ∈ fp
 obj : ∀ i h, tn i h -> ∀ b ∈ fp, ∃ o, h.get? b = some o /\ ∀ v, o.data ≠ .cell v
 keep : ∀ i h h', tn i h -> (∀ b ∈ fp, ∀ o, h.get? b = some o -> h'.get? b = some o) -> tn i h'
 item : ∀ (X : Cx), X.prog = P -> X.w = w -> X.K = K -> X.calm = true -> ∀ (i : Nat) (pins : List (Addr × Obj)) (s : Shared) (σ : St) (H : Hp) (E : Value -> Shared -> Prop), Inv X pins σ H s -> (∀ b ∈ fp, FpOk X pins H b) -> tn i s.heap -> J.go i H ->
  wpAny (model P w) X.A (pyNext (.ref it)) (fun r s1 => ∃ u, r = some u /\
   wpAny (model P w) X.A (letOwnedTupleGo tg (.ref it) u) (fun _ s2 => ∃ x H', Inv X pins σ H' s2 /\ RelV x u /\ J.yld i H x H' /\ tn (i + 1) s2.heap /\ ∀ b ∈ fp, H' b = none) E s1) E s
 done : ∀ (X : Cx), X.prog = P -> X.w = w -> X.K = K -> X.calm = true -> ∀ (i : Nat) (pins : List (Addr × Obj)) (s : Shared) (σ : St) (H : Hp) (E : Value -> Shared -> Prop), Inv X pins σ H s -> (∀ b ∈ fp, FpOk X pins H b) -> tn i s.heap -> J.stop i H ->
  wpAny (model P w) X.A (pyNext (.ref it)) (fun r s1 => r = none /\ Inv X pins σ H s1) E s
 self : ∀ (A : Around) (i : Nat) (s : Shared) (Q : Value -> Shared -> Prop) (E : Value -> Shared -> Prop), tn i s.heap -> Q (.ref it) s -> wpAny (model P w) A (pyIter (.ref it)) Q E s
abbrev TI := St -> Hp -> (It -> Hp -> Prop) -> Prop
def PIE (X : Cx) (pins : List (Addr × Obj)) (σ : St) (tg : Expr) (R : It -> Hp -> Prop) (itv : Value) (s2 : Shared) : Prop :=
 ∃ (it : Addr) (fp : List Addr) (tn : Nat -> Heap -> Prop) (J : It) (H' : Hp), itv = .ref it /\ Inv X pins σ H' s2 /\ Turn X.prog X.w X.K tg J fp it tn /\ tn 0 s2.heap /\ (∀ b ∈ fp, FpOk X pins H' b) /\ R J H'
def PI (X : Cx) (tg iter : Expr) (wi : TI) : Prop :=
 ∀ (pins : List (Addr × Obj)) (s : Shared) (σ : St) (H : Hp) (R : It -> Hp -> Prop), Inv X pins σ H s -> wi σ H R ->
  wpAny (model X.prog X.w) X.A (eval iter X.env) (fun v s1 => wpAny (model X.prog X.w) X.A (pyIter v) (PIE X pins σ tg R) X.xe s1) X.xe s
theorem go_of      (ho : s.heap.get? it = some o) (hc : o.cls = .type n) (hd : o.data = .fields vs)
    (hn : ["enumerate", "zip", "dict_itemiterator", "dict_reverseitemiterator", "odict_iterator", "itertools.zip_longest", "itertools.pairwise"].contains n = false) (hQ : Q () s) : wpAny M A (letOwnedTupleGo tg (.ref it) u) Q E s := by
  unfold letOwnedTupleGo
  cases tg <;> first
    | exact wpAny_pure hQ
    | (cases u <;> first
        | exact wpAny_pure hQ
        | (refine wpAny_bind (wpAny_load ho ?_)
           rw [hc, hd]
           show wpAny M A (if (["enumerate", "zip", "dict_itemiterator", "dict_reverseitemiterator", "odict_iterator", "itertools.zip_longest", "itertools.pairwise"].contains n && vs[0]? == some (rawInt _)) = true then _ else _) Q E s
           rw [if_neg (by intro h; rw [hn, Bool.false_and] at h; cases h)]
           exact wpAny_pure hQ))
def Itl (K : PySem.W.Frag) (a : Addr) : It :=
 ⟨fun i H => ∃ xs x, SqL K H a xs /\ xs[i]? = some x, fun i H x H' => H' = H /\ ∀ xs, SqL K H a xs -> xs[i]? = some x, fun i H => ∃ xs, SqL K H a xs /\ xs.length <= i⟩
def Itt (K : PySem.W.Frag) (a : Addr) : It :=
 ⟨fun i H => ∃ xs x, SqT K H a xs /\ xs[i]? = some x, fun i H x H' => H' = H /\ ∀ xs, SqT K H a xs -> xs[i]? = some x, fun i H => ∃ xs, SqT K H a xs /\ xs.length <= i⟩
def Itr (lo : Int) (n : Nat) : It := ⟨fun i _ => i < n, fun i H x H' => H' = H /\ x = .int (lo + i), fun i _ => n <= i⟩
theorem turn_list {P : Program} {w : World} {K : PySem.W.Frag} {tg : Expr} (a it : Addr) : Turn P w K tg (Itl K a) [it] it (fun i h => h.IsListIter it a i) where
 mem := by simp
 obj := fun i h st b hb => by
  have e : b = it := by simpa using hb
  subst e
  obtain ⟨o, e, c, d⟩ := st
  exact ⟨o, e, fun v z => by rw [d] at z; cases z⟩
 keep := fun i h h' st k => st.at fun o e => k it (by simp) o e
 item := by
  intro X hP hw hK hc i pins s σ H E I hf st hg
  subst hP hw hK
  obtain ⟨xs, x, hq, hx⟩ := hg
  obtain ⟨its, rv, p, hz⟩ := I.list hq
  obtain ⟨u, hu, ru⟩ := rv.get hx
  obtain ⟨f0, f1, f2, f3, f4, f5⟩ := hf it (by simp)
  refine wpAny_pyNext_list_item st p.isList (x := u) (by simpa using hu) fun h' st' sb => ?_
  have I1 : Inv X pins σ H { s with heap := h' } := I.turned (t' := s.toks) (fun b o hb e => (sb.2 b hb).trans e) f0 f1 f3 f4 f5
  obtain ⟨o, e, c, d⟩ := id st'
  exact ⟨u, rfl, go_of (s := { s with heap := h' }) e c d (by decide) ⟨x, H, I1, ru, ⟨rfl, fun ys hy => by rw [I.list_inj hy hq]; exact hx⟩, st', fun b hb => (hf b hb).1⟩⟩
 done := by
  intro X hP hw hK hc i pins s σ H E I hf st hg
  subst hP hw hK
  obtain ⟨xs, hq, hx⟩ := hg
  obtain ⟨its, rv, p, hz⟩ := I.list hq
  obtain ⟨f0, f1, f2, f3, f4, f5⟩ := hf it (by simp)
  have hl := rv.length
  exact wpAny_pyNext_list_end (I.ok.hd hc) st p.isList (by simp; omega) fun h' eb => ⟨rfl, I.turned (t' := s.toks) (fun b o hb e => eb b o hb e) f0 f1 f3 f4 f5⟩
 self := fun _ _ _ _ _ st h => wpAny_pyIter_listiter st h
theorem turn_tuple {P : Program} {w : World} {K : PySem.W.Frag} {tg : Expr} (a it : Addr) : Turn P w K tg (Itt K a) [it] it (fun i h => h.IsTupleIter it a i) where
 mem := by simp
 obj := fun i h st b hb => by
  have e : b = it := by simpa using hb
  subst e
  obtain ⟨o, e, c, d⟩ := st
  exact ⟨o, e, fun v z => by rw [d] at z; cases z⟩
 keep := fun i h h' st k => st.at fun o e => k it (by simp) o e
 item := by
  intro X hP hw hK hc i pins s σ H E I hf st hg
  subst hP hw hK
  obtain ⟨xs, x, hq, hx⟩ := hg
  obtain ⟨its, rv, p, hz⟩ := I.tuple hq
  obtain ⟨u, hu, ru⟩ := rv.get hx
  obtain ⟨f0, f1, f2, f3, f4, f5⟩ := hf it (by simp)
  refine wpAny_pyNext_tuple_item st (show s.heap.IsTuple a its.toArray from p) (x := u) (by simpa using hu) fun h' st' sb => ?_
  have I1 : Inv X pins σ H { s with heap := h' } := I.turned (t' := s.toks) (fun b o hb e => (sb.2 b hb).trans e) f0 f1 f3 f4 f5
  obtain ⟨o, e, c, d⟩ := id st'
  exact ⟨u, rfl, go_of (s := { s with heap := h' }) e c d (by decide) ⟨x, H, I1, ru, ⟨rfl, fun ys hy => by rw [I.tuple_inj hy hq]; exact hx⟩, st', fun b hb => (hf b hb).1⟩⟩
 done := by
  intro X hP hw hK hc i pins s σ H E I hf st hg
  subst hP hw hK
  obtain ⟨xs, hq, hx⟩ := hg
  obtain ⟨its, rv, p, hz⟩ := I.tuple hq
  obtain ⟨f0, f1, f2, f3, f4, f5⟩ := hf it (by simp)
  have hl := rv.length
  exact wpAny_pyNext_tuple_end (I.ok.hd hc) st (show s.heap.IsTuple a its.toArray from p) (by simp; omega) fun h' eb => ⟨rfl, I.turned (t' := s.toks) (fun b o hb e => eb b o hb e) f0 f1 f3 f4 f5⟩
 self := fun _ _ _ _ _ st h => wpAny_pyIter_tupleiter st h
theorem turn_range {P : Program} {w : World} {K : PySem.W.Frag} {tg : Expr} (it : Addr) (lo : Int) (n : Nat) : Turn P w K tg (Itr lo n) [it] it (fun i h => IsRangeIter h it (lo + (i : Nat) * 1) ((n : Int) - (i : Nat)) 1) where
 mem := by simp
 obj := fun i h st b hb => by
  have e : b = it := by simpa using hb
  subst e
  exact ⟨_, st, fun v z => by
   have z' : Data.fields _ = Data.cell v := z
   cases z'⟩
 keep := fun i h h' st k => k it (by simp) _ st
 item := by
  intro X hP hw hK hc i pins s σ H E I hf st hg
  subst hP hw hK
  obtain ⟨f0, f1, f2, f3, f4, f5⟩ := hf it (by simp)
  have W := Walks.range (prog := X.prog) (w := X.w) (I.ok.hd hc) it lo 1 n
  refine W.item i s _ _ hg st fun v h' tk hv st' kk => ?_
  obtain ⟨t, rfl⟩ := hv
  have I1 : Inv X pins σ H { s with heap := h', toks := tk } := I.turned (fun b o hb e => kk b o (by simpa using hb) e) f0 f1 f3 f4 f5
  refine ⟨_, rfl, go_of (s := { s with heap := h', toks := tk }) (n := "range_iterator") st' rfl rfl (by decide) ⟨.int (lo + i), H, I1, ⟨t, ?_⟩, ⟨rfl, rfl⟩, st', fun b hb => (hf b hb).1⟩⟩
  rw [Int.mul_one]
 done := by
  intro X hP hw hK hc i pins s σ H E I hf st hg
  subst hP hw hK
  obtain ⟨f0, f1, f2, f3, f4, f5⟩ := hf it (by simp)
  exact wpAny_pyNext_range_end (I.ok.hd hc) st (by have : n <= i := hg; omega) fun h' eb => ⟨rfl, I.turned (t' := s.toks) (fun b o hb e => eb b o hb e) f0 f1 f3 f4 f5⟩
 self := fun _ _ _ _ _ st h => wpAny_pyIter_rangeiter st h
section
variable {X : Cx} {tg : Expr}
theorem range_it {pins : List (Addr × Obj)} {σ : St} {H : Hp} {s : Shared} {R : It -> Hp -> Prop} {E : Value -> Shared -> Prop} {lo hi : Int} {t u v : Tok} {tk : Nat} (I : Inv X pins σ H s) (h1 : -(2 ^ 62) <= lo) (h2 : lo < 2 ^ 62) (h3 : -(2 ^ 62) <= hi) (h4 : hi < 2 ^ 62)
  (q : R (Itr lo (hi - lo).toNat) H) : wpAny (model X.prog X.w) X.A (pyIter (.ref s.heap.objs.size)) (PIE X pins σ tg R) E { s with heap := s.heap.push { cls := .type "range", data := .fields #[.int lo t, .int hi u, .int 1 v] }, toks := tk } := by
 refine wpAny_pyIter_range (IsRange.new ..) (small_one h1 h2 h3 h4) ?_
 have I1 : Inv X pins σ H { s with heap := s.heap.push { cls := .type "range", data := .fields #[.int lo t, .int hi u, .int 1 v] }, toks := tk } := I.kept fun b o e => Heap.get?_push_of_some _ e
 refine ⟨(s.heap.push { cls := .type "range", data := .fields #[.int lo t, .int hi u, .int 1 v] }).objs.size, [(s.heap.push { cls := .type "range", data := .fields #[.int lo t, .int hi u, .int 1 v] }).objs.size], _, _, H, rfl,
  I1.kept (t' := tk) fun b o e => Heap.get?_push_of_some _ e, turn_range _ lo (hi - lo).toNat, ?_, fun b hb => ?_, q⟩
 ·have e1 : lo + ((0 : Nat) : Int) * 1 = lo := by simp
  have e2 : (((hi - lo).toNat : Nat) : Int) - ((0 : Nat) : Int) = Builtin.Range.rangeSize lo hi 1 := by rw [rangeSize_one]; split <;> omega
  show IsRangeIter _ _ (lo + ((0 : Nat) : Int) * 1) ((((hi - lo).toNat : Nat) : Int) - ((0 : Nat) : Int)) 1
  rw [e1, e2]
  exact Heap.get?_push_size _ rfl
 ·have e : b = (s.heap.push { cls := .type "range", data := .fields #[.int lo t, .int hi u, .int 1 v] }).objs.size := by simpa using hb
  subst e
  exact I1.fpOk (Nat.le_refl _) (I1.hok.fresh (Nat.le_refl _))
def iRng1 (ta : TA) : TI := fun σ H R => ta σ H fun vs H1 => ∃ j : Int, vs = [.int j] /\ -(2 ^ 62) <= j /\ j < 2 ^ 62 /\ R (Itr 0 j.toNat) H1
theorem pi_range1 {a : Expr} {ta : TA} {p pos : Pos} (hg : Gl X "range") (hm : X.mg "range" = none) (ha : PA X [a] ta) (hs : starEach [a] X.env = [(false, eval a X.env)] := by rfl) : PI X tg (.Call (.Name "range" p) [a] [] pos) (iRng1 ta) := by
 intro pins s σ H R I h
 refine Call_ (ld_blt I hg hm boot_range (PyProof.Rows.callWith_type1 (thn (ha pos pins s σ H _ I h) fun us s1 ⟨vs, H1, I1, r1, q1⟩ => ?_) hs rfl))
 obtain ⟨j, e, q1, q2, q⟩ := q1
 subst e
 cases r1 with
 | cons r rr =>
  cases rr
  obtain ⟨t, rfl⟩ := r
  exact call_range_1 (range_it I1 (by omega) (by omega) q1 q2 (by simpa using q))
def tFor (wi : TI) (g : TG) (tb : TS) : TS := fun D σ H => wi σ H fun J H1 => ∃ W : Nat -> Nat -> St -> Hp -> Prop, (∃ m, W 0 m σ H1) /\ ∀ i m σ H, W i m σ H ->
 (J.stop i H /\ D.nx σ H) \/ (J.go i H /\ ∃ N : St -> Hp -> Prop, (∀ σ' H', N σ' H' -> ∃ m', m' < m /\ W (i + 1) m' σ' H') /\ ∀ x H', J.yld i H x H' -> g x σ H' fun σ2 H2 => tb { D with nx := N, ct := N, bk := D.nx } σ2 H2)
def pinsAt (fp : List Addr) (h : Heap) : List (Addr × Obj) := fp.filterMap fun b => (h.get? b).map fun o => (b, o)
theorem mem_pinsAt {fp : List Addr} {h : Heap} {b : Addr} {o : Obj} (hb : b ∈ fp) (e : h.get? b = some o) : (b, o) ∈ pinsAt fp h := List.mem_filterMap.mpr ⟨b, hb, by rw [e]; rfl⟩
theorem of_pinsAt  (hp : p ∈ pinsAt fp h) : p.1 ∈ fp /\ h.get? p.1 = some p.2 := by
 obtain ⟨b, hb, e⟩ := List.mem_filterMap.mp hp
 cases q : h.get? b with
 | none => rw [q] at e; cases e
 | some o =>
  rw [q] at e
  have e' : (b, o) = p := Option.some.inj e
  subst e'
  exact ⟨hb, q⟩
theorem Inv.pinned {pins : List (Addr × Obj)} {σ : St} {H : Hp} {s : Shared} {fp : List Addr} (I : Inv X pins σ H s) (hf : ∀ b ∈ fp, FpOk X pins H b) (ho : ∀ b ∈ fp, ∃ o, s.heap.get? b = some o /\ ∀ v, o.data ≠ .cell v) : Inv X (pins ++ pinsAt fp s.heap) σ H s :=
 I.pins_of fun p hp => (List.mem_append.mp hp).elim (fun z => I.pin p (List.mem_append_right _ z)) fun z => by
  obtain ⟨hb, e⟩ := of_pinsAt z
  obtain ⟨f0, f1, f2, _⟩ := hf p.1 hb
  obtain ⟨o, e', d⟩ := ho p.1 hb
  rw [e] at e'; cases e'
  exact ⟨e, f0, f1, f2, d⟩
theorem Inv.unpinned {pins pl : List (Addr × Obj)} {σ : St} {H : Hp} {s : Shared} (I : Inv X (pins ++ pl) σ H s) : Inv X pins σ H s := I.pins_of fun p hp => I.pin p (List.mem_append_right _ (List.mem_append_left _ hp))
theorem ps_for {iter : Expr} {body : List Stmt} {wi : TI} {g : TG} {tb : TS} {pos : Pos} (hp : PassesOwn (model X.prog X.w) X.A X.env X.xe) (hc : X.calm = true) (hi : PI X tg iter wi) (hg : PG X tg g) (hb : PSs X body tb)
  (hs : ∀ x, foldedSetIterable iter X.env x = pure x := by intro _; rfl) : PS X (.For tg iter body [] pos) (tFor wi g tb) := by
 intro pins s σ H D I h
 refine wpAny_For (thn (hi pins s σ H _ I h) fun v s1 h1 => thn h1 fun itv s2 h2 => ?_) hs
 obtain ⟨it, fp, tn, J, H2, e, I2, T, st2, f2, W, ⟨m0, w0⟩, turn⟩ := h2
 subst e
 -- what stays true of the iterator's objects through the loop
 have stat : ∀ {H' : Hp}, (∀ b ∈ fp, H' b = none) -> ∀ b ∈ fp, FpOk X pins H' b := fun hn b hb => ⟨hn b hb, (f2 b hb).2⟩
 refine codeAny_forLoop_any (fun n s' => ∃ i σ' H', Inv X pins σ' H' s' /\ tn i s'.heap /\ (∀ b ∈ fp, H' b = none) /\ W i n σ' H') ?_ m0 ⟨0, σ, H2, I2, st2, fun b hb => (f2 b hb).1, w0⟩
 rintro n s3 ⟨i, σ3, H3, I3, st3, fr3, w3⟩
 rcases turn i n σ3 H3 w3 with ⟨stop, qn⟩ | ⟨go, N, hN, step⟩
 ·refine wpAny_passesOwn hp (thn (T.done X rfl rfl rfl hc i pins s3 σ3 H3 X.xe I3 (stat fr3) st3 stop) fun r s4 ⟨hr, I4⟩ => ?_)
  subst hr
  exact wpAny_execs_nil ⟨σ3, H3, I4, qn⟩
 ·refine wpAny_passesOwn hp (thn (T.item X rfl rfl rfl hc i pins s3 σ3 H3 X.xe I3 (stat fr3) st3 go) fun r s4 ⟨u, hr, h4⟩ => ?_)
  subst hr
  refine wpAny_passesOwn hp (thn h4 fun _ s5 ⟨x, H5, I5, r5, y5, st5, fr5⟩ => ?_)
  have I5' := I5.pinned (stat fr5) (T.obj _ _ st5)
  refine wpAny_passesOwn hp (thn (hg _ s5 σ3 H5 x u _ I5' r5 (step x H5 y5)) fun _ s6 ⟨σ6, H6, I6, q6⟩ => ?_)
  refine wpAny_passesOwn hp (thn (hb _ s6 σ6 H6 _ I6 q6) fun f s7 q7 => ?_)
  have again : ∀ {σ7 : St} {H7 : Hp}, Inv X (pins ++ pinsAt fp s5.heap) σ7 H7 s7 -> N σ7 H7 -> ∃ m, m < n /\ ∃ i σ' H', Inv X pins σ' H' s7 /\ tn i s7.heap /\ (∀ b ∈ fp, H' b = none) /\ W i m σ' H' := fun {σ7 H7} I7 n7 => by
   obtain ⟨m', hm, w7⟩ := hN σ7 H7 n7
   refine ⟨m', hm, i + 1, σ7, H7, I7.unpinned, T.keep _ _ _ st5 fun b hb o e => (I7.pin (b, o) (List.mem_append_right _ (List.mem_append_right _ (mem_pinsAt hb e)))).1, fun b hb => ?_, w7⟩
   obtain ⟨o, e, d⟩ := T.obj _ _ st5 b hb
   exact (I7.pin (b, o) (List.mem_append_right _ (List.mem_append_right _ (mem_pinsAt hb e)))).2.1
  cases f with
  | next => obtain ⟨σ7, H7, I7, n7⟩ := q7; exact again I7 n7
  | cont => obtain ⟨σ7, H7, I7, n7⟩ := q7; exact again I7 n7
  | brk => obtain ⟨σ7, H7, I7, q7⟩ := q7; exact ⟨σ7, H7, I7.unpinned, q7⟩
  | ret v => obtain ⟨x7, σ7, H7, I7, r7, q7⟩ := q7; exact ⟨x7, σ7, H7, I7.unpinned, r7, q7⟩
end
abbrev R2 := V -> V -> Hp -> VK -> Prop
def OpR (X : Cx) (f : Value -> Value -> Sem Value) (r : R2) : Prop :=
 ∀ (pins : List (Addr × Obj)) (s : Shared) (σ : St) (H : Hp) (x y : V) (v u : Value) (Q : VK), Inv X pins σ H s -> RelV x v -> RelV y u -> r x y H Q ->
  wpAny (model X.prog X.w) X.A (f v u) (EP X pins σ Q) X.xe s
def UnR (X : Cx) (f : Value -> Sem Value) (r : V -> Hp -> VK -> Prop) : Prop :=
 ∀ (pins : List (Addr × Obj)) (s : Shared) (σ : St) (H : Hp) (x : V) (v : Value) (Q : VK), Inv X pins σ H s -> RelV x v -> r x H Q ->
  wpAny (model X.prog X.w) X.A (f v) (EP X pins σ Q) X.xe s
def CallR (X : Cx) (f : Value) (r : List V -> Hp -> VK -> Prop) : Prop :=
 ∀ (pins : List (Addr × Obj)) (s : Shared) (σ : St) (H : Hp) (xs : List V) (us : List Value) (Q : VK), Inv X pins σ H s -> Vals xs us -> r xs H Q ->
  wpAny (model X.prog X.w) X.A (call f us) (EP X pins σ Q) X.xe s
def TruR (X : Cx) (r : V -> Hp -> (Bool -> Hp -> Prop) -> Prop) : Prop :=
 ∀ (pins : List (Addr × Obj)) (s : Shared) (σ : St) (H : Hp) (x : V) (v : Value) (Q : Bool -> Hp -> Prop), Inv X pins σ H s -> RelV x v -> r x H Q ->
  wpAny (model X.prog X.w) X.A (truthy v) (TP X pins σ Q) X.xe s
def tOp (r : R2) (ta tb : TE) : TE := fun σ H Q => ta σ H fun x H1 => tb σ H1 fun y H2 => r x y H2 Q
def tUn (r : V -> Hp -> VK -> Prop) (ta : TE) : TE := fun σ H Q => ta σ H fun x H1 => r x H1 Q
def rI (C : Int -> Int -> Prop) (g : Int -> Int -> V) : R2 := fun x y H Q => ∃ i j, x = .int i /\ y = .int j /\ C i j /\ Q (g i j) H
def rI0 (g : Int -> Int -> V) : R2 := fun x y H Q => ∃ i j, x = .int i /\ y = .int j /\ Q (g i j) H
def rU (g : Int -> V) : V -> Hp -> VK -> Prop := fun x H Q => ∃ i, x = .int i /\ Q (g i) H
section
variable {X : Cx} {a b c : Expr} {ta tb tc : TE} {pos : Pos}
theorem binT (ha : PE X a ta) (hb : PE X b tb) {pins : List (Addr × Obj)} {s : Shared} {σ : St} {H : Hp} {R : V -> V -> Hp -> Prop} (I : Inv X pins σ H s)
  (h : ta σ H fun x H1 => tb σ H1 fun y H2 => R x y H2) {Q : Value -> Shared -> Prop} {f : Value -> Value -> Sem Value}
  (hf : ∀ v u s2 x y H2, Inv X pins σ H2 s2 -> RelV x v -> RelV y u -> R x y H2 -> wpAny (model X.prog X.w) X.A (f v u) Q X.xe s2) :
  wpAny (model X.prog X.w) X.A (eval a X.env) (fun v s₁ => wpAny (model X.prog X.w) X.A (eval b X.env) (fun u s₂ => wpAny (model X.prog X.w) X.A (f v u) Q X.xe s₂) X.xe s₁) X.xe s := by
 refine thn (ha pins s σ H _ I h) fun v s1 ⟨x, H1, I1, r1, q1⟩ => ?_
 refine thn (hb pins s1 σ H1 _ I1 q1) fun u s2 ⟨y, H2, I2, r2, q2⟩ => ?_
 exact hf v u s2 x y H2 I2 r1 r2 q2
theorem pe_op {op : Operator} {r : R2} (ho : OpR X (binaryOp op) r) (ha : PE X a ta) (hb : PE X b tb) : PE X (.BinOp a op b pos) (tOp r ta tb) := by
 intro pins s σ H Q I h
 exact wpAny_BinOp (binT ha hb I h fun v u s2 x y H2 I2 rx ry q => ho pins s2 σ H2 x y v u Q I2 rx ry q)
theorem pe_un {op : UnaryOp} {r : V -> Hp -> VK -> Prop} (ho : UnR X (unaryOp op) r) (ha : PE X a ta) : PE X (.UnaryOp op a pos) (tUn r ta) := by
 intro pins s σ H Q I h
 exact UnaryOp_ (thn (ha pins s σ H _ I h) fun v s1 ⟨x, H1, I1, r1, q1⟩ => ho pins s1 σ H1 x v Q I1 r1 q1)
theorem opI {f : Value -> Value -> Sem Value} {C : Int -> Int -> Prop} {g : Int -> Int -> Int}
  (rule : ∀ (i j : Int) (t u : Tok) (s : Shared) (Q : Value -> Shared -> Prop) (E : Value -> Shared -> Prop), C i j -> Q (.int (g i j) s.toks) { s with toks := s.toks + 1 } -> wpAny (model X.prog X.w) X.A (f (.int i t) (.int j u)) Q E s) :
  OpR X f (rI C fun i j => .int (g i j)) := by
 intro pins s σ H x y v u Q I rx ry h
 obtain ⟨i, j, rfl, rfl, hc, q⟩ := h
 obtain ⟨t, rfl⟩ := rx
 obtain ⟨t', rfl⟩ := ry
 exact rule i j t t' s _ _ hc ⟨.int (g i j), H, I.tok _, ⟨_, rfl⟩, q⟩
theorem opI0 {f : Value -> Value -> Sem Value} {g : Int -> Int -> Int}
  (rule : ∀ (i j : Int) (t u : Tok) (s : Shared) (Q : Value -> Shared -> Prop) (E : Value -> Shared -> Prop), Q (.int (g i j) s.toks) { s with toks := s.toks + 1 } -> wpAny (model X.prog X.w) X.A (f (.int i t) (.int j u)) Q E s) :
  OpR X f (rI0 fun i j => .int (g i j)) := by
 intro pins s σ H x y v u Q I rx ry h
 obtain ⟨i, j, rfl, rfl, q⟩ := h
 obtain ⟨t, rfl⟩ := rx
 obtain ⟨t', rfl⟩ := ry
 exact rule i j t t' s _ _ ⟨.int (g i j), H, I.tok _, ⟨_, rfl⟩, q⟩
theorem opB0 {f : Value -> Value -> Sem Value} {g : Int -> Int -> Bool}
  (rule : ∀ (i j : Int) (t u : Tok) (s : Shared) (Q : Value -> Shared -> Prop) (E : Value -> Shared -> Prop), Q (.bool (g i j)) s -> wpAny (model X.prog X.w) X.A (f (.int i t) (.int j u)) Q E s) :
  OpR X f (rI0 fun i j => .bl (g i j)) := by
 intro pins s σ H x y v u Q I rx ry h
 obtain ⟨i, j, rfl, rfl, q⟩ := h
 obtain ⟨t, rfl⟩ := rx
 obtain ⟨t', rfl⟩ := ry
 exact rule i j t t' s _ _ ⟨.bl (g i j), H, I, rfl, q⟩
def CDiv (i j : Int) : Prop := 0 < j /\ j < 1073741824
def CPow (i j : Int) : Prop := 0 <= j /\ j <= 1000000 /\ i.natAbs < 2 ^ 64
def CMul (i j : Int) : Prop := (-(2 ^ 64) < i /\ i < 2 ^ 64) \/ (-(2 ^ 64) < j /\ j < 2 ^ 64)
theorem CMul.ok {i j : Int} (h : CMul i j) : IntMulOk i j := by
 rcases h with ⟨h1, h2⟩ | ⟨h1, h2⟩
 ·exact .of_left (intBits_le_64 h1 h2)
 ·exact .of_right (intBits_le_64 h1 h2)
theorem op_add : OpR X (binaryOp .Add) (rI0 fun i j => .int (i + j)) := opI0 fun _ _ _ _ _ _ _ q => add_int q
theorem op_sub : OpR X (binaryOp .Sub) (rI0 fun i j => .int (i - j)) := opI0 fun _ _ _ _ _ _ _ q => sub_int q
theorem op_mul : OpR X (binaryOp .Mult) (rI CMul fun i j => .int (i * j)) := opI fun _ _ _ _ _ _ _ hc q => mul_int q hc.ok
theorem op_fdiv : OpR X (binaryOp .FloorDiv) (rI CDiv fun i j => .int (i / j)) := opI fun i j _ _ _ _ _ hc q => by
 have h1 : (0 : Int) < j := hc.1
 have h2 : j < 1073741824 := hc.2
 exact floordiv_int (by omega) (by rw [Int.fdiv_eq_ediv_of_nonneg i (by omega)]; exact q) (.inl (PyProof.noPylong_small (by omega)))
theorem op_mod : OpR X (binaryOp .Mod) (rI (fun _ j => 0 < j) fun i j => .int (i % j)) := opI fun i j _ _ _ _ _ hc q => by
 have h1 : (0 : Int) < j := hc
 exact mod_int' (by omega) (by rw [Int.fmod_eq_emod_of_nonneg i (by omega)]; exact q)
theorem op_pow : OpR X (binaryOp .Pow) (rI CPow fun i j => .int (i ^ j.toNat)) := opI fun _ _ _ _ _ _ _ hc q => pow_int_small hc.1 hc.2.1 hc.2.2 q
theorem unI {f : Value -> Sem Value} {g : Int -> Int}
  (rule : ∀ (i : Int) (t : Tok) (s : Shared) (Q : Value -> Shared -> Prop) (E : Value -> Shared -> Prop), Q (.int (g i) s.toks) { s with toks := s.toks + 1 } -> wpAny (model X.prog X.w) X.A (f (.int i t)) Q E s) :
  UnR X f (rU fun i => .int (g i)) := by
 intro pins s σ H x v Q I rx h
 obtain ⟨i, rfl, q⟩ := h
 obtain ⟨t, rfl⟩ := rx
 exact rule i t s _ _ ⟨.int (g i), H, I.tok _, ⟨_, rfl⟩, q⟩
theorem un_neg : UnR X (unaryOp .USub) (rU fun i => .int (-i)) := unI fun _ _ _ _ _ q => neg_int q
end
section
variable {X : Cx} {a b c : Expr} {ta tb tc : TE} {pos : Pos}
theorem fin_bl    (I : Inv X pins σ H s) (q : Q (.bl k) H) (e : k = k') : EP X pins σ Q (.bool k') s := by
 subst e
 exact ⟨.bl k, H, I, rfl, q⟩
theorem op_lt : OpR X (compareOp .Lt) (rI0 fun i j => .bl (decide (i < j))) := opB0 fun _ _ _ _ _ _ _ q => lt_int q
theorem op_le : OpR X (compareOp .LtE) (rI0 fun i j => .bl (decide (i <= j))) := opB0 fun _ _ _ _ _ _ _ q => le_int q
theorem op_gt : OpR X (compareOp .Gt) (rI0 fun i j => .bl (decide (j < i))) := opB0 fun _ _ _ _ _ _ _ q => gt_int q
theorem op_ge : OpR X (compareOp .GtE) (rI0 fun i j => .bl (decide (j <= i))) := opB0 fun _ _ _ _ _ _ _ q => ge_int q
theorem op_in_str : OpR X (compareOp .In) (fun x y H Q => ∃ i j, x = .str i /\ y = .str j /\ Q (.bl (!(Builtin.Str.occurrences j i 0 j.length 1).isEmpty)) H) := by
 intro pins s σ H x y v u Q I rx ry h
 obtain ⟨i, j, rfl, rfl, q⟩ := h
 obtain ⟨t, rfl⟩ := rx
 obtain ⟨t', rfl⟩ := ry
 exact in_str (fin_bl I q rfl)
theorem OpR.or {f : Value -> Value -> Sem Value} {r r' : R2} (h : OpR X f r) (h' : OpR X f r') : OpR X f (fun x y H Q => r x y H Q \/ r' x y H Q) := by
 intro pins s σ H x y v u Q I rx ry q
 rcases q with q | q
 ·exact h pins s σ H x y v u Q I rx ry q
 ·exact h' pins s σ H x y v u Q I rx ry q
theorem nomark (b : Expr) (h : op ≠ .In := by decide) (h2 : op ≠ .NotIn := by decide) : behindInMarks op b = false := by
 have e1 : (op == CmpOp.In) = false := by cases op <;> first | rfl | exact absurd rfl h
 have e2 : (op == CmpOp.NotIn) = false := by cases op <;> first | rfl | exact absurd rfl h2
 cases b <;> simp [behindInMarks, e1, e2]
theorem pe_cmpR  (ho : OpR X (compareOp op) r) (ha : PE X a ta) (hb : PE X b tb) (hm : behindInMarks op b = false) : PE X (.Compare a [op] [b] pos) (tOp r ta tb) := by
 intro pins s σ H Q I h
 exact wpAny_Compare1 (binT ha hb I h fun v u s2 x y H2 I2 rx ry q => ho pins s2 σ H2 x y v u Q I2 rx ry q) hm
def tTest (t : TE) : TT := fun σ H Q => t σ H fun x H' => ∃ k, x = .bl k /\ Q k H'
theorem pt_cmpR {op : CmpOp} {r : R2} (ho : OpR X (compareOp op) r) (ha : PE X a ta) (hb : PE X b tb) (hm : behindInMarks op b = false) : PT X (.Compare a [op] [b] pos) (tTest (tOp r ta tb)) := by
 intro pins s σ H Q I h
 refine wpAny_isTrue_Compare1 (thn (ha pins s σ H _ I h) fun v s1 ⟨x, H1, I1, r1, q1⟩ => thn (hb pins s1 σ H1 _ I1 q1) fun u s2 ⟨y, H2, I2, r2, q2⟩ =>
  thn (ho pins s2 σ H2 x y v u _ I2 r1 r2 q2) fun c s3 ⟨z, H3, I3, r3, k, e, q3⟩ => ?_) hm
 subst e
 cases r3
 exact wpAny_truthy_bool ⟨H3, I3, q3⟩
def tChain (r r' : R2) (ta tb tc : TE) : TE := fun σ H Q => ta σ H fun x H1 => tb σ H1 fun y H2 => r x y H2 fun z H3 => ∃ k, z = .bl k /\
 (if k = true then tc σ H3 fun w' H4 => r' y w' H4 Q else Q (.bl false) H3)
theorem pe_chain {op op' : CmpOp} {r r' : R2} (ho : OpR X (compareOp op) r) (ho' : OpR X (compareOp op') r') (ha : PE X a ta) (hb : PE X b tb) (hc : PE X c tc)
  (hm : lastMarks [op, op'] [b, c] = false := by with_unfolding_all rfl) : PE X (.Compare a [op, op'] [b, c] pos) (tChain r r' ta tb tc) := by
 intro pins s σ H Q I h
 refine Compare_chain (thn (ha pins s σ H _ I h) fun v s1 ⟨x, H1, I1, r1, q1⟩ => chain_link (thn (hb pins s1 σ H1 _ I1 q1) fun u s2 ⟨y, H2, I2, r2, q2⟩ =>
  thn (ho pins s2 σ H2 x y v u _ I2 r1 r2 q2) fun d s3 ⟨z, H3, I3, r3, k, e, q3⟩ => ?_)) hm
 subst e
 cases r3
 refine wpAny_truthy_bool ?_
 cases k with
 | false => exact ite_ff ⟨.bl false, H3, I3, rfl, q3⟩
 | true => exact ite_tt (chain_last (thn (hc pins s3 σ H3 _ I3 q3) fun w' s4 ⟨z', H4, I4, r4, q4⟩ => ho' pins s4 σ H4 y z' u w' Q I4 r2 r4 q4))
theorem pt_chain {op op' : CmpOp} {r r' : R2} (ho : OpR X (compareOp op) r) (ho' : OpR X (compareOp op') r') (ha : PE X a ta) (hb : PE X b tb) (hc : PE X c tc)
  (hm : lastMarks [op, op'] [b, c] = false := by with_unfolding_all rfl) : PT X (.Compare a [op, op'] [b, c] pos) (tTest (tChain r r' ta tb tc)) := by
 intro pins s σ H Q I h
 refine isTrue_chain (thn (ha pins s σ H _ I h) fun v s1 ⟨x, H1, I1, r1, q1⟩ => test_link (thn (hb pins s1 σ H1 _ I1 q1) fun u s2 ⟨y, H2, I2, r2, q2⟩ =>
  thn (ho pins s2 σ H2 x y v u _ I2 r1 r2 q2) fun d s3 ⟨z, H3, I3, r3, k, e, q3⟩ => ?_)) hm
 subst e
 cases r3
 refine wpAny_truthy_bool ?_
 cases k with
 | false =>
  obtain ⟨k', e', q'⟩ := q3
  cases e'
  exact ite_ff ⟨H3, I3, q'⟩
 | true =>
  refine ite_tt (test_last (thn (hc pins s3 σ H3 _ I3 q3) fun w' s4 ⟨z', H4, I4, r4, q4⟩ => thn (ho' pins s4 σ H4 y z' u w' _ I4 r2 r4 q4) fun d' s5 ⟨z2, H5, I5, r5, k2, e2, q5⟩ => ?_))
  subst e2
  cases r5
  exact wpAny_truthy_bool ⟨H5, I5, q5⟩
def TruV (K : PySem.W.Frag) (x : V) (H : Hp) (k : Bool) : Prop :=
 match x with
 | .non => k = false
 | .bl b => k = b
 | .int i => k = (i != 0)
 | .str y => y.length <= sizeLine /\ k = ((y.length : Int) != 0)
 | .byt y => y.size <= sizeLine /\ k = ((y.size : Int) != 0)
 | .ref p => (∃ xs, SqL K H p xs /\ k = !xs.isEmpty) \/ (∃ xs, SqT K H p xs /\ k = !xs.isEmpty) \/ ∃ kvs, H p = some (.dK kvs) /\ k = !kvs.isEmpty
 | _ => False
theorem isEmpty_kv {κ : Type} {kvs : List (κ × V)} {vs : List (κ × Value)} (r : KV kvs vs) : (!vs.isEmpty) = !kvs.isEmpty := by
 cases r <;> rfl
theorem isEmpty_of {xs : List V} {its : List Value} (r : Vals xs its) : (!its.toArray.isEmpty) = !xs.isEmpty := by
 cases r <;> simp
theorem line63 : (sizeLine : Nat) < 2 ^ 63 := by rw [sizeLine_eq]; decide
theorem tru_ok : TruR X (fun x H Q => ∃ k, TruV X.K x H k /\ Q k H) := by
 intro pins s σ H x v Q I rx h
 obtain ⟨k, e, q⟩ := h
 have hl := line63
 have hs : sizeLine = 16777216 := sizeLine_eq
 cases x with
 | non =>
  cases rx
  have e' : k = false := e
  subst e'
  exact truthy_none ⟨H, I, q⟩
 | bl b =>
  cases rx
  have e' : k = b := e
  subst e'
  exact wpAny_truthy_bool ⟨H, I, q⟩
 | int i =>
  obtain ⟨t, rfl⟩ := rx
  have e' : k = (i != 0) := e
  subst e'
  exact PySem.P.truthy_int ⟨H, I, q⟩
 | str y =>
  obtain ⟨t, rfl⟩ := rx
  obtain ⟨hy, e'⟩ : y.length <= sizeLine /\ k = ((y.length : Int) != 0) := e
  subst e'
  exact PySem.P.truthy_str (by omega) ⟨H, I.tok _, q⟩
 | byt y =>
  obtain ⟨t, rfl⟩ := rx
  obtain ⟨hy, e'⟩ : y.size <= sizeLine /\ k = ((y.size : Int) != 0) := e
  subst e'
  exact PySem.W.truthy_bytes (by omega) ⟨H, I.tok _, q⟩
 | ref p =>
  cases rx
  have e' : (∃ xs, SqL X.K H p xs /\ k = !xs.isEmpty) \/ (∃ xs, SqT X.K H p xs /\ k = !xs.isEmpty) \/ ∃ kvs, H p = some (.dK kvs) /\ k = !kvs.isEmpty := e
  rcases e' with ⟨xs, hx, e'⟩ | ⟨xs, hx, e'⟩ | ⟨kvs, hx, e'⟩
  ·subst e'
   obtain ⟨its, r, pl, hz⟩ := I.list hx
   have hlen := r.length
   exact wpAny_truthy_list pl.isList (by simp only [List.size_toArray]; omega) ⟨H, I.tok _, by rw [isEmpty_of r]; exact q⟩
  ·subst e'
   obtain ⟨its, r, pl, hz⟩ := I.tuple hx
   have hlen := r.length
   exact truthy_tuple pl (by simp only [List.size_toArray]; omega) ⟨H, I.tok _, by rw [isEmpty_of r]; exact q⟩
  ·subst e'
   obtain ⟨hz, hS, vs, r, m⟩ : kvs.length <= sizeLine /\ (p == sysModules) = false /\ ∃ vs, KV kvs vs /\ s.heap.DictOf (mixKind X.prog X.w) p vs := I.hok p _ hx
   have hlen : kvs.length = vs.length := Paired.length r
   exact wpAny_truthy_dict hS m (by omega) ⟨H, I.tok _, by rw [isEmpty_kv r]; exact q⟩
 | _ => exact (show False from e).elim
theorem pt_truth (ha : PE X a ta) (he : ∀ whole, isTrue a X.env whole = (do let v <- whole; standAt a.pos; holding [v] (truthy v))) :
  PT X a (fun σ H Q => ta σ H fun x H' => ∃ k, TruV X.K x H' k /\ Q k H') := by
 intro pins s σ H Q I h
 exact isTrue_plain (thn (ha pins s σ H _ I h) fun v s1 ⟨x, H1, I1, r1, q1⟩ => tru_ok pins s1 σ H1 x v Q I1 r1 q1) (he _)
theorem op_add_str : OpR X (binaryOp .Add) (fun x y H Q => ∃ i j, x = .str i /\ y = .str j /\ i.length + j.length <= sizeLine /\ Q (.str (i ++ j)) H) := by
 intro pins s σ H x y v u Q I rx ry h
 obtain ⟨i, j, rfl, rfl, hz, q⟩ := h
 obtain ⟨t, rfl⟩ := rx
 obtain ⟨t', rfl⟩ := ry
 exact add_str (fun t' tk => ⟨.str (i ++ j), H, I.tok _, ⟨_, rfl⟩, q⟩) hz
theorem vals1  (r : Vals [x] us) : ∃ u, us = [u] /\ RelV x u := by
 cases r with
 | cons r1 r2 => cases r2; exact ⟨_, rfl, r1⟩
theorem vals2  (r : Vals [x, y] us) : ∃ u w', us = [u, w'] /\ RelV x u /\ RelV y w' := by
 cases r with
 | cons r1 r2 =>
  cases r2 with
  | cons r3 r4 => cases r4; exact ⟨_, _, rfl, r1, r3⟩
theorem call_int1 : CallR X (.type "int") (fun xs H Q => (∃ i, xs = [.int i] /\ Q (.int i) H) \/ ∃ k, xs = [.bl k] /\ Q (.int (if k then 1 else 0)) H) := by
 intro pins s σ H xs us Q I r h
 rcases h with ⟨i, rfl, q⟩ | ⟨k, rfl, q⟩
 ·obtain ⟨u, rfl, t, rfl⟩ := vals1 r
  exact call_int_int ⟨.int i, H, I, ⟨_, rfl⟩, q⟩
 ·obtain ⟨u, rfl, r1⟩ := vals1 r
  cases r1
  exact call_int_bool ⟨.int (if k then 1 else 0), H, I.tok _, ⟨_, rfl⟩, q⟩
theorem call_str_int : CallR X (.type "str") (fun xs H Q => ∃ i, xs = [.int i] /\ i.natAbs.log2 < 1920 /\ Q (.str (toString i)) H) := by
 intro pins s σ H xs us Q I r h
 obtain ⟨i, rfl, hz, q⟩ := h
 obtain ⟨u, rfl, t, rfl⟩ := vals1 r
 exact PySem.P.str_of_int hz ⟨.str _, H, I.tok _, ⟨_, rfl⟩, q⟩
end
section
variable {prog : Program} {w : World} {A : Around} {E : Value -> Shared -> Prop} {s : Shared} {K : PySem.W.Frag} {x dx C f : Addr} {mA : Str -> Option Value} {name : Str} {v : Value}
end
theorem RelO.some_of  (r : RelO (some v) o) : ∃ u, o = some u /\ RelV v u := by
 cases o with
 | none => exact (show False from r).elim
 | some u => exact ⟨u, rfl, r⟩
section
variable {P : Program} {w : World} {H H' : Hp} {h h' : Heap} {a C dx : Addr} {fs fs' : List (Str × V)}
end
section
variable {X : Cx} {pins : List (Addr × Obj)} {σ : St} {H : Hp} {s : Shared} {a C dx : Addr} {fs : List (Str × V)} {f : Str} {v : V} {A : Around} {E : Value -> Shared -> Prop}
end
section
variable {X : Cx} {o e value : Expr} {f : Str} {pos pos' tpos : Pos} {ta tv : TE}
end
section
variable {X : Cx} {pins : List (Addr × Obj)} {σ : St} {H : Hp} {s : Shared} {A : Around} {E : Value -> Shared -> Prop} {Q : Value -> Shared -> Prop} {c : Value} {b : Bool}
end
structure Room (k : Nat) (A : Around) : Prop where
 hd : A.handled = none
 dp : A.depth + 3 * k + 5 < recursionLimit
 un : A.units + 16 * k + 200 < cLine
theorem Room.mono  (r : Room k A) (h : j <= k) : Room j A := ⟨r.hd, by have := r.dp; omega, by have := r.un; omega⟩
theorem Room.deeper {k : Nat} {A : Around} (r : Room (k + 1) A) (env : Env) : Room k (A.deeper env) :=
 ⟨r.hd, by have := r.dp; show A.depth + 1 + 3 * k + 5 < _; omega, by have := r.un; show A.units + 3 + 16 * k + 200 < _; omega⟩
theorem Room.depth {k : Nat} {A : Around} (r : Room k A) : A.depth < recursionLimit := by have := r.dp; omega
theorem Room.units  (r : Room k A) : A.units + 64 < cLine := by have := r.un; omega
def tNil : TA := fun _ H Q => Q [] H
def tCons (ta : TE) (tr : TA) : TA := fun σ H Q => ta σ H fun x H1 => tr σ H1 fun xs H2 => Q (x :: xs) H2
section
variable {X : Cx} {e : Expr} {es : List Expr} {te : TE} {t : TA} {pos : Pos}
theorem pa_nil : PA X [] tNil := fun _ _ _ _ H Q I h => Calls.spliced_nil ⟨[], H, I, .nil, h⟩
theorem pa_cons (ha : PE X e te) (hr : PA X es t) (hs : starEach (e :: es) X.env = (false, eval e X.env) :: starEach es X.env := by rfl) : PA X (e :: es) (tCons te t) := by
 intro pos pins s σ H Q I h
 rw [hs]
 show wpAny _ _ (spliced ((false, eval e X.env) :: backTo pos (starEach es X.env))) _ _ s
 refine Calls.spliced_cons (thn (ha pins s σ H _ I h) fun u s1 ⟨x, H1, I1, r1, q1⟩ => ?_)
 exact thn (hr pos pins s1 σ H1 _ I1 q1) fun us s2 ⟨xs, H2, I2, r2, q2⟩ => ⟨x :: xs, H2, I2, .cons r1 r2, q2⟩
def tTup (t : TA) : TE := fun σ H Q => t σ H fun xs H1 => xs.length <= sizeLine /\ ∀ p, H1 p = none -> Q (.ref p) (upd H1 p (.tup xs))
def tLst (t : TA) : TE := fun σ H Q => t σ H fun xs H1 => xs.length <= sizeLine /\ ∀ p, H1 p = none -> Q (.ref p) (upd H1 p (.lst xs))
theorem pe_tup {x1} (h : PA X es t) : PE X (.Tuple es x1 pos) (tTup t) := by
 intro pins s σ H Q I hq
 refine wpAny_Tuple_spliced (thn (h pos pins s σ H _ I hq) fun us s1 ⟨xs, H1, I1, r, z, q⟩ => ⟨by rw [<- r.length]; exact z, ?_⟩)
 have hf : H1 s1.heap.objs.size = none := I1.hok.fresh (Nat.le_refl _)
 refine ⟨.ref s1.heap.objs.size, upd H1 s1.heap.objs.size (.tup xs), I1.laid (t' := s1.toks) (fun b u e => Heap.get?_push_of_some _ e) (Nat.le_refl _) ?_, rfl, q _ hf⟩
 exact ⟨z, us, r, ⟨_, Heap.get?_push_size _ rfl, rfl, _, rfl⟩⟩
theorem pe_lst (h : PA X es t) : PE X (.List es pos) (tLst t) := by
 intro pins s σ H Q I hq
 refine wpAny_List_spliced (thn (h pos pins s σ H _ I hq) fun us s1 ⟨xs, H1, I1, r, z, q⟩ => ⟨by rw [<- r.length]; exact z, ?_⟩)
 have hf : H1 s1.heap.objs.size = none := I1.hok.fresh (Nat.le_refl _)
 refine ⟨.ref s1.heap.objs.size, upd H1 s1.heap.objs.size (.lst xs), I1.laid (t' := s1.toks) (fun b u e => Heap.get?_push_of_some _ e) (Nat.le_refl _) ?_, rfl, q _ hf⟩
 exact ⟨z, us, 0, r, Heap.get?_push_size _ rfl⟩
end
abbrev Sp := List V -> Hp -> VK -> XK -> Prop
abbrev CXT := List Env -> Hp -> Shared -> XK -> Value -> Shared -> Prop
structure Env0 (P : Program) (w : World) (K : PySem.W.Frag) (mg : Str -> Option Value) (base : Heap) (A : Around) (outer : List Env) (s : Shared) (H : Hp) : Prop where
 frames : A.frames = some outer
 mod : Mod K mg base
 bs : ∀ b o, base.get? b = some o -> s.heap.get? b = some o /\ H b = none
 bsz : base.objs.size <= s.heap.objs.size
 funs : s.heap.FunFrames base outer
 frf : ∀ b ∈ frs outer, H b = none
 hok : HOk P w H s.heap
 bare : AllBare s.gens
def CE (outer : List Env) (P : Program) (w : World) (H : Hp) (s : Shared) (Q : VK) (u : Value) (s' : Shared) : Prop :=
 ∃ v H', s'.os = s.os /\ AllBare s'.gens /\ Un (frs outer) [] H H' s.heap s'.heap /\ HOk P w H' s'.heap /\ RelV v u /\ Q v H'
def CR (CX : CXT) (outer : List Env) (P : Program) (w : World) (H : Hp) (s : Shared) (Q : VK) (E : XK) (r : Result) (s' : Shared) : Prop :=
 match r with
 | .ok (.ret u) => CE outer P w H s Q u s'
 | .ok _ => False
 | .error e => CX outer H s E e s'
structure FnOk (P : Program) (w : World) (K : PySem.W.Frag) (mg : Str -> Option Value) (base : Heap) (CX : CXT) (k : Nat) (f : Addr) (fd : FuncData) (ps : List Str) (sp : Sp) : Prop where
 len : ∀ vs H Q E, sp vs H Q E -> vs.length = ps.length
 run : ∀ (A : Around) (outer : List Env) (s : Shared) (H : Hp) (args : Args) (us : List Value) (vs : List V) (Q : VK) (E : XK), Room k A -> Env0 P w K mg base A outer s H -> BindsTo s fd args (ps.zip us) -> Vals vs us -> sp vs H Q E ->
  codeAny (model P w) A (.call (.ref f) args) (CR CX outer P w H s Q E) s
theorem FnOk.imp {P : Program} {w : World} {K : PySem.W.Frag} {mg : Str -> Option Value} {base : Heap} {CX : CXT} {k : Nat} {f : Addr} {fd : FuncData} {ps : List Str} {sp sp' : Sp} (F : FnOk P w K mg base CX k f fd ps sp)
  (h : ∀ vs H Q E, sp' vs H Q E -> sp vs H Q E) : FnOk P w K mg base CX k f fd ps sp' :=
 ⟨fun vs H Q E q => F.len vs H Q E (h _ _ _ _ q), fun A outer s H args us vs Q E hr he hb hv hs => F.run A outer s H args us vs Q E hr he hb hv (h _ _ _ _ hs)⟩
section
variable {X : Cx} {pins : List (Addr × Obj)} {σ : St} {H : Hp} {s s' : Shared}
theorem Inv.env0 (I : Inv X pins σ H s) : Env0 X.prog X.w X.K X.mg X.base X.A X.stack s H :=
 ⟨I.ok.frames, I.ok.mod, I.bs, Nat.le_trans I.ok.bsz I.sz, I.stack, I.stkFree, I.hok, I.bare⟩
theorem Inv.after  (I : Inv X pins σ H s) (h : CE X.stack X.prog X.w H s Q u s') : EP X pins σ Q u s' := by
 obtain ⟨v, H', os, bare, un, hok, r, q⟩ := h
 obtain ⟨hh, g, d, t, os'⟩ := s'
 obtain rfl : os' = s.os := os
 exact ⟨v, H', I.call (h' := hh) (g' := g) (d' := d) (t' := t) (ch := []) un hok bare (fun b z => absurd z (by simp)), r, q⟩
end
def tCall (sp : Sp) (dvs : List V) (E : XK) (t : TA) : TE := fun σ H Q => t σ H fun vs H1 => sp (vs ++ dvs) H1 Q E
def Binds (K : PySem.W.Frag) (fd : FuncData) (ps : List Str) (ds : List Value) : Prop :=
 ∀ (s : Shared) (us : List Value), K.In s.heap -> (us ++ ds).length = ps.length -> BindsTo s fd ⟨us, []⟩ (ps.zip (us ++ ds))
theorem Binds.all {K : PySem.W.Frag} {fd : FuncData} {ps : List Str} (h : ∀ us : List Value, us.length = ps.length -> bindArgs fd ⟨us, []⟩ = pure (ps.zip us)) : Binds K fd ps [] := fun s us _ hl => by
 rw [List.append_nil] at hl ⊢
 exact .of_eq (h us hl)
def Passes (CX : CXT) (X : Cx) (E : XK) : Prop := ∀ (pins : List (Addr × Obj)) (σ : St) (H : Hp) (s : Shared) (e : Value) (s' : Shared), Inv X pins σ H s -> CX X.stack H s E e s' -> X.xe e s'
section
variable {X : Cx} {CX : CXT} {k : Nat} {f C : Addr} {fd : FuncData} {ps : List Str} {sp : Sp} {dvs : List V} {ds : List Value} {E : XK} {x m : Str} {p pos apos : Pos} {e o : Expr} {es : List Expr} {ta : TE} {t : TA}
theorem run_fn {pins : List (Addr × Obj)} {σ : St} {H : Hp} {s : Shared} {Q : VK} {us : List Value} {vs : List V} (F : FnOk X.prog X.w X.K X.mg X.base CX k f fd ps sp) (hr : Room k X.A) (hb : Binds X.K fd ps ds) (hd : Vals dvs ds) (hx : Passes CX X E)
  (I : Inv X pins σ H s) (r : Vals vs us) (h : sp (vs ++ dvs) H Q E) : wpAny (model X.prog X.w) X.A (call (.ref f) us) (EP X pins σ Q) X.xe s := by
 have r2 : Vals (vs ++ dvs) (us ++ ds) := r.append hd
 have hl : (us ++ ds).length = ps.length := by rw [<- r2.length]; exact F.len _ _ _ _ h
 refine wpAny_call (codeAny_mono (F.run X.A X.stack s H ⟨us, []⟩ (us ++ ds) (vs ++ dvs) Q E hr I.env0 (hb s us I.kIn hl) r2 h) fun r s' hq => ?_)
 cases r with
 | error e => exact hx pins σ H s e s' I hq
 | ok fl =>
  cases fl with
  | ret u => exact I.after hq
  | next => exact False.elim hq
  | brk => exact False.elim hq
  | cont => exact False.elim hq
theorem pe_call (F : FnOk X.prog X.w X.K X.mg X.base CX k f fd ps sp) (hr : Room k X.A) (hg : Gl X x) (hm : X.mg x = some (.ref f)) (hk : PySem.W.keepIn X.K (.ref f) = true) (hb : Binds X.K fd ps ds) (hd : Vals dvs ds) (hx : Passes CX X E)
  (ha : PA X (e :: es) t) (hdb : (x == ("__debug__" : Str)) = false := by decide) (he : starEach (e :: es) X.env = (false, eval e X.env) :: starEach es X.env := by rfl) (hpl : (backTo pos (starEach es X.env)).any (·.1) = false := by rfl) :
  PE X (.Call (.Name x p) (e :: es) [] pos) (tCall sp dvs E t) := by
 intro pins s σ H Q I h
 refine wpAny_Call_Name_kw (ld_glob I hg hm ?_ hdb)
 refine PySem.W.callWith_K (h₀ := X.base) I.ok.mod.kin hk (thn (ha pos pins s σ H _ I h) fun us s1 ⟨vs, H1, I1, r, q⟩ => ⟨I1.kIn, ?_⟩) he hpl
 exact run_fn F hr hb hd hx I1 r q
end
section
variable {X : Cx} {CX : CXT} {k : Nat} {f C : Addr} {fd : FuncData} {ps ks : List Str} {sp : Sp} {E : XK} {x m : Str} {p pos apos kpos : Pos} {e o : Expr} {es : List Expr} {kws : List Keyword} {te ta : TE} {t tk : TA} {nm : Option Str}
variable {g : List Value -> List Value -> List Value} {gV : List V -> List V -> List V}
end
structure FnScope (N P : List Str) (sc : Scope) : Prop where
 kind : sc.kind = .function
 co : sc.isCoroutine = false
 gen : sc.isGenerator = false
 nd : N.Nodup
 pre : N.take P.length = P
 par : ∀ x ∈ P, sc.names.lookup x = some .local \/ sc.names.lookup x = some .cell
 nofree : ∀ y ∈ sc.names, y.2 ≠ .free
theorem bindL_out {kindOf : Str -> Option NameKind} {x : Str} : ∀ {binds : List (Str × Value)} {m : Str -> Option Value}, (∀ v, (x, v) ∉ binds) -> bindL kindOf binds m x = m x
 | [], _, _ => rfl
 | (n, v) :: r, m, h => by
  unfold bindL
  rw [bindL_out fun w hw => h w (List.mem_cons_of_mem _ hw)]
  split
  ·have : x ≠ n := by rintro rfl; exact h v List.mem_cons_self
   simp [this]
  ·rfl
theorem bindC_out {kindOf : Str -> Option NameKind} {x : Str} : ∀ {binds : List (Str × Value)} {m : Str -> Option Value}, (∀ v, (x, v) ∉ binds) -> bindC kindOf binds m x = m x
 | [], _, _ => rfl
 | (n, v) :: r, m, h => by
  unfold bindC
  rw [bindC_out fun w hw => h w (List.mem_cons_of_mem _ hw)]
  split
  ·rfl
  ·have : x ≠ n := by rintro rfl; exact h v List.mem_cons_self
   simp [this]
theorem bindL_get {kindOf : Str -> Option NameKind} {x : Str} {v : Value} : ∀ {P : List Str} {vs : List Value} {i : Nat} {m : Str -> Option Value}, P.Nodup -> P[i]? = some x -> vs[i]? = some v -> kindOf x = some .local ->
  bindL kindOf (P.zip vs) m x = some v
 | [], _, _, _, _, h, _, _ => by simp at h
 | _ :: _, [], _, _, _, _, h, _ => by simp at h
 | p :: P, w :: vs, 0, m, nd, h1, h2, hk => by
  simp at h1 h2; subst h1; subst h2
  show bindL kindOf ((p, w) :: P.zip vs) m p = _
  unfold bindL
  rw [bindL_out fun v hv => (List.nodup_cons.mp nd).1 (List.of_mem_zip hv).1, if_pos hk]
  simp
 | p :: P, w :: vs, i + 1, m, nd, h1, h2, hk => by
  show bindL kindOf ((p, w) :: P.zip vs) m x = _
  unfold bindL
  exact bindL_get (i := i) (List.nodup_cons.mp nd).2 (by simpa using h1) (by simpa using h2) hk
theorem bindC_get {kindOf : Str -> Option NameKind} {x : Str} {v : Value} : ∀ {P : List Str} {vs : List Value} {i : Nat} {m : Str -> Option Value}, P.Nodup -> P[i]? = some x -> vs[i]? = some v -> kindOf x ≠ some .local ->
  bindC kindOf (P.zip vs) m x = some v
 | [], _, _, _, _, h, _, _ => by simp at h
 | _ :: _, [], _, _, _, _, h, _ => by simp at h
 | p :: P, w :: vs, 0, m, nd, h1, h2, hk => by
  simp at h1 h2; subst h1; subst h2
  show bindC kindOf ((p, w) :: P.zip vs) m p = _
  unfold bindC
  rw [bindC_out fun v hv => (List.nodup_cons.mp nd).1 (List.of_mem_zip hv).1, if_neg hk]
  simp
 | p :: P, w :: vs, i + 1, m, nd, h1, h2, hk => by
  show bindC kindOf ((p, w) :: P.zip vs) m x = _
  unfold bindC
  exact bindC_get (i := i) (List.nodup_cons.mp nd).2 (by simpa using h1) (by simpa using h2) hk
def start (N : List Str) (vs : List V) : St := vs.map some ++ List.replicate (N.length - vs.length) none
def cxOf (CX : CXT) (P : Program) (w : World) (K : PySem.W.Frag) (mg : Str -> Option Value) (base : Heap) (N : List Str) (qual : Str) (scope : Scope) (f : Addr) (cd : Value) (A : Around) (outer : List Env) (s : Shared) (H : Hp) (E : XK) : Cx where
 prog := P
 w := w
 K := K
 mg := mg
 base := base
 A := A.deeper (envOfC qual scope s.heap.objs.size f cd)
 N := N
 s₀ := s
 H₀ := H
 env := envOfC qual scope s.heap.objs.size f cd
 outer := outer
 stack := envOfC qual scope s.heap.objs.size f cd :: outer
 ex := []
 calm := true
 fn := fun _ => true
 pn := []
 xe := fun e s' => wpAny (model P w) (A.deeper (envOfC qual scope s.heap.objs.size f cd)) (leaving (envOfC qual scope s.heap.objs.size f cd) e) (fun _ s'' => CX outer H s E e s'') (fun e' s'' => CX outer H s E e' s'') s'
theorem cell_has {sc : Scope} {n : Nat} {x : Str} (h : sc.names.lookup x = some .cell) : ∃ c, (cellsFrom n sc.names []).lookup x = some c := by
 have q := PySem.W.cellsFrom_some sc.names n [] (.inl h)
 exact Option.isSome_iff_exists.mp q
theorem inv_start {CX : CXT} {P : Program} {w : World} {K : PySem.W.Frag} {mg : Str -> Option Value} {base : Heap} {N ps : List Str} {qual : Str} {scope : Scope} {f : Addr} {cd : Value} {A : Around} {outer : List Env} {s s1 : Shared} {H : Hp} {E : XK} {us : List Value} {vs : List V}
  (S : FnScope N ps scope) (hd : A.handled = none) (e0 : Env0 P w K mg base A outer s H) (hl : vs.length = ps.length) (r : Vals vs us)
  (x : InCallC s s.heap.objs.size (bindL (envOfC qual scope s.heap.objs.size f cd).kindOf (ps.zip us) fun _ => none) (cellsFrom (s.heap.objs.size + 1) scope.names []) (bindC (envOfC qual scope s.heap.objs.size f cd).kindOf (ps.zip us) fun _ => none) s1) :
  Inv (cxOf CX P w K mg base N qual scope f cd A outer s H E) [] (start N vs) H s1 := by
 have hpl : ps.length <= N.length := by have := congrArg List.length S.pre; rw [List.length_take] at this; omega
 obtain ⟨h1, tk, rfl, hk⟩ := x.done
 have noA : ∀ b : Addr, b ∉ (cxOf CX P w K mg base N qual scope f cd A outer s H E).ex := fun b z => absurd (show b ∈ ([] : List Addr) from z) (by simp)
 refine ⟨⟨e0.mod, S.kind, rfl, rfl, Nat.le_refl _, fun y z c h1 h2 => ?_, fun y hy => ?_, fun y c _ h => ?_, fun _ => hd, Around.frames_deeper e0.frames, .inr ⟨rfl, rfl⟩, fun b z => absurd z (noA b), e0.bs, e0.bsz, fun b _ _ => noA b, fun b z => absurd z (noA b), e0.funs, e0.frf⟩,
  rfl, e0.bare, Un.kept hk, ⟨_, x.toInCall.ns, fun i y v h1 h2 h3 => ?_⟩, fun y c h => ⟨_, x.cell y c h⟩, e0.hok.fresh (Nat.le_refl _), fun y c h => ?_, fun p hp => absurd (show p ∈ ([] : List (Addr × Obj)) from hp) (by simp), e0.hok.kept hk, ?_⟩
 ·exact name_of_addr x.apart (PySem.mem_of_lookup h1) (PySem.mem_of_lookup h2)
 ·have hy : scope.names.lookup y = some .cell \/ scope.names.lookup y = some .free := hy
  rcases hy with hy | hy
  ·exact cell_has hy
  ·exact absurd rfl (S.nofree _ (PySem.mem_of_lookup hy))
 ·exact Nat.le_of_lt (x.above y c (PySem.mem_of_lookup h))
 ·have hi : i < vs.length := by
   unfold start at h2
   by_cases hi : i < vs.length
   ·exact hi
   ·rw [List.getElem?_append_right (by simpa using hi)] at h2
    rw [List.getElem?_replicate] at h2
    split at h2 <;> cases h2
  have ha : vs[i]? = some v := by
   unfold start at h2
   rw [List.getElem?_append_left (by simpa using hi), List.getElem?_map] at h2
   cases e : vs[i]? with
   | none => rw [e] at h2; cases h2
   | some a => rw [e] at h2; cases h2; rfl
  obtain ⟨u, hu, rv⟩ := r.get ha
  have hp : ps[i]? = some y := by
   rw [<- S.pre, List.getElem?_take_of_lt (by omega)]; exact h1
  have ndP : ps.Nodup := by rw [<- S.pre]; exact S.nd.sublist (List.take_sublist _ _)
  refine ⟨u, rv, ?_⟩
  rcases S.par y (List.mem_of_getElem? hp) with k | k
  ·exact .inl ⟨k, bindL_get ndP hp hu k⟩
  ·obtain ⟨c, e⟩ := cell_has (n := s.heap.objs.size + 1) k
   refine .inr ⟨.inl k, c, e, ?_⟩
   have q := x.cell y c e
   rw [bindC_get ndP hp hu (by show scope.names.lookup y ≠ _; rw [k]; decide)] at q
   exact q
 ·exact e0.hok.fresh (Nat.le_of_lt (x.above y c (PySem.mem_of_lookup h)))
 ·unfold start
  show _ = N.length
  rw [List.length_append, List.length_map, List.length_replicate]
  omega
theorem fn_of {CX : CXT} {P : Program} {w : World} {K : PySem.W.Frag} {mg : Str -> Option Value} {base : Heap} {k : Nat} {f : Addr} {name qual : Str} {params : Arguments} {body : List Stmt} {scope : Scope} {dV kV doc pm cdv ct oc : Value} {an od : Option Addr}
  {osl : Array (Option Value)} {N ps : List Str} {sp : Sp} (lk : K.lookup f = some ⟨oc, od, .func (PySem.W.fnOf name qual params body scope dV kV doc pm an cdv ct), osl⟩) (hcd : PySem.W.codeIn K cdv qual = true) (S : FnScope N ps scope)
  (len : ∀ vs H Q E, sp vs H Q E -> vs.length = ps.length)
  (hbody : ∀ (A : Around) (outer : List Env) (s : Shared) (H : Hp) (vs : List V) (Q : VK) (E : XK), Room k (A.deeper (envOfC qual scope s.heap.objs.size f cdv)) -> sp vs H Q E ->
   ∃ t, PSs (cxOf CX P w K mg base N qual scope f cdv A outer s H E) body t /\ t { nx := fun _ H' => Q .non H', rt := Q } (start N vs) H) :
  FnOk P w K mg base CX (k + 1) f (PySem.W.fnOf name qual params body scope dV kV doc pm an cdv ct) ps sp := by
 refine ⟨len, fun A outer s H args us vs Q E hr e0 hb r hsp => ?_⟩
 have hl := len _ _ _ _ hsp
 have KX : K.In s.heap := e0.mod.kin.keeps fun b o e => (e0.bs b o e).1
 have lim : s.heap.NoLimit := e0.mod.nolimit.keeps fun b o e => (e0.bs b o e).1
 have hkind : ∀ y ∈ ps.zip us, scope.names.lookup y.1 = some .local \/ (scope.names.lookup y.1 = some .cell /\ ((cellsFrom (s.heap.objs.size + 1) scope.names []).lookup y.1).isSome = true) := fun ⟨n, v⟩ hy => by
  rcases S.par n (List.of_mem_zip hy).1 with q | q
  ·exact .inl q
  ·exact .inr ⟨q, PySem.W.cellsFrom_some _ _ _ (.inl q)⟩
 refine codeAny_call_function hr.depth (KX _ _ lk) rfl S.co S.gen rfl (PySem.W.codeRec_of KX hcd) (hb _ _ _ _ ?_)
 refine wpAny_newFunctionEnv_cells S.kind hkind fun env he s1 x => ?_
 subst he
 refine ⟨lim.keeps x.toInCall.keep, codeAny_func ?_⟩
 obtain ⟨t, ht, hq⟩ := hbody A outer s H vs Q E (hr.deeper _) hsp
 have I : Inv (cxOf CX P w K mg base N qual scope f cdv A outer s H E) [] (start N vs) H s1 := inv_start S hr.hd e0 hl r x
 refine wpAny_mono (ht [] s1 (start N vs) H _ I hq) (fun fl s' hs => ?_) fun e s' hs => hs
 have fin : ∀ {σ' : St} {H' : Hp} {v : V} {u : Value}, Inv (cxOf CX P w K mg base N qual scope f cdv A outer s H E) [] σ' H' s' -> RelV v u -> Q v H' -> CE outer P w H s Q u s' :=
  fun {σ' H' v u} J rv q => ⟨v, H', J.os, J.bare, J.base, J.hok, rv, q⟩
 cases fl with
 | ret u =>
  obtain ⟨v, σ', H', J, rv, q⟩ := hs
  exact fin J rv q
 | next =>
  obtain ⟨σ', H', J, q⟩ := hs
  exact fin (v := V.non) (u := Value.none) J rfl q
 | brk =>
  obtain ⟨_, _, _, q⟩ := hs
  exact False.elim q
 | cont =>
  obtain ⟨_, _, _, q⟩ := hs
  exact False.elim q
section
variable {X : Cx} {x : Str} {p pos : Pos} {e : Expr} {es : List Expr} {t : TA} {id T : String} {r : List V -> Hp -> VK -> Prop}
def tCB (r : List V -> Hp -> VK -> Prop) (t : TA) : TE := fun σ H Q => t σ H fun vs H1 => r vs H1 Q
theorem pe_callB (hc : CallR X (.builtin id) r) (hg : Gl X x) (hm : X.mg x = none) (hv : bootBuiltins x = some (.builtin id)) (ha : PA X (e :: es) t) (hn : x ≠ "__name__" := by decide) (hdb : (x == ("__debug__" : Str)) = false := by decide)
  (he : starEach (e :: es) X.env = (false, eval e X.env) :: starEach es X.env := by rfl) (hpl : (backTo pos (starEach es X.env)).any (·.1) = false := by rfl) : PE X (.Call (.Name x p) (e :: es) [] pos) (tCB r t) := by
 intro pins s σ H Q I h
 refine wpAny_Call_Name_kw (ld_blt I hg hm hv ?_ hn hdb)
 exact PyProof.Rows.callWith_builtin1 (thn (ha pos pins s σ H _ I h) fun us s1 ⟨vs, H1, I1, r1, q1⟩ => hc pins s1 σ H1 vs us Q I1 r1 q1) he hpl
theorem pe_callTy (hc : CallR X (.type T) r) (hg : Gl X x) (hm : X.mg x = none) (hv : bootBuiltins x = some (.type T)) (ha : PA X (e :: es) t) (hn : x ≠ "__name__" := by decide) (hdb : (x == ("__debug__" : Str)) = false := by decide)
  (he : starEach (e :: es) X.env = (false, eval e X.env) :: starEach es X.env := by rfl) (hpl : (backTo pos (starEach es X.env)).any (·.1) = false := by rfl) : PE X (.Call (.Name x p) (e :: es) [] pos) (tCB r t) := by
 intro pins s σ H Q I h
 refine wpAny_Call_Name_kw (ld_blt I hg hm hv ?_ hn hdb)
 exact PyProof.Rows.callWith_type1 (thn (ha pos pins s σ H _ I h) fun us s1 ⟨vs, H1, I1, r1, q1⟩ => hc pins s1 σ H1 vs us Q I1 r1 q1) he hpl
end
end L2
namespace HT
open PySem PyProof.Rows
section
open PySem.SeqAt
open PySem.AutoSeq1 (wpAny_loadPart')
open PySem.MeetsSeq PySem.MeetsSeq2 PySem.MeetsSeq3
end
section
variable {prog : Program} {w : World} {A : Around} {E : Value -> Shared -> Prop} {s : Shared}
theorem cat_tup  (ht : IsTup s.heap t vs.toArray) (hb : IsTup s.heap b ws.toArray) (hv : vs ≠ [])
  (h1 : ws = [] -> Q (.ref t) s) (h2 : ws ≠ [] -> Q (.ref s.heap.objs.size) { s with heap := s.heap.push { cls := .type "tuple", data := .seq (vs ++ ws).toArray } })
  (hsz : vs.length + ws.length <= sizeLine) : wpAny (model prog w) A (binaryOp .Add (.ref t) (.ref b)) Q E s := by
 obtain ⟨⟨cls, dd, data, sl⟩, ho, hc, n, hd⟩ := id ht
 obtain ⟨⟨cls2, dd2, data2, sl2⟩, ho2, hc2, n2, hd2⟩ := id hb
 simp only at hc hd hc2 hd2
 subst hc hd hc2 hd2
 have e : vs.toArray ++ ws.toArray = (vs ++ ws).toArray := by simp
 by_cases hw : ws = []
 ·exact concat_meets ⟨_, ho, rfl⟩ ⟨_, ho2, rfl⟩ noFill_tuple_add seq_tuple_add PySem.F.slot_tuple_add PySem.F.entry_tuple_add (PySem.F.args_tuple_add_2 _ _)
   (tuple_addW1 t b vs.toArray ws.toArray n n2 dd dd2 sl sl2 (by simpa using hv) (by simp [hw])) ⟨ho, ho2, h1 hw⟩
 ·refine concat_meets ⟨_, ho, rfl⟩ ⟨_, ho2, rfl⟩ noFill_tuple_add seq_tuple_add PySem.F.slot_tuple_add PySem.F.entry_tuple_add (PySem.F.args_tuple_add_2 _ _)
   (tuple_addW2 t b vs.toArray ws.toArray n n2 dd dd2 sl sl2 (by simpa using hv) (by simpa using hw) (by rw [List.size_toArray, List.size_toArray]; exact hsz)) ⟨ho, ho2, ?_⟩
  rw [e]
  exact h2 hw
def sIx (n d : Nat) : Option Int -> Nat
 | none => d
 | some v => if v < 0 then (v + (n : Int)).toNat else min v.toNat n
theorem sIx_none (n d : Nat) : sIx n d none = d := rfl
theorem sIx_nat (n d k : Nat) : sIx n d (some (k : Int)) = min k n := by
 show (if (k : Int) < 0 then ((k : Int) + (n : Int)).toNat else min (k : Int).toNat n) = min k n
 rw [if_neg (by omega), Int.toNat_natCast]
theorem sIx_le (n d : Nat) (hd : d <= n) (o : Option Int) : sIx n d o <= n := by
 cases o with
 | none => exact hd
 | some v =>
  show (if v < 0 then (v + (n : Int)).toNat else min v.toNat n) <= n
  by_cases hv : v < 0
  ·rw [if_pos hv]; omega
  ·rw [if_neg hv]; exact Nat.min_le_right _ _
theorem clip_eq (v : Int) (n d : Nat) : (if v < 0 then max (v + (n : Int)) 0 else min v (n : Int)) = ((sIx n d (some v) : Nat) : Int) := by
 show (if v < 0 then max (v + (n : Int)) 0 else min v (n : Int)) = (((if v < 0 then (v + (n : Int)).toNat else min v.toNat n) : Nat) : Int)
 by_cases hv : v < 0
 ·simp only [if_pos hv]; omega
 ·simp only [if_neg hv]; omega
theorem adjust_gen (lo hi : Option Int) (n : Nat) : Builtin.Slice.sliceAdjust lo hi 1 (n : Int) = (((sIx n 0 lo : Nat) : Int), ((sIx n n hi : Nat) : Int)) := by
 have h1 : ¬ ((1 : Int) < 0) := by omega
 unfold Builtin.Slice.sliceAdjust
 simp only [h1, if_false]
 refine Prod.ext ?_ ?_
 ·cases lo with
  | none => rfl
  | some v => exact clip_eq v n 0
 ·cases hi with
  | none => rfl
  | some v => exact clip_eq v n n
theorem places_gen (i j : Nat) : Builtin.Slice.slicePlaces (i : Int) (j : Int) 1 = j - i := by
 unfold Builtin.Slice.slicePlaces
 have h1 : (1 : Int) > 0 := by omega
 simp only [h1, if_true, Int.ediv_one]
 split <;> omega
theorem slicePart_ {v : Value} {o : Option Int} {Q : Option Int -> Shared -> Prop} (p : IsPart v o) (h : Q o s) : wpAny (model prog w) A (Builtin.Slice.slicePartIndex v) Q E s := by
 cases p with
 | none => exact slicePart_none h
 | int i t => exact slicePart_int h
theorem sliceApplied_gen {sl : Addr} {vl vu : Value} {lo hi : Option Int} {n : Nat} {Q : Int × Int × Nat -> Shared -> Prop} (hs : s.heap.IsSliceOf sl vl vu .none) (pl : IsPart vl lo) (pu : IsPart vu hi)
  (h : Q (((sIx n 0 lo : Nat) : Int), 1, sIx n n hi - sIx n 0 lo) s) : wpAny (model prog w) A (Builtin.Slice.sliceApplied (.ref sl) (pure (n : Int))) Q E s := by
 obtain ⟨os, hos, hcs, hds⟩ := id hs
 unfold Builtin.Slice.sliceApplied Builtin.Slice.sliceFields
 refine wpAny_bind (wpAny_bind (wpAny_field hos hds (x := vl) rfl (wpAny_bind (wpAny_field hos hds (x := vu) rfl (wpAny_bind (wpAny_field hos hds (x := .none) rfl (wpAny_pure ?_)))))))
 refine wpAny_bind (slicePart_none ?_)
 show wpAny _ _ (if ((1 : Int) == 0) = true then _ else _) _ _ s
 rw [if_neg (by decide)]
 refine wpAny_bind (slicePart_ pl (wpAny_bind (slicePart_ pu (wpAny_bind (wpAny_pure ?_)))))
 show wpAny _ _ (match Builtin.Slice.sliceAdjust lo hi 1 (n : Int) with | (lo, hi) => pure (lo, (1 : Int), Builtin.Slice.slicePlaces lo hi 1)) _ _ s
 rw [adjust_gen lo hi n]
 show wpAny _ _ (pure (((sIx n 0 lo : Nat) : Int), (1 : Int), Builtin.Slice.slicePlaces ((sIx n 0 lo : Nat) : Int) ((sIx n n hi : Nat) : Int) 1)) _ _ s
 rw [places_gen]
 exact wpAny_pure h
theorem pick_gen (xs : Array Value) (i k : Nat) : ((List.range k).filterMap fun (m : Nat) => xs[((i : Int) + (m : Int) * 1).toNat]?).toArray = ((xs.toList.drop i).take k).toArray := by
 have e : (fun (m : Nat) => xs[((i : Int) + (m : Int) * 1).toNat]?) = fun m => xs[i + m]? := by
  funext m
  have : ((i : Int) + (m : Int) * 1).toNat = i + m := by omega
  rw [this]
 rw [e]
 have := pick_run xs i k
 rw [List.filterMap_map] at this
 have e2 : ((fun x => xs[x]?) ∘ fun x => i + x) = fun m => xs[i + m]? := rfl
 rw [e2] at this
 rw [this]
theorem getItem_tuple_cut {t sl : Addr} {items : Array Value} {vl vu : Value} {lo hi : Option Int} {Q : Value -> Shared -> Prop} (ht : IsTup s.heap t items) (hs : s.heap.IsSliceOf sl vl vu .none) (pl : IsPart vl lo) (pu : IsPart vu hi)
  (hw : ¬ (sIx items.size 0 lo = 0 /\ sIx items.size items.size hi = items.size))
  (h : Q (.ref s.heap.objs.size) { s with heap := s.heap.push { cls := .type "tuple", data := .seq ((items.toList.drop (sIx items.size 0 lo)).take (sIx items.size items.size hi - sIx items.size 0 lo)).toArray } })
  (hsz : items.size <= sizeLine) : wpAny (model prog w) A (getItem (.ref t) (.ref sl)) Q E s := by
 have htake : sizeOk (.seq ((items.toList.drop (sIx items.size 0 lo)).take (sIx items.size items.size hi - sIx items.size 0 lo)).toArray) := by
  show ((items.toList.drop (sIx items.size 0 lo)).take (sIx items.size items.size hi - sIx items.size 0 lo)).toArray.size <= sizeLine
  rw [List.size_toArray, List.length_take, List.length_drop, Array.length_toList]
  omega
 have hj : sIx items.size items.size hi <= items.size := sIx_le _ _ (Nat.le_refl _) hi
 obtain ⟨os, hos, hcs, hds⟩ := id hs
 have hTs : s.TypeIs (.ref sl) "slice" := ⟨os, hos, hcs⟩
 unfold getItem
 try with_reducible refine wpAny_holding ?_
 first | refine wpAny_bind (wpAny_pure ?_) | skip
 refine wpAny_bind (wpAny_sequenceKey ht.typeIs (by decide) ?_)
 refine wpAny_bind (wpAny_callSpecial?_slot (name := Str.ofString "__getitem__") ht.typeIs PyProof.Rows.slot_tuple_getitem
  (wpAny_call_entry PyProof.Rows.slot_tuple_getitem ht.typeIs entry_tuple_getitem ?_ (args_tuple_getitem _ _)))
 show wpAny _ _ (Builtin.Tuple.tupleItemsOf (.ref t) >>= _) _ _ s
 refine wpAny_bind (tupleItemsOf_ ht ?_)
 refine wpAny_bind (wpAny_typeOf hTs ?_)
 rw [if_pos (by decide)]
 refine wpAny_bind (sliceApplied_gen hs pl pu ?_)
 have hno : ¬ ((((sIx items.size 0 lo : Nat) : Int) == 0 && (1 : Int) == 1 && (sIx items.size items.size hi - sIx items.size 0 lo) == items.size) = true) := by
  intro q
  rw [Bool.and_eq_true, Bool.and_eq_true] at q
  have q1 : ((sIx items.size 0 lo : Nat) : Int) = 0 := eq_of_beq q.1.1
  have q2 : sIx items.size items.size hi - sIx items.size 0 lo = items.size := eq_of_beq q.2
  exact hw ⟨by omega, by omega⟩
 show wpAny _ _ (if (((sIx items.size 0 lo : Nat) : Int) == 0 && (1 : Int) == 1 && (sIx items.size items.size hi - sIx items.size 0 lo) == items.size) = true then _ else _) _ _ s
 rw [if_neg hno, pick_gen]
 first
  | exact wpAny_bind (m := Builtin.Tuple.tupleExact _) (wpAny_newObj_type (wpAny_pure ⟨_, rfl, wpAny_pure h⟩) htake)
  | exact wpAny_bind (m := Builtin.Tuple.tupleExact _) (wpAny_newObj_type (wpAny_bind (wpAny_pure (wpAny_pure ⟨_, rfl, wpAny_pure h⟩))) htake)
  | exact wpAny_bind (wpAny_bind (m := Builtin.Tuple.tupleExact _) (wpAny_newObj_type (wpAny_pure (wpAny_pure ⟨_, rfl, wpAny_pure h⟩)) htake))
  | exact wpAny_bind (wpAny_bind (m := Builtin.Tuple.tupleExact _) (wpAny_newObj_type (wpAny_pure ⟨_, rfl, wpAny_pure h⟩) htake))
end
end HT
namespace L2
open PySem PySem.Spec PyProof.Rows
abbrev TO := St -> Hp -> (Option Int -> Hp -> Prop) -> Prop
def PO (X : Cx) (e : Option Expr) (t : TO) : Prop :=
 ∀ (pins : List (Addr × Obj)) (s : Shared) (σ : St) (H : Hp) (Q : Option Int -> Hp -> Prop), Inv X pins σ H s -> t σ H Q ->
  wpAny (model X.prog X.w) X.A (evalPart e X.env) (fun u s' => ∃ o H', Inv X pins σ H' s' /\ IsPart u o /\ Q o H') X.xe s
def tNoPart : TO := fun _ H Q => Q none H
def tPart (t : TE) : TO := fun σ H Q => t σ H fun x H1 => ∃ i, x = .int i /\ Q (some i) H1
section
variable {X : Cx} {e : Expr} {te : TE} {lo hi : Option Expr} {tl th : TO} {pos p2 : Pos}
theorem po_none : PO X none tNoPart := by
 intro pins s σ H Q I h
 rw [evalPart_none]
 exact wpAny_pure ⟨none, H, I, .none, h⟩
theorem po_some (h : PE X e te) : PO X (some e) (tPart te) := by
 intro pins s σ H Q I hw
 rw [evalPart_some]
 refine thn (h pins s σ H _ I hw) fun u s1 ⟨x, H1, I1, r1, q1⟩ => ?_
 obtain ⟨i, rfl, q⟩ := q1
 obtain ⟨t, rfl⟩ := r1
 exact ⟨some i, H1, I1, .int i t, q⟩
def SlR (X : Cx) (r : V -> Option Int -> Option Int -> Hp -> VK -> Prop) : Prop :=
 ∀ (pins : List (Addr × Obj)) (s : Shared) (σ : St) (H : Hp) (x : V) (v vl vu : Value) (lo hi : Option Int) (sl : Addr) (Q : VK), Inv X pins σ H s -> RelV x v -> s.heap.IsSliceOf sl vl vu .none -> IsPart vl lo -> IsPart vu hi -> r x lo hi H Q ->
  ∃ T id, typeLookup (.type T) "__getitem__" = pure (some (.builtin id)) /\ s.TypeIs v T /\ wpAny (model X.prog X.w) X.A (getItem v (.ref sl)) (EP X pins σ Q) X.xe s
theorem SlR.or {r r' : V -> Option Int -> Option Int -> Hp -> VK -> Prop} (h : SlR X r) (h' : SlR X r') : SlR X (fun x lo hi H Q => r x lo hi H Q \/ r' x lo hi H Q) := by
 intro pins s σ H x v vl vu lo hi sl Q I rx hs pl pu q
 rcases q with q | q
 ·exact h pins s σ H x v vl vu lo hi sl Q I rx hs pl pu q
 ·exact h' pins s σ H x v vl vu lo hi sl Q I rx hs pl pu q
def tSl (r : V -> Option Int -> Option Int -> Hp -> VK -> Prop) (te : TE) (tl th : TO) : TE := fun σ H Q => te σ H fun x H1 => tl σ H1 fun l H2 => th σ H2 fun u H3 => r x l u H3 Q
theorem pe_slice (hr : SlR X r) (he : PE X e te) (hl : PO X lo tl) (hu : PO X hi th) : PE X (.Subscript e (.Slice lo hi none p2) pos) (tSl r te tl th) := by
 intro pins s σ H Q I h
 refine Subscript_ (thn (he pins s σ H _ I h) fun v s1 ⟨x, H1, I1, r1, q1⟩ => ?_)
 refine wpAny_Slice (thn (hl pins s1 σ H1 _ I1 q1) fun vl s2 ⟨l, H2, I2, pl, q2⟩ => thn (hu pins s2 σ H2 _ I2 q2) fun vu s3 ⟨u, H3, I3, pu, q3⟩ => ?_)
 rw [evalPart_none]
 refine wpAny_pure ?_
 have I4 : Inv X pins σ H3 { s3 with heap := s3.heap.push { cls := .type "slice", data := .fields #[vl, vu, .none] } } := I3.kept (t' := s3.toks) fun b ob q => Heap.get?_push_of_some _ q
 obtain ⟨T, id, hT, ht, hg⟩ := hr pins { s3 with heap := s3.heap.push { cls := .type "slice", data := .fields #[vl, vu, .none] } } σ H3 x v vl vu l u s3.heap.objs.size Q I4 r1 (Heap.IsSliceOf.new ..) pl pu q3
 show wpAny (model X.prog X.w) X.A (subscriptTail e (.Slice lo hi none p2) v (.ref s3.heap.objs.size)) (EP X pins σ Q) X.xe { s3 with heap := s3.heap.push { cls := .type "slice", data := .fields #[vl, vu, .none] } }
 exact tail_any (ops := [.ref s3.heap.objs.size, v]) ht hT hg (by with_unfolding_all rfl)
def cutV (xs : List V) (lo hi : Option Int) : List V := (xs.drop (HT.sIx xs.length 0 lo)).take (HT.sIx xs.length xs.length hi - HT.sIx xs.length 0 lo)
theorem cutV_length (xs : List V) (lo hi : Option Int) : (cutV xs lo hi).length <= xs.length := by
 unfold cutV
 rw [List.length_take, List.length_drop]
 omega
def rSlT (K : PySem.W.Frag) : V -> Option Int -> Option Int -> Hp -> VK -> Prop := fun x lo hi H Q => ∃ a xs, x = .ref a /\ SqT K H a xs /\
 ¬ (HT.sIx xs.length 0 lo = 0 /\ HT.sIx xs.length xs.length hi = xs.length) /\ ∀ p, H p = none -> Q (.ref p) (upd H p (.tup (cutV xs lo hi)))
theorem sl_tup : SlR X (rSlT X.K) := by
 intro pins s σ H x v vl vu lo hi sl Q I rx hs pl pu h
 obtain ⟨a, xs, rfl, hx, hw, q⟩ := h
 cases rx
 obtain ⟨its, r, ht, hz⟩ := I.tuple hx
 have hlen : its.toArray.size = xs.length := by rw [List.size_toArray]; exact r.length.symm
 refine ⟨"tuple", _, PyProof.Rows.slot_tuple_getitem.lookup, ht.typeIs, ?_⟩
 refine HT.getItem_tuple_cut ht hs pl pu (by rw [hlen]; exact hw) ?_ (by rw [hlen]; exact hz)
 rw [hlen]
 refine ⟨.ref s.heap.objs.size, _, I.laid (t' := s.toks) (o := .tup (cutV xs lo hi)) (fun b ob q => Heap.get?_push_of_some _ q) (Nat.le_refl _) ?_, rfl, q _ (I.hok.fresh (Nat.le_refl _))⟩
 exact ⟨Nat.le_trans (cutV_length xs lo hi) hz, _, (r.drop (HT.sIx xs.length 0 lo)).take (HT.sIx xs.length xs.length hi - HT.sIx xs.length 0 lo), IsTup.new _ _⟩
def rCatT (K : PySem.W.Frag) : R2 := fun x y H Q => ∃ a b xs ys, x = .ref a /\ y = .ref b /\ SqT K H a xs /\ SqT K H b ys /\ xs ≠ [] /\ xs.length + ys.length <= sizeLine /\
 (ys = [] -> Q (.ref a) H) /\ (ys ≠ [] -> ∀ p, H p = none -> Q (.ref p) (upd H p (.tup (xs ++ ys))))
theorem Vals.nil_iff  (r : Vals xs us) : us = [] ↔ xs = [] := by
 cases r with
 | nil => simp
 | cons _ _ => simp
theorem op_catT : OpR X (binaryOp .Add) (rCatT X.K) := by
 intro pins s σ H x y v u Q I rx ry h
 obtain ⟨a, b, xs, ys, rfl, rfl, ha, hb, hx, hz, q1, q2⟩ := h
 cases rx
 cases ry
 obtain ⟨its, r1, p1, _⟩ := I.tuple ha
 obtain ⟨its2, r2, p2, _⟩ := I.tuple hb
 refine HT.cat_tup p1 p2 (fun z => hx (r1.nil_iff.mp z)) (fun z => ⟨.ref a, H, I, rfl, q1 (r2.nil_iff.mp z)⟩) (fun z => ?_) (by rw [<- r1.length, <- r2.length]; exact hz)
 refine ⟨.ref s.heap.objs.size, _, I.laid (t' := s.toks) (o := .tup (xs ++ ys)) (fun b ob q => Heap.get?_push_of_some _ q) (Nat.le_refl _) ?_, rfl, q2 (fun w => z (r2.nil_iff.mpr w)) _ (I.hok.fresh (Nat.le_refl _))⟩
 exact ⟨by rw [List.length_append]; exact hz, _, r1.append r2, IsTup.new _ _⟩
end
def ixN (n : Nat) (i : Int) : Option Nat := if 0 <= i then (if i < n then some i.toNat else none) else if -(n : Int) <= i then some (i + n).toNat else none
def atI {α : Type} (xs : List α) (i : Int) : Option α := (ixN xs.length i).bind fun j => xs[j]?
theorem ixN_seq  (h : ixN n i = some j) : seqIndex? i n = some j /\ j < n /\ -(n : Int) <= i /\ i < n := by
 unfold ixN at h
 by_cases h0 : 0 <= i
 ·rw [if_pos h0] at h
  by_cases h1 : i < n
  ·rw [if_pos h1] at h
   have e : i.toNat = j := Option.some.inj h
   exact ⟨by rw [seqIndex_of h0 h1, e], by omega, by omega, h1⟩
  ·rw [if_neg h1] at h; cases h
 ·rw [if_neg h0] at h
  by_cases h1 : -(n : Int) <= i
  ·rw [if_pos h1] at h
   have e : (i + n).toNat = j := Option.some.inj h
   exact ⟨by rw [seqIndex_neg (by omega) h1, e], by omega, h1, by omega⟩
  ·rw [if_neg h1] at h; cases h
theorem atI_get {α : Type} {xs : List α} {i : Int} {v : α} (h : atI xs i = some v) : ∃ j, seqIndex? i xs.length = some j /\ xs[j]? = some v /\ j < xs.length /\ -(xs.length : Int) <= i /\ i < xs.length := by
 unfold atI at h
 cases e : ixN xs.length i with
 | none => rw [e] at h; cases h
 | some j =>
  rw [e] at h
  obtain ⟨h1, h2, h3, h4⟩ := ixN_seq e
  exact ⟨j, h1, h, h2, h3, h4⟩
theorem atI_nat {α : Type} {xs : List α} {j : Nat} {v : α} (h : xs[j]? = some v) : atI xs (j : Int) = some v := by
 have hj : j < xs.length := (List.getElem?_eq_some_iff.mp h).1
 have e : ixN xs.length (j : Int) = some j := by
  unfold ixN
  rw [if_pos (by omega), if_pos (by omega)]; simp
 unfold atI; rw [e]; exact h
def PlainIx (b : Expr) : Prop := ∀ o i, subscripted b false o i = operate [o, i] (getItem o i)
def IxR (X : Cx) (r : R2) : Prop :=
 ∀ (value slice : Expr) (pins : List (Addr × Obj)) (s : Shared) (σ : St) (H : Hp) (x y : V) (v u : Value) (Q : VK), Inv X pins σ H s -> RelV x v -> RelV y u -> r x y H Q ->
  subscripted slice false v u = operate [v, u] (getItem v u) -> wpAny (model X.prog X.w) X.A (subscriptTail value slice v u) (EP X pins σ Q) X.xe s
def MtR (X : Cx) (id : String) (r : V -> List V -> Hp -> VK -> Prop) : Prop :=
 ∀ (pins : List (Addr × Obj)) (s : Shared) (σ : St) (H : Hp) (x : V) (xs : List V) (v : Value) (us : List Value) (Q : VK), Inv X pins σ H s -> RelV x v -> Vals xs us -> r x xs H Q ->
  wpAny (model X.prog X.w) X.A (call (.builtin id) (v :: us)) (EP X pins σ Q) X.xe s
section
variable {X : Cx} {a b : Expr} {ta tb : TE} {pos : Pos}
theorem IxR.or {r r' : R2} (h : IxR X r) (h' : IxR X r') : IxR X (fun x y H Q => r x y H Q \/ r' x y H Q) := by
 intro value slice pins s σ H x y v u Q I rx ry q hs
 rcases q with q | q
 ·exact h value slice pins s σ H x y v u Q I rx ry q hs
 ·exact h' value slice pins s σ H x y v u Q I rx ry q hs
theorem pe_ix (hr : IxR X r) (ha : PE X a ta) (hb : PE X b tb) (hs : PlainIx b) : PE X (.Subscript a b pos) (tOp r ta tb) := by
 intro pins s σ H Q I h
 exact Subscript_ (binT ha hb I h fun v u s2 x y H2 I2 rx ry q => hr a b pins s2 σ H2 x y v u Q I2 rx ry q (hs _ _))
def rIxL (K : PySem.W.Frag) : R2 := fun x y H Q => ∃ p xs i v, x = .ref p /\ y = .int i /\ SqL K H p xs /\ atI xs i = some v /\ Q v H
def rIxT (K : PySem.W.Frag) : R2 := fun x y H Q => ∃ p xs i v, x = .ref p /\ y = .int i /\ SqT K H p xs /\ atI xs i = some v /\ Q v H
def rIxS : R2 := fun x y H Q => ∃ z i c, x = .str z /\ y = .int i /\ z.length <= sizeLine /\ atI z.cps.toList i = some c /\ Q (.str ⟨#[c]⟩) H
theorem ix_list : IxR X (rIxL X.K) := by
 intro value slice pins s σ H x y v u Q I rx ry h hs
 obtain ⟨p, xs, i, z, rfl, rfl, hq, he, q⟩ := h
 cases rx
 obtain ⟨t, rfl⟩ := ry
 obtain ⟨its, r, pl, hz⟩ := I.list hq
 obtain ⟨j, h1, h2, h3, h4, h5⟩ := atI_get he
 obtain ⟨w, ew, rw'⟩ := r.get h2
 have hl := r.length
 have hn := line63
 have fin : EP X pins σ Q w s := ⟨z, H, I, rw', q⟩
 by_cases h0 : 0 <= i
 ·have hj : i.toNat = j := by
   rw [seqIndex_of h0 h5] at h1
   exact Option.some.inj h1
  exact item_listR pl.isList h0 (by omega) (by rw [hj]; simpa using ew) fin hs
 ·have hj : (i + (its.toArray.size : Int)).toNat = j := by
   rw [seqIndex_neg (by omega) h4] at h1
   rw [List.size_toArray, <- hl]
   exact Option.some.inj h1
  exact subscriptTail_builtinR (x := w) pl.isList.typeIs slot_list_getitem.lookup
   (wpAny_getItem_list_neg (Q := fun r s' => r = w /\ EP X pins σ Q r s') pl.isList (by omega) (by rw [List.size_toArray] <;> omega) (by omega) (by rw [hj]; simpa using ew) ⟨rfl, fin⟩) hs
theorem ix_tup : IxR X (rIxT X.K) := by
 intro value slice pins s σ H x y v u Q I rx ry h hs
 obtain ⟨p, xs, i, z, rfl, rfl, hq, he, q⟩ := h
 cases rx
 obtain ⟨t, rfl⟩ := ry
 obtain ⟨its, r, pl, hz⟩ := I.tuple hq
 obtain ⟨j, h1, h2, h3, h4, h5⟩ := atI_get he
 obtain ⟨w, ew, rw'⟩ := r.get h2
 have hl := r.length
 have hn := line63
 have fin : EP X pins σ Q w s := ⟨z, H, I, rw', q⟩
 exact subscriptTail_builtinR (x := w) pl.typeIs slot_tuple_getitem.lookup
  (getItem_tuple (j := j) (Q := fun r s' => r = w /\ EP X pins σ Q r s') pl (by omega) (by omega) (by rw [List.size_toArray, <- hl]; exact h1) (by simpa using ew) ⟨rfl, fin⟩) hs
theorem ix_str : IxR X rIxS := by
 intro value slice pins s σ H x y v u Q I rx ry h hs
 obtain ⟨z, i, c, rfl, rfl, hz, he, q⟩ := h
 obtain ⟨t, rfl⟩ := rx
 obtain ⟨t', rfl⟩ := ry
 obtain ⟨j, h1, h2, h3, h4, h5⟩ := atI_get he
 have hl : z.cps.toList.length = z.length := by simp [Str.length]
 rw [hl] at h1 h4 h5
 have hn := line63
 exact tail_any (typeIs_str s z t) slot_str_getitem.lookup (getItem_str (c := c) (by
  have e1 : decide (i < -(2 ^ 63 : Int)) = false := decide_eq_false (by omega)
  have e2 : decide (i ≥ 2 ^ 63) = false := decide_eq_false (by omega)
  rw [e1, e2, Bool.or_false]) (by rw [h1]; simpa using h2) ⟨.str ⟨#[c]⟩, H, I.tok _, ⟨_, rfl⟩, q⟩) hs
def rIx (K : PySem.W.Frag) : R2 := fun x y H Q => rIxL K x y H Q \/ rIxT K x y H Q \/ rIxS x y H Q
theorem ix_seq : IxR X (rIx X.K) := ix_list.or (ix_tup.or ix_str)
theorem mapSeq_set (its : List Value) (n j : Nat) (u : Value) : Obj.mapSeq (·.setIfInBounds j u) { cls := .type "list", data := .seq its.toArray n } = { cls := .type "list", data := .seq (its.set j u).toArray n } := by
 simp [Obj.mapSeq]
theorem Inv.lst {pins : List (Addr × Obj)} {σ : St} {H : Hp} {s : Shared} {p : Addr} {xs : List V} (I : Inv X pins σ H s) (h : H p = some (.lst xs)) :
  ∃ (its : List Value) (n : Nat), Vals xs its /\ s.heap.get? p = some { cls := .type "list", data := .seq its.toArray n } /\ xs.length <= sizeLine := by
 obtain ⟨z, its, n, r, e⟩ := I.hok p _ h
 exact ⟨its, n, r, e, z⟩
theorem Inv.lstUpd {pins : List (Addr × Obj)} {σ : St} {H : Hp} {s : Shared} {p : Addr} {xs ys : List V} {its its' : List Value} {n n' : Nat} {f : Obj -> Obj} (I : Inv X pins σ H s) (h : H p = some (.lst xs))
  (ho : s.heap.get? p = some { cls := .type "list", data := .seq its.toArray n }) (hf : f { cls := .type "list", data := .seq its.toArray n } = { cls := .type "list", data := .seq its'.toArray n' }) (r : Vals ys its') (hz : ys.length <= sizeLine) (t : Nat) :
  Inv X pins σ (upd H p (.lst ys)) { s with heap := s.heap.update p f, toks := t } := by
 have e : (s.heap.update p f).get? p = some { cls := .type "list", data := .seq its'.toArray n' } := by
  rw [Heap.get?_update_self f ho (by rw [hf] <;> rfl), hf]
 refine I.write (x := p) (e := p) (by rw [h]; trivial) (.inl rfl) (fun b u hb q => (Heap.get?_update_other _ _ (Ne.symm hb)).trans q) ⟨_, e⟩ ?_
 exact ⟨hz, its', n', r, e⟩
def rSetL : V -> V -> V -> Hp -> (Hp -> Prop) -> Prop := fun o i v H Q => ∃ p xs k j, o = .ref p /\ i = .int k /\ H p = some (.lst xs) /\ ixN xs.length k = some j /\ Q (upd H p (.lst (xs.set j v)))
theorem set_list : PSet X rSetL := by
 intro pins s σ H o i v ov iv u Q I ro ri rv h
 obtain ⟨p, xs, k, j, rfl, rfl, hp, hj, q⟩ := h
 cases ro
 obtain ⟨t, rfl⟩ := ri
 obtain ⟨its, n, r, ho, hz⟩ := I.lst hp
 obtain ⟨h1, h2, h3, h4⟩ := ixN_seq hj
 have hl := r.length
 have hn := line63
 have I' : Inv X pins σ (upd H p (.lst (xs.set j v))) { s with heap := s.heap.update p (Obj.mapSeq (·.setIfInBounds j u)) } :=
  I.lstUpd hp ho (mapSeq_set its n j u) (r.set rv j) (by rw [List.length_set]; exact hz) s.toks
 by_cases h0 : 0 <= k
 ·have hk : k.toNat = j := by
   rw [seqIndex_of h0 h4] at h1
   exact Option.some.inj h1
  exact PySem.W.ki_setAt ho h0 (by omega) (by rw [List.size_toArray, <- hl]; exact h4) (by rw [hk]; exact ⟨_, I', q⟩)
 ·have hk : (k + (its.toArray.size : Int)).toNat = j := by
   rw [seqIndex_neg (by omega) h3] at h1
   rw [List.size_toArray, <- hl]
   exact Option.some.inj h1
  exact PySem.W.ki_setBack ho (by omega) (by rw [List.size_toArray, <- hl]; exact h3) (by omega) (by rw [hk]; exact ⟨_, I', q⟩)
theorem slice_bounds (lo hi : Option Int) (n : Nat) : (sliceBounds lo hi none n).1 = ((HT.sIx n 0 lo : Nat) : Int) /\ (sliceBounds lo hi none n).2.1 = ((HT.sIx n n hi : Nat) : Int) /\ (sliceBounds lo hi none n).2.2 = 1 := by
 refine ⟨?_, ?_, rfl⟩
 ·cases lo with
  | none => simp [sliceBounds, HT.sIx]
  | some i =>
   simp only [sliceBounds, HT.sIx, Option.getD_none, show (1 : Int) > 0 by decide, if_true]
   by_cases h : i < 0
   ·simp only [h, if_true] <;> omega
   ·simp only [h, if_false] <;> omega
 ·cases hi with
  | none => simp [sliceBounds, HT.sIx]
  | some i =>
   simp only [sliceBounds, HT.sIx, Option.getD_none, show (1 : Int) > 0 by decide, if_true]
   by_cases h : i < 0
   ·simp only [h, if_true] <;> omega
   ·simp only [h, if_false] <;> omega
theorem slicePick_cut (its : List Value) (lo hi : Option Int) : slicePick its.toArray lo hi none = ((its.drop (HT.sIx its.length 0 lo)).take (HT.sIx its.length its.length hi - HT.sIx its.length 0 lo)).toArray := by
 obtain ⟨h1, h2, h3⟩ := slice_bounds lo hi its.toArray.size
 unfold slicePick
 rw [h1, h2, h3]
 simp only [sliceRange_one, pick_run, List.size_toArray] <;> rfl
def rSlL (K : PySem.W.Frag) : V -> Option Int -> Option Int -> Hp -> VK -> Prop := fun x lo hi H Q => ∃ a xs, x = .ref a /\ SqL K H a xs /\ ∀ p, H p = none -> Q (.ref p) (upd H p (.lst (cutV xs lo hi)))
theorem sl_list : SlR X (rSlL X.K) := by
 intro pins s σ H x v vl vu lo hi sl Q I rx hs pl pu h
 obtain ⟨a, xs, rfl, hx, q⟩ := h
 cases rx
 obtain ⟨its, r, ht, hz⟩ := I.list hx
 have hlen := r.length
 refine ⟨"list", _, slot_list_getitem.lookup, ht.isList.typeIs, ?_⟩
 refine wpAny_getItem_list_slice ht.isList hs pl pu .none (by simp) ?_ (by rw [List.size_toArray] <;> omega)
 rw [slicePick_cut, <- hlen]
 refine ⟨.ref s.heap.objs.size, _, I.laid (t' := s.toks) (o := .lst (cutV xs lo hi)) (fun b ob q => Heap.get?_push_of_some _ q) (Nat.le_refl _) ?_, rfl, q _ (I.hok.fresh (Nat.le_refl _))⟩
 exact ⟨Nat.le_trans (cutV_length xs lo hi) hz, _, 0, (r.drop (HT.sIx xs.length 0 lo)).take (HT.sIx xs.length xs.length hi - HT.sIx xs.length 0 lo), Heap.get?_push_size _ rfl⟩
theorem call_len_seq : CallR X (.builtin "len") (fun xs H Q => ∃ p ys, xs = [.ref p] /\ (SqL X.K H p ys \/ SqT X.K H p ys) /\ Q (.int ys.length) H) := by
 intro pins s σ H xs us Q I r h
 obtain ⟨p, ys, rfl, hq, q⟩ := h
 obtain ⟨u, rfl, rx⟩ := vals1 r
 cases rx
 have hn := line63
 rcases hq with hq | hq
 ·obtain ⟨its, r', pl, hz⟩ := I.list hq
  have hlen := r'.length
  exact Calls.call_len_list pl.isList (by simp only [List.size_toArray] <;> omega) ⟨.int ys.length, H, I.tok _, ⟨s.toks + 1, by rw [List.size_toArray, hlen]⟩, q⟩
 ·obtain ⟨its, r', pl, hz⟩ := I.tuple hq
  have hlen := r'.length
  exact len_tuple pl (by simp only [List.size_toArray] <;> omega) ⟨.int ys.length, H, I.tok _, ⟨s.toks + 1, by rw [List.size_toArray, hlen]⟩, q⟩
theorem call_len_str : CallR X (.builtin "len") (fun xs H Q => ∃ z, xs = [.str z] /\ z.length <= sizeLine /\ Q (.int z.length) H) := by
 intro pins s σ H xs us Q I r h
 obtain ⟨z, rfl, hz, q⟩ := h
 obtain ⟨u, rfl, t, rfl⟩ := vals1 r
 have hn := line63
 exact len_str (by omega) ⟨.int z.length, H, I.tok _, ⟨_, rfl⟩, q⟩
theorem CallR.or {f : Value} {r r' : List V -> Hp -> VK -> Prop} (h : CallR X f r) (h' : CallR X f r') : CallR X f (fun xs H Q => r xs H Q \/ r' xs H Q) := by
 intro pins s σ H xs us Q I rs q
 rcases q with q | q
 ·exact h pins s σ H xs us Q I rs q
 ·exact h' pins s σ H xs us Q I rs q
theorem call_list_of : CallR X (.type "list") (fun xs H Q => ∃ p ys, xs = [.ref p] /\ (SqL X.K H p ys \/ SqT X.K H p ys) /\ ∀ l, H l = none -> Q (.ref l) (upd H l (.lst ys))) := by
 intro pins s σ H xs us Q I r h
 obtain ⟨p, ys, rfl, hq, q⟩ := h
 obtain ⟨u, rfl, rx⟩ := vals1 r
 cases rx
 have fin : ∀ (its : List Value), Vals ys its -> ys.length <= sizeLine -> ∀ (h' : Heap) (c' : Nat), (∀ b o', s.heap.get? b = some o' -> h'.get? b = some o') ->
   h'.get? s.heap.objs.size = some { cls := .type "list", dict := none, data := .seq its.toArray c', slots := #[] } -> EP X pins σ Q (.ref s.heap.objs.size) { s with heap := h' } := fun its r' hz h' c' kp e =>
  ⟨.ref s.heap.objs.size, _, I.laid (t' := s.toks) kp (Nat.le_refl _) (show ObjOk X.prog X.w _ h' _ (.lst ys) from ⟨hz, its, c', r', e⟩), rfl, q _ (I.hok.fresh (Nat.le_refl _))⟩
 rcases hq with hq | hq
 ·obtain ⟨its, r', pl, hz⟩ := I.list hq
  have hlen := r'.length
  obtain ⟨o, ho, hc, n, hd⟩ := pl.isList
  exact call_list_seq p (.inl rfl) ho hc hd (fun h' c' kp e => fin its r' hz h' c' kp e) (by simp only [List.size_toArray] <;> omega)
 ·obtain ⟨its, r', pl, hz⟩ := I.tuple hq
  have hlen := r'.length
  obtain ⟨o, ho, hc, n, hd⟩ := pl
  exact call_list_seq p (.inr rfl) ho hc hd (fun h' c' kp e => fin its r' hz h' c' kp e) (by simp only [List.size_toArray] <;> omega)
theorem call_tuple_of : CallR X (.type "tuple") (fun xs H Q => ∃ p ys, xs = [.ref p] /\ ((SqL X.K H p ys /\ ∀ l, H l = none -> Q (.ref l) (upd H l (.tup ys))) \/ (SqT X.K H p ys /\ Q (.ref p) H))) := by
 intro pins s σ H xs us Q I r h
 obtain ⟨p, ys, rfl, h⟩ := h
 obtain ⟨u, rfl, rx⟩ := vals1 r
 cases rx
 rcases h with ⟨hq, q⟩ | ⟨hq, q⟩
 ·obtain ⟨its, r', pl, hz⟩ := I.list hq
  have hlen := r'.length
  refine call_tuple_list pl.isList (fun h' kp => ?_) (by simp only [List.size_toArray] <;> omega)
  have I1 : Inv X pins σ H { s with heap := h' } := I.kept (t' := s.toks) kp
  have I2 : Inv X pins σ (upd H h'.objs.size (.tup ys)) { s with heap := h'.push { cls := .type "tuple", data := .seq its.toArray } } :=
   I1.laid (t' := s.toks) (fun b o e => Heap.get?_push_of_some _ e) (Nat.le_refl _) (show ObjOk X.prog X.w _ _ _ (.tup ys) from ⟨hz, its, r', IsTup.new _ _⟩)
  exact ⟨.ref h'.objs.size, _, I2, rfl, q _ (I1.hok.fresh (Nat.le_refl _))⟩
 ·obtain ⟨its, r', pl, hz⟩ := I.tuple hq
  exact call_tuple_same pl ⟨.ref p, H, I, rfl, q⟩
def tyV (K : PySem.W.Frag) (T : String) (x : V) (H : Hp) : Prop := match x with
 | .str _ => T = "str"
 | .int _ => T = "int"
 | .ref p => (T = "list" /\ ∃ xs, SqL K H p xs) \/ (T = "tuple" /\ ∃ o, K.lookup p = some o /\ o.cls = .type "tuple" /\ o.dict = none) \/
   (T = "dict" /\ ((∃ kvs, H p = some (.dK kvs)) \/ ∃ kvs, H p = some (.dT kvs))) \/ (T = "set" /\ ∃ S n, H p = some (.set S n))
 | _ => False
theorem tyV_is    (I : Inv X pins σ H s) (r : RelV x v) (ty : tyV X.K T x H) :
  s.TypeIs v T /\ ∀ a, v = .ref a -> ∃ ob, s.heap.get? a = some ob /\ ob.dict = none := by
 cases x with
 | str z =>
  obtain ⟨t, rfl⟩ := r
  cases (show T = "str" from ty)
  exact ⟨typeIs_str s z t, fun _ e => nomatch e⟩
 | int i =>
  obtain ⟨t, rfl⟩ := r
  cases (show T = "int" from ty)
  exact ⟨typeIs_int s i t, fun _ e => nomatch e⟩
 | ref p =>
  cases r
  rcases ty with ⟨rfl, xs, hq⟩ | ⟨rfl, o, hk, hc, hd⟩ | ⟨rfl, hk⟩ | ⟨rfl, S, n, hk⟩
  ·obtain ⟨its, _, pl, _⟩ := I.list hq
   refine ⟨pl.isList.typeIs, fun a e => ?_⟩
   cases e
   obtain ⟨o, n, e, c, hd, _⟩ := pl
   exact ⟨o, e, hd⟩
  ·refine ⟨⟨o, I.kIn p o hk, hc⟩, fun a e => ?_⟩
   cases e
   exact ⟨o, I.kIn _ o hk, hd⟩
  ·have z : ∃ o, s.heap.get? p = some o /\ o.ExactDict := by
    rcases hk with ⟨kvs, hk⟩ | ⟨kvs, hk⟩
    ·obtain ⟨_, _, _, _, o, _, _, e, ex, _⟩ := I.hok p _ hk
     exact ⟨o, e, ex⟩
    ·obtain ⟨_, _, _, _, o, _, _, e, ex, _⟩ := I.hok p _ hk
     exact ⟨o, e, ex⟩
   obtain ⟨o, e, ex⟩ := z
   refine ⟨⟨o, e, ex.1⟩, fun a e2 => ?_⟩
   cases e2
   exact ⟨o, e, ex.2.1⟩
  ·obtain ⟨o, _, _, _, e, ex, _⟩ := I.hok p _ hk
   refine ⟨⟨o, e, ex.1⟩, fun a e2 => ?_⟩
   cases e2
   exact ⟨o, e, ex.2.1⟩
 | _ => exact False.elim ty
def tBM (K : PySem.W.Frag) (T : String) (r : V -> List V -> Hp -> VK -> Prop) (to : TE) (t : TA) : TE := fun σ H Q => to σ H fun x H1 => tyV K T x H1 /\ t σ H1 fun xs H2 => r x xs H2 Q
variable {o e : Expr} {es : List Expr} {to : TE} {t : TA} {name : Str} {apos cpos : Pos} {T id : String} {r : V -> List V -> Hp -> VK -> Prop}
theorem pe_bm (pa : PlainAttrs T) (slot : Slot T name id) (hty : typeOf (.builtin id) = pure (.type "method_descriptor")) (hm : MtR X id r) (ho : PE X o to) (ha : PA X (e :: es) t)
  (hbase : attributeBase o name X.env (eval o X.env) = eval o X.env := by rfl)
  (hfew : ((backTo cpos (starEach (e :: es) X.env)).all (fun x => !x.1) && (backToKw cpos (keywordEach [] X.env)).all (fun x => x.1.isSome)
   && decide ((e :: es).length + ([] : List Keyword).length + (if ([] : List Keyword).isEmpty then 0 else 1) < 30)) = true := by rfl)
  (hline : (apos.endLine == cpos.line) = true := by rfl) (hs : starEach (e :: es) X.env = (false, eval e X.env) :: starEach es X.env := by rfl) (hplain : (backTo cpos (starEach es X.env)).any (·.1) = false := by rfl) :
  PE X (.Call (.Attribute o name apos) (e :: es) [] cpos) (tBM X.K T r to t) := by
 intro pins s σ H Q I h
 refine wpAny_Call_method_late hbase hfew hline rfl (thn (ho pins s σ H _ I h) fun v s1 ⟨x, H1, I1, r1, ty, q1⟩ => ?_)
 obtain ⟨h1, h2⟩ := tyV_is I1 r1 ty
 refine ⟨T, id, pa, slot, hty, h1, h2, ?_⟩
 have hA := ha cpos pins s1 σ H1 _ I1 q1
 rw [hs] at hA ⊢
 refine Calls.callWith_builtin (by show (false || (backTo cpos (starEach es X.env)).any (·.1)) = false; rw [hplain] <;> rfl) (Calls.evalArgs_plain ?_)
 exact thn hA fun us s2 ⟨vs, H2, I2, r2, q2⟩ => hm pins s2 σ H2 x vs v us Q I2 r1 r2 q2
end
def MtM (X : Cx) (id : String) (r : V -> List V -> Hp -> VK -> Prop) : Prop :=
 ∀ (pins : List (Addr × Obj)) (s : Shared) (σ : St) (H : Hp) (x : V) (xs : List V) (v : Value) (us : List Value) (Q : VK), Inv X pins σ H s -> RelV x v -> Vals xs us -> r x xs H Q ->
  wpAny (model X.prog X.w) X.A (call (.builtin id) (v :: us)) (EP X pins σ Q) X.xe s
theorem Vals.one : ∀ {x : V} {us : List Value}, Vals [x] us -> ∃ u, us = [u] /\ RelV x u
 | _, _, .cons r .nil => ⟨_, rfl, r⟩
theorem Vals.rep  (h : Vals xs us) : ∀ k : Nat, Vals (List.replicate k xs).flatten (List.replicate k us).flatten
 | 0 => .nil
 | k + 1 => by
  rw [List.replicate_succ, List.replicate_succ, List.flatten_cons, List.flatten_cons]
  exact Vals.append h (Vals.rep h k)
theorem foldl_rep (its : List Value) : ∀ (k : Nat) (acc : List Value),
  List.foldl (fun x1 x2 => x1 ++ x2) acc.toArray (List.replicate k its.toArray) = (acc ++ (List.replicate k its).flatten).toArray
 | 0, acc => by simp
 | k + 1, acc => by
  have e : acc.toArray ++ its.toArray = (acc ++ its).toArray := by simp
  have e2 : (acc ++ its) ++ (List.replicate k its).flatten = acc ++ (List.replicate (k + 1) its).flatten := by
   rw [List.replicate_succ, List.flatten_cons, List.append_assoc]
  rw [<- e2, <- foldl_rep its k (acc ++ its), <- e, List.replicate_succ, List.foldl_cons]
section
variable {X : Cx} {pins : List (Addr × Obj)} {σ : St} {H : Hp} {s : Shared} {l b : Addr} {xs ys zs : List V}
theorem Inv.lset {its its' : List Value} {n : Nat} {f : Array Value -> Array Value} {t' : Nat} (I : Inv X pins σ H s) (hH : H l = some (.lst xs))
  (e : s.heap.get? l = some { cls := .type "list", data := .seq its.toArray n }) (hf : f its.toArray = its'.toArray) (hv : Vals ys its') (hz : ys.length <= sizeLine) :
  Inv X pins σ (upd H l (.lst ys)) { s with heap := s.heap.update l (Obj.mapSeq f), toks := t' } := by
 have q := PySem.IsL.update e f
 rw [hf] at q
 refine I.write (x := l) (e := l) (by rw [hH]; exact trivial) (.inl rfl) (fun b' u hb hu => (Heap.get?_update_other s.heap (Obj.mapSeq f) (Ne.symm hb)).trans hu) ⟨_, q⟩ ?_
 exact ⟨hz, its', _, hv, q⟩
theorem Inv.lnew  (I : Inv X pins σ H s) (hv : Vals ys its) (hz : ys.length <= sizeLine) :
  Inv X pins σ (upd H s.heap.objs.size (.lst ys)) { s with heap := s.heap.push { cls := .type "list", data := .seq its.toArray }, toks := t' } :=
 I.laid (fun _ _ q => Heap.get?_push_of_some _ q) (Nat.le_refl _) ⟨hz, its, 0, hv, Heap.get?_push_size _ rfl⟩
theorem Inv.fresh (I : Inv X pins σ H s) : H s.heap.objs.size = none := I.hok.fresh (Nat.le_refl _)
theorem Inv.lstM (I : Inv X pins σ H s) (hH : H l = some (.lst xs)) : xs.length <= sizeLine /\ ∃ (its : List Value) (n : Nat), Vals xs its /\ xs.length = its.length /\ s.heap.get? l = some { cls := .type "list", data := .seq its.toArray n } := by
 obtain ⟨z, its, n, r, e⟩ := I.hok l _ hH
 exact ⟨z, its, n, r, r.length, e⟩
theorem notLongL {n : Nat} (h : n <= sizeLine) : Builtin.List.listTooLong n = false := by
 unfold Builtin.List.listTooLong
 exact decide_eq_false (by omega)
end
section
variable {X : Cx}
def rAppend : V -> List V -> Hp -> VK -> Prop := fun x vs H Q => ∃ l xs y, x = .ref l /\ vs = [y] /\ H l = some (.lst xs) /\ xs.length < sizeLine /\ Q .non (upd H l (.lst (xs ++ [y])))
theorem mt_append : MtM X "list.append" rAppend := by
 intro pins s σ H x vs v us Q I rx rv h
 obtain ⟨l, xs, y, rfl, rfl, hH, hz, q⟩ := h
 cases rx
 obtain ⟨u, rfl, ru⟩ := rv.one
 obtain ⟨z, its, n, r, hl, e⟩ := I.lstM hH
 refine call_meets F.slot_list_append ⟨_, e, rfl⟩ F.entry_list_append (F.args_list_append_2 _ _) (PySem.list_append l its.toArray n u (by rw [List.size_toArray]; omega)) ⟨e, ?_⟩
 refine ⟨.non, _, I.lset (its' := its ++ [u]) hH e (by simp) (r.append (.cons ru .nil)) ?_, rfl, q⟩
 rw [List.length_append, List.length_singleton]
 omega
def rCat : R2 := fun x y H Q => ∃ l b xs zs, x = .ref l /\ y = .ref b /\ H l = some (.lst xs) /\ H b = some (.lst zs) /\ xs.length + zs.length <= sizeLine /\ ∀ p, H p = none -> Q (.ref p) (upd H p (.lst (xs ++ zs)))
theorem op_cat : OpR X (binaryOp .Add) rCat := by
 intro pins s σ H x y v u Q I rx ry h
 obtain ⟨l, b, xs, zs, rfl, rfl, hH, hB, hz, q⟩ := h
 cases rx
 cases ry
 obtain ⟨z, its, n, r, hl, e⟩ := I.lstM hH
 obtain ⟨z2, its2, n2, r2, hl2, e2⟩ := I.lstM hB
 refine PySem.P.add_list e e2 ?_ (by rw [List.size_toArray, List.size_toArray]; omega)
 have ea : its.toArray ++ its2.toArray = (its ++ its2).toArray := by simp
 rw [ea]
 exact ⟨.ref _, _, I.lnew (t' := s.toks) (r.append r2) (by rw [List.length_append]; omega), rfl, q _ I.fresh⟩
def rRep : R2 := fun x y H Q => ∃ l k xs, x = .ref l /\ y = .int k /\ H l = some (.lst xs) /\ -(2 ^ 63) <= k /\ k < 2 ^ 63 /\ xs.length * k.toNat <= sizeLine /\
 ∀ p, H p = none -> Q (.ref p) (upd H p (.lst (List.replicate k.toNat xs).flatten))
theorem len_rep {α : Type} (xs : List α) (k : Nat) : (List.replicate k xs).flatten.length = k * xs.length := by
 induction k with
 | zero => simp
 | succ k ih => rw [List.replicate_succ, List.flatten_cons, List.length_append, ih, Nat.succ_mul, Nat.add_comm]
theorem op_rep : OpR X (binaryOp .Mult) rRep := by
 intro pins s σ H x y v u Q I rx ry h
 obtain ⟨l, k, xs, rfl, rfl, hH, h1, h2, hz, q⟩ := h
 cases rx
 obtain ⟨t, rfl⟩ := ry
 obtain ⟨z, its, n, r, hl, e⟩ := I.lstM hH
 have hlen : its.toArray.size * k.toNat <= sizeLine := by rw [List.size_toArray, <- hl]; exact hz
 have hcap : ¬ its.toArray.size * k.toNat > (2 ^ 63 - 1) / 8 := by
  have : (sizeLine : Nat) <= (2 ^ 63 - 1) / 8 := by decide
  omega
 have hfit : ¬ (!Builtin.List.listFitsIndex k) = true := by
  rw [fitsIndex_both h1 h2]
  exact Bool.false_ne_true
 have hlong : ¬ Builtin.List.listTooLong (its.toArray.size * k.toNat) = true := by
  rw [notLongL hlen]
  exact Bool.false_ne_true
 have hnew : List.foldl (fun x1 x2 => x1 ++ x2) #[] (List.replicate (if its.toArray.isEmpty = true then 0 else k.toNat) its.toArray) = (List.replicate k.toNat its).flatten.toArray := by
  have f0 : ∀ m : Nat, List.foldl (fun x1 x2 => x1 ++ x2) #[] (List.replicate m its.toArray) = (List.replicate m its).flatten.toArray := fun m => by
   have := foldl_rep its m []
   rw [List.nil_append] at this
   exact this
  rw [f0]
  cases its with
  | nil => simp
  | cons a r' => rw [if_neg (by simp)]
 refine wpAny_binaryOp_repeat_ref (T := "list") (U := "int") (by decide) ⟨_, e, rfl⟩ (fun s' => typeIs_int s' k t) noFill_list_mul F.fills_int_mul F.slot_int_rmul repeat_list F.slot_int_index.lookup
  (call_meets F.slot_int_rmul (typeIs_int s k t) F.entry_int_rmul (F.args_int_rmul_2 _ _) (int___rmul___int_list k t l its.toArray n)
   ⟨e, rfl, ⟨_, e, rfl⟩, call_meets F.slot_list_mul ⟨_, e, rfl⟩ F.entry_list_mul (F.args_list_mul_2 _ _) (AutoListH.list___mul___list_int_3 l its.toArray n k t hfit hcap hlong) ⟨e, ?_⟩⟩)
 rw [hnew]
 exact ⟨.ref _, _, I.lnew (t' := s.toks) (r.rep k.toNat) (by rw [len_rep, Nat.mul_comm]; exact hz), rfl, q _ I.fresh⟩
end
section
variable {prog : Program} {w : World} {A : Around} {E : Value -> Shared -> Prop} {s : Shared}
end
section
variable {X : Cx}
end
end L2
namespace Att
open PySem PySem.W PySem.Calls PyProof.Rows
theorem ints_of_wellAll {P : Params} {h : Heap} : ∀ (ns : List Int) (vs : List Value), WellAll P h vs (ns.map WData.int) -> IntsAre vs ns := by
 intro ns
 induction ns with
 | nil =>
  intro vs w
  rw [List.map_nil] at w
  cases w
  exact .nil
 | cons n ns ih =>
  intro vs w
  rw [List.map_cons] at w
  cases w with
  | cons a b =>
   cases a
   exact .cons _ _ (ih _ b)
theorem script_of {l : OpenLaw} {n : Nat} (hn : l.most = some n) {P : Params} {h : Heap} {args : List WData} {vals : List Value}
  (hpre : l.row.toRowW.claim.pre args = true) (hwl : WellAll P h vals args) :
  ∃ a vs ns, vals = [Value.ref a] /\ args = [WData.list (ns.map WData.int)] /\ h.get? a = some { cls := .type "list", data := .seq vs.toArray } /\ IntsAre vs ns /\ ns.length <= n := by
 have hsh : WShape.hasAll [] args [.list .int] = true := (pre_splitW hpre).1
 have hc : l.pre.holds [] { args := args } = true := (pre_splitW hpre).2
 obtain ⟨d, r, rfl, h1, h2⟩ := hasAllW_cons hsh
 obtain rfl := hasAllW_nil h2
 obtain ⟨xs, rfl, h3⟩ := hasW_list h1
 obtain ⟨ns, rfl⟩ := items_int h3
 have hlen : ns.length <= n := by
  unfold OpenLaw.pre at hc
  have h4 : (WTm.not (.lt (.lit (.int (n : Int))) (.len (.arg 0)))).holds [] { args := [.list (ns.map .int)] } = true := by
   have h4 := (holds_andW hc).1
   rw [hn] at h4
   exact h4
  have h5 := condW_of h4 (w_not (w_lt w_lit (w_len_list (w_arg rfl))))
  rw [List.length_map] at h5
  refine Nat.le_of_not_lt fun q => ?_
  have q' : (n : Int) < ((ns.length : Nat) : Int) := by omega
  first
   | (rw [decide_eq_true q'] at h5; exact absurd h5 (by decide))
   | (simp at h5; omega)
 cases hwl with
 | cons w1 w2 =>
  cases w2
  cases w1 with
  | list ho hall => exact ⟨_, _, ns, rfl, rfl, ho, ints_of_wellAll ns _ hall, hlen⟩
theorem post_true (l : OpenLaw) (args : List WData) : l.row.toRowW.claim.post args (.bool true) args = true :=
 postW_of (r := l.row.toRowW) (X := (true == true))
  (show WShape.has [] (.bool true) .bool = true by first | rfl | decide | simp [WShape.has, WShape.arms, WShape.armsAll])
  (show (WTm.eq .res (.lit (.bool true))).value [] { args := args, res := some (.bool true), after := args } = some (.bool (true == true)) from w_eq_bool (w_res rfl) w_lit) rfl
theorem attach_call {l : OpenLaw} {n : Nat} {q : Program} {loose : List Str} {XP : (Str -> Option Value) -> Heap -> Prop} {YP : World -> Heap -> Prop} {d : DefRec}
  (hn : l.most = some n) (hdf : d.params.defaults = [])
  (call : ∀ (w : World) (s₀ s₁ : Shared) (mg mb : Str -> Option Value) (fa : Addr) (o : Obj) (pm cd doc : Value) (a : Addr) (vs : List Value) (ns : List Int),
   Ground q loose [] XP w s₀ mg mb s₁.heap -> YP w s₁.heap ->
   s₁.heap.get? fa = some o -> o.data = .func (docDef d.name d.params d.body d.scope pm cd doc) -> s₁.heap.CodeRec cd d.name -> mg d.name = some (.ref fa) ->
   s₁.heap.get? a = some { cls := .type "list", data := .seq vs.toArray } -> IntsAre vs ns -> ns.length <= n -> s₁.gens = #[] ->
   codeAny (model l.prog w) callerA (.call (.ref fa) ⟨[.ref a], []⟩) (fun r s' => r = .ok (.ret (.bool true)) /\ OldK s₁.heap s'.heap /\ s'.os = s₁.os /\ AllBare s'.gens) s₁) :
  WalkO q loose XP YP l.row.toRowW d [] (fun f vs => PySem.call f vs) := by
 intro w s₀ s₁ mg mb G Y fa o pm cd doc dV kV ho hd hcd hD hmg hg args vals as hpre hlay hrd hwl hlo
 obtain rfl : dV = .none := Dflts.none hD hdf
 obtain rfl : kV = .none := Dflts.noKw hD
 obtain ⟨a, vs, ns, rfl, rfl, hobj, hints, hlen⟩ := script_of hn hpre hwl
 refine enter_call (codeAny_mono (call w s₀ s₁ mg mb fa o pm cd doc a vs ns G Y ho (fd_plain hd) hcd hmg hobj hints hlen hg) fun r s' hq => ?_)
 obtain ⟨rfl, h2, h3, h4⟩ := hq
 exact ⟨.inl ⟨.bool true, .bool true, [], rfl, fun _ => rfl, .bool true, post_true l _, fun _ => ⟨List.Pairwise.nil, fun _ hm => (nomatch hm)⟩⟩, h2, h3, h4⟩
section
variable {prog : Program} {w : World} {A : Around} {E : Value -> Shared -> Prop} {s : Shared} {K : Frag}
end
end Att
namespace L2
open PySem PySem.Spec PyProof.Rows
theorem vals_ints : ∀ {vs : List Value} {ns : List Int}, IntsAre vs ns -> Vals (ns.map V.int) vs
 | _, _, .nil => .nil
 | _, _, .cons n t h => .cons ⟨t, rfl⟩ (vals_ints h)
def Only (H : Hp) : Prop := ∀ b, H b = none \/ ∃ o xs, H b = some (.frz o (.lst xs))
theorem law_call {P : Program} {w : World} {K : PySem.W.Frag} {mg mb : Str -> Option Value} {CX : CXT} {k : Nat} {fa a : Addr} {fd : FuncData} {x : Str} {sp : Sp} {s₁ : Shared} {vs : List Value} {ns : List Int}
  (KX : K.In s₁.heap) (hns : s₁.heap.Ns mainGlobals mg) (hb : s₁.heap.Ns builtinsNs mb) (hbb : ∀ x : Str, x ≠ "__name__" -> mb x = bootBuiltins x) (hlim : s₁.heap.NoLimit) (hg : s₁.gens = #[])
  (ha : s₁.heap.get? a = some { cls := .type "list", data := .seq vs.toArray }) (hi : IntsAre vs ns) (hl : ns.length <= sizeLine) (hr : Room k callerA)
  (F : ∀ base : Heap, K.In base -> base.Ns mainGlobals mg -> FnOk P w K mg base CX k fa fd [x] sp) (hbind : ∀ (s : Shared) (u : Value), BindsTo s fd ⟨[u], []⟩ [(x, u)])
  (hsp : ∀ H : Hp, Only H -> SqL K H a (ns.map V.int) -> sp [.ref a] H (fun v _ => v = .bl true) fun _ _ _ => False)
  (hCX : ∀ H e s', CX [] H s₁ (fun _ _ _ => False) e s' -> False) :
  codeAny (model P w) callerA (.call (.ref fa) ⟨[.ref a], []⟩) (fun r s' => r = .ok (.ret (.bool true)) /\ OldK s₁.heap s'.heap /\ s'.os = s₁.os /\ AllBare s'.gens) s₁ := by
 have rv := vals_ints hi
 have lenV := hi.length
 -- from an abstract heap in which nothing but the script may be tracked
 have core : ∀ H : Hp, Only H -> SqL K H a (ns.map V.int) -> HOk P w H s₁.heap -> (∀ b, H b ≠ none -> b = a) -> (H a ≠ none -> K.lookup a = none) ->
   codeAny (model P w) callerA (.call (.ref fa) ⟨[.ref a], []⟩) (fun r s' => r = .ok (.ret (.bool true)) /\ OldK s₁.heap s'.heap /\ s'.os = s₁.os /\ AllBare s'.gens) s₁ := by
  intro H hO hS hok hA hK
  have base_of : ∀ {b : Addr} {o : Obj}, s₁.heap.get? b = some o -> H b = none -> (hidT s₁.heap H).get? b = some o := fun e n => hidT_get e n
  have noA : ∀ {b : Addr} {o : Obj} {es : Array DictEntry} {ep : Nat}, s₁.heap.get? b = some o -> o.data = .dict es ep -> H b = none := fun {b o es ep} e d => by
   cases q : H b with
   | none => rfl
   | some u =>
    have e' : b = a := hA b (by rw [q]; simp)
    subst e'
    rw [ha] at e; cases e
    have d' : Data.seq vs.toArray _ = Data.dict es ep := d
    cases d'
  have nsK : ∀ {b : Addr} {m : Str -> Option Value}, s₁.heap.Ns b m -> (hidT s₁.heap H).Ns b m := fun {b m} ⟨o, es, ep, e, d, r⟩ => ⟨o, es, ep, base_of e (noA e d), d, r⟩
  have hKb : K.In (hidT s₁.heap H) := fun b o e => base_of (KX b o e) (by
   cases q : H b with
   | none => rfl
   | some u =>
    have e' : b = a := hA b (by rw [q]; simp)
    subst e'
    rw [hK (by rw [q]; simp)] at e; cases e)
  have hM : Mod K mg (hidT s₁.heap H) := ⟨hKb, nsK hns, ⟨mb, nsK hb, hbb⟩, let ⟨mc, h1, h2⟩ := hlim; ⟨mc, nsK h1, h2⟩⟩
  have e0 : Env0 P w K mg (hidT s₁.heap H) callerA [] s₁ H := ⟨rfl, hM, fun b o e => of_hidT e, Nat.le_of_eq (hidT_size _ _), trivial, fun b hb => absurd (show b ∈ ([] : List Addr) from hb) (by simp), hok, .of_eq hg⟩
  refine codeAny_mono ((F _ hKb (nsK hns)).run callerA [] s₁ H ⟨[.ref a], []⟩ [.ref a] [.ref a] _ _ hr e0 (hbind s₁ (.ref a)) (.cons rfl .nil) (hsp H hO hS)) fun r s' h => ?_
  cases r with
  | error e => exact (hCX H e s' h).elim
  | ok fl =>
   cases fl with
   | next => exact False.elim h
   | brk => exact False.elim h
   | cont => exact False.elim h
   | ret u =>
    obtain ⟨v, H', os, bare, un, hok', r', q⟩ := h
    have q' : v = .bl true := q
    subst q'
    obtain rfl : u = Value.bool true := r'
    refine ⟨rfl, OldK.of_keep fun b o e => ?_, os, bare⟩
    cases q : H b with
    | none => exact un.keep b o e q (by intro z; exact absurd (show b ∈ ([] : List Addr) from z) (by simp)) (by simp)
    | some u =>
     rcases hO b with z | ⟨ob, xs, z⟩
     ·rw [q] at z; cases z
     ·have z2 := un.frzs b ob _ z
      obtain ⟨e1, _⟩ := hok b _ z
      obtain ⟨e2, _⟩ := hok' b _ z2
      rw [e] at e1; cases e1
      exact e2
 cases hk : K.lookup a with
 | some o =>
  -- the script is one of the module's own objects
  have e := KX a o hk
  rw [ha] at e
  cases e
  refine core (fun _ => none) (fun _ => .inl rfl) (.inr ⟨_, vs.toArray, _, hk, rfl, rfl, rfl, by rw [List.size_toArray, lenV]; exact hl, by simpa using rv⟩) (fun b u z => by have z' : (none : Option HO) = some u := z; cases z') (fun b z => absurd rfl z) fun z => absurd rfl z
 | none =>
  refine core (fun b => if b = a then some (.frz { cls := .type "list", data := .seq vs.toArray } (.lst (ns.map V.int))) else none) (fun b => ?_) (.inl (.inr ⟨{ cls := .type "list", data := .seq vs.toArray }, if_pos rfl⟩)) (fun b u z => ?_) (fun b z => ?_) fun _ => hk
  ·by_cases hb : b = a
   ·exact .inr ⟨_, _, if_pos hb⟩
   ·exact .inl (if_neg hb)
  ·by_cases hb : b = a
   ·have z' := (if_pos hb).symm.trans z
    cases z'
    subst hb
    exact ⟨ha, by rw [List.length_map]; exact hl, vs, _, rv, ha⟩
   ·have z' := (if_neg hb).symm.trans z
    cases z'
  ·by_cases hb : b = a
   ·exact hb
   ·exact absurd (if_neg hb) z
theorem walk_of {l : PySem.W.OpenLaw} {n k : Nat} {q : Program} {loose : List Str} {XP : (Str -> Option Value) -> Heap -> Prop} {YP : World -> Heap -> Prop} {d : DefRec} {K : Params -> PySem.W.Frag} {CX : World -> CXT} {sp : World -> Sp} {x : Str}
  (hn : l.most = some n) (hn2 : n <= sizeLine) (hdf : d.params.defaults = []) (hr : Room k callerA)
  (hY : ∀ (w : World) (h : Heap), YP w h -> (K w.params).In h)
  (F : ∀ (w : World) (mg : Str -> Option Value) (fa : Addr) (h : Heap), (K w.params).In h -> h.Ns mainGlobals mg -> mg d.name = some (.ref fa) ->
   ∃ fd : FuncData, (∀ (s : Shared) (u : Value), BindsTo s fd ⟨[u], []⟩ [(x, u)]) /\
    ∀ base : Heap, (K w.params).In base -> base.Ns mainGlobals mg -> FnOk l.prog w (K w.params) mg base (CX w) k fa fd [x] (sp w))
  (hsp : ∀ (w : World) (H : Hp) (a : Addr) (ns : List Int), ns.length <= n -> Only H -> SqL (K w.params) H a (ns.map V.int) -> sp w [.ref a] H (fun v _ => v = .bl true) fun _ _ _ => False)
  (hCX : ∀ (w : World) (H : Hp) (s : Shared) (e : Value) (s' : Shared), CX w [] H s (fun _ _ _ => False) e s' -> False) :
  PySem.W.WalkO q loose XP YP l.row.toRowW d [] (fun f vs => PySem.call f vs) := by
 refine Att.attach_call hn hdf fun w s₀ s₁ mg mb fa o pm cd doc a vs ns G Y ho hd hcd hmg hobj hints hlen hg => ?_
 have KX := hY w _ Y
 obtain ⟨fd, hb, hF⟩ := F w mg fa _ KX G.T.g hmg
 exact law_call KX G.T.g G.T.b G.T.builtins G.T.nolimit hg hobj hints (Nat.le_trans hlen hn2) hr hF hb (fun H hO hS => hsp w H a ns hlen hO hS) fun H e s' => hCX w H s₁ e s'
def defArgs (s : Stmt) : Arguments := match s with
 | .FunctionDef _ a _ _ _ _ _ _ _ _ => a
 | _ => { posonlyargs := [], args := [], vararg := none, kwonlyargs := [], kw_defaults := [], kwarg := none, defaults := [] }
def defBody (s : Stmt) : List Stmt := match s with
 | .FunctionDef _ _ b _ _ _ _ _ _ _ => b
 | _ => []
def defScope (s : Stmt) : Scope := match s with
 | .FunctionDef _ _ _ _ _ _ sc _ _ _ => sc
 | _ => { kind := .function, names := [], isGenerator := false, isCoroutine := false }
abbrev CX0 : CXT := fun _ _ _ _ _ _ => False
abbrev E0 : XK := fun _ _ _ => False
theorem pass0 : Passes CX0 X E0 := fun _ _ _ _ _ _ _ h => h.elim
structure Fun (K : PySem.W.Frag) (x qual : Str) (st : Stmt) (f : Addr) (fd : FuncData) : Prop where
 ex : ∃ (oc : Value) (od : Option Addr) (kV doc pm : Value) (an : Option Addr) (cdv ct : Value) (osl : Array (Option Value)),
  fd = PySem.W.fnOf x qual (defArgs st) (defBody st) (defScope st) .none kV doc pm an cdv ct /\ K.lookup f = some ⟨oc, od, .func fd, osl⟩ /\ PySem.W.codeIn K cdv qual = true
 kp : PySem.W.keepIn K (.ref f) = true
section
variable {P : Program} {w : World} {K : PySem.W.Frag} {mg : Str -> Option Value} {base : Heap}
theorem Fun.ok {x qual : Str} {st : Stmt} {f : Addr} {fd : FuncData} {N ps : List Str} {k : Nat} {sp : Sp} (F : Fun K x qual st f fd) (S : FnScope N ps (defScope st)) (len : ∀ vs H Q E, sp vs H Q E -> vs.length = ps.length)
  (hbody : ∀ (cdv : Value) (A : Around) (outer : List Env) (s : Shared) (H : Hp) (vs : List V) (Q : VK) (E : XK), Room k (A.deeper (envOfC qual (defScope st) s.heap.objs.size f cdv)) -> sp vs H Q E ->
   ∃ t, PSs (cxOf CX0 P w K mg base N qual (defScope st) f cdv A outer s H E).nox (defBody st) t /\ t { nx := fun _ H' => Q .non H', rt := Q } (start N vs) H) : FnOk P w K mg base CX0 (k + 1) f fd ps sp := by
 obtain ⟨oc, od, kV, doc, pm, an, cdv, ct, osl, rfl, lk, hcd⟩ := F.ex
 refine fn_of lk hcd S len fun A outer s H vs Q E hr hsp => ?_
 obtain ⟨t, h, q⟩ := hbody cdv A outer s H vs Q E hr hsp
 exact ⟨t, h.nox, q⟩
theorem Fun.binds {x qual : Str} {st : Stmt} {f : Addr} {fd : FuncData} {ps : List Str} (F : Fun K x qual st f fd)
  (h : ∀ (kV doc pm : Value) (an : Option Addr) (cdv ct : Value) (us : List Value), us.length = ps.length -> bindArgs (PySem.W.fnOf x qual (defArgs st) (defBody st) (defScope st) .none kV doc pm an cdv ct) ⟨us, []⟩ = pure (ps.zip us)) : Binds K fd ps [] := by
 obtain ⟨oc, od, kV, doc, pm, an, cdv, ct, osl, rfl, lk, hcd⟩ := F.ex
 exact .all (h kV doc pm an cdv ct)
theorem fun_mk {x qual : Str} {st : Stmt} {f : Addr} {oc : Value} {od an : Option Addr} {osl : Array (Option Value)} {kV doc pm cdv ct : Value} (l : K.lookup f = some ⟨oc, od, .func (PySem.W.fnOf x qual (defArgs st) (defBody st) (defScope st) .none kV doc pm an cdv ct), osl⟩)
  (c : PySem.W.codeIn K cdv qual = true) (k : PySem.W.keepIn K (.ref f) = true) : Fun K x qual st f (PySem.W.fnOf x qual (defArgs st) (defBody st) (defScope st) .none kV doc pm an cdv ct) := ⟨⟨oc, od, kV, doc, pm, an, cdv, ct, osl, rfl, l, c⟩, k⟩
end
section
variable {X : Cx}
theorem pv (i : Nat)  (hN : X.N[i]? = some x := by rfl) (hv : Vis X.env.scope x := by first | exact Or.inl rfl | exact Or.inr (Or.inl rfl) | exact Or.inr (Or.inr rfl)) (hd : (x == ("__debug__" : Str)) = false := by decide)
  (hcd : (x == ("__classdict__" : Str)) = false := by decide) : PE X (.Name x pos) (tVar i) := pe_var hN hv hd hcd
end
theorem ite2 {c A B : Prop} [Decidable c] (h1 : c -> A) (h2 : ¬ c -> B) : if c then A else B := by
 by_cases h : c
 ·rw [if_pos h]
  exact h1 h
 ·rw [if_neg h]
  exact h2 h
def Same (H H' : Hp) : Prop := ∀ b o, H b = some o -> H' b = some o
theorem Same.refl (H : Hp) : Same H H := fun _ _ h => h
theorem Same.trans {H H1 H2 : Hp} (a : Same H H1) (b : Same H1 H2) : Same H H2 := fun c o h => b c o (a c o h)
theorem Same.free {H H' : Hp} (e : Same H H') {l : Addr} (h : H' l = Option.none) : H l = Option.none := by
 cases q : H l with
 | none => rfl
 | some o =>
  rw [e l o q] at h
  cases h
theorem Same.seq {K : PySem.W.Frag} {H H' : Hp} {a : Addr} {xs : List V} (e : Same H H') (h : SqL K H a xs) : SqL K H' a xs := by
 rcases h with (h | ⟨o, h⟩) | h
 ·exact .inl (.inl (e _ _ h))
 ·exact .inl (.inr ⟨o, e _ _ h⟩)
 ·exact .inr h
section
variable {κ : Type} [DecidableEq κ]
def valV (kvs : List (κ × V)) (k : κ) : Option V := (kvs.find? fun kv => decide (kv.1 = k)).map (·.2)
def putK (kvs : List (κ × V)) (k : κ) (v : V) : List (κ × V) :=
 if (kvs.any fun kv => decide (kv.1 = k)) = true then kvs.map (fun kv => if kv.1 = k then (kv.1, v) else kv) else kvs ++ [(k, v)]
theorem valV_pos {p : κ × V} {r : List (κ × V)} {k : κ} (e : p.1 = k) : valV (p :: r) k = some p.2 := by simp [valV, List.find?_cons, e]
theorem valV_neg {p : κ × V} {r : List (κ × V)} {k : κ} (e : ¬ p.1 = k) : valV (p :: r) k = valV r k := by simp [valV, List.find?_cons, e]
theorem valV_any (k : κ) : ∀ kvs : List (κ × V), (kvs.any fun kv => decide (kv.1 = k)) = (valV kvs k).isSome
 | [] => rfl
 | p :: r => by
  rw [List.any_cons]
  by_cases e : p.1 = k
  ·simp only [valV_pos e, decide_eq_true e, Bool.true_or, Option.isSome_some]
  ·rw [valV_neg e, decide_eq_false e, Bool.false_or]; exact valV_any k r
theorem valV_map (k j : κ) (y : V) : ∀ kvs : List (κ × V), valV (kvs.map fun kv => if kv.1 = k then (kv.1, y) else kv) j = (valV kvs j).map fun x => if j = k then y else x
 | [] => rfl
 | p :: r => by
  have ih := valV_map k j y r
  rw [List.map_cons]
  by_cases h : p.1 = k
  ·rw [if_pos h]
   by_cases e : p.1 = j
   ·rw [valV_pos (p := (p.1, y)) e, valV_pos e, Option.map_some, if_pos (e.symm.trans h)]
   ·rw [valV_neg (p := (p.1, y)) e, valV_neg e, ih]
  ·rw [if_neg h]
   by_cases e : p.1 = j
   ·rw [valV_pos (p := p) e, valV_pos e, Option.map_some, if_neg (fun z => h (e.trans z))]
   ·rw [valV_neg (p := p) e, valV_neg e, ih]
theorem valV_snoc (k j : κ) (y : V) : ∀ kvs : List (κ × V), valV kvs k = none -> valV (kvs ++ [(k, y)]) j = if j = k then some y else valV kvs j
 | [], _ => by
  by_cases e : k = j
  ·rw [if_pos e.symm]; exact valV_pos (p := (k, y)) e
  ·rw [if_neg (fun z => e z.symm)]; exact valV_neg (p := (k, y)) e
 | p :: r, hn => by
  rw [List.cons_append]
  have hk : ¬ p.1 = k := fun z => by rw [valV_pos z] at hn; cases hn
  rw [valV_neg hk] at hn
  have ih := valV_snoc k j y r hn
  by_cases e : p.1 = j
  ·rw [valV_pos e, valV_pos e, if_neg (fun z => hk (e.trans z))]
  ·rw [valV_neg e, valV_neg e, ih]
theorem valV_put (kvs : List (κ × V)) (k j : κ) (y : V) : valV (putK kvs k y) j = if j = k then some y else valV kvs j := by
 unfold putK
 by_cases a : (kvs.any fun kv => decide (kv.1 = k)) = true
 ·rw [if_pos a, valV_map]
  rw [valV_any] at a
  by_cases e : j = k
  ·obtain ⟨x, hx⟩ := Option.isSome_iff_exists.mp a
   rw [if_pos e, e, hx, Option.map_some, if_pos rfl]
  ·rw [if_neg e]
   cases valV kvs j with
   | none => rfl
   | some x => rw [Option.map_some, if_neg e]
 ·rw [if_neg a]
  refine valV_snoc k j y kvs ?_
  rw [valV_any] at a
  cases q : valV kvs k with
  | none => rfl
  | some x => rw [q] at a; exact (a rfl).elim
theorem length_putK (kvs : List (κ × V)) (k : κ) (v : V) : (putK kvs k v).length <= kvs.length + 1 := by
 unfold putK
 split
 ·rw [List.length_map]; omega
 ·rw [List.length_append, List.length_cons, List.length_nil]; omega
theorem RelO.isSome_eq  (r : RelO o u) : o.isSome = u.isSome := by
 cases o with
 | none => cases u with
  | none => rfl
  | some _ => exact (show False from r).elim
 | some _ => cases u with
  | none => exact (show False from r).elim
  | some _ => rfl
theorem RelO.getD   (r : RelO o u) (rd : RelV d d') : RelV (o.getD d) (u.getD d') := by
 cases o with
 | none => cases u with
  | none => exact rd
  | some _ => exact (show False from r).elim
 | some _ => cases u with
  | none => exact (show False from r).elim
  | some _ => exact r
theorem KV.val {kvs : List (κ × V)} {vs : List (κ × Value)} (r : KV kvs vs) (k : κ) : RelO (valV kvs k) (valueAt vs k) := by
 unfold KV at r
 induction r with
 | nil => exact True.intro
 | @cons p q ps qs h t ih =>
  obtain ⟨h1, h2⟩ := h
  by_cases e : p.1 = k
  ·have e' : q.1 = k := h1.symm.trans e
   have b : valueAt (q :: qs) k = some q.2 := by simp [valueAt, List.find?_cons, e']
   rw [valV_pos e, b]; exact h2
  ·have e' : ¬ q.1 = k := fun z => e (h1.trans z)
   have b : valueAt (q :: qs) k = valueAt qs k := by simp [valueAt, List.find?_cons, e']
   rw [valV_neg e, b]; exact ih
theorem KV.any  (r : KV kvs vs) (k : κ) : (kvs.any fun kv => decide (kv.1 = k)) = vs.any fun kv => decide (kv.1 = k) := by
 unfold KV at r
 induction r with
 | nil => rfl
 | cons h t ih => rw [List.any_cons, List.any_cons, ih, h.1]
theorem KV.repl  (r : KV kvs vs) (k : κ)  (ry : RelV y u) :
  KV (kvs.map fun kv => if kv.1 = k then (kv.1, y) else kv) (vs.map fun kv => if kv.1 = k then (kv.1, u) else kv) := by
 unfold KV at r ⊢
 induction r with
 | nil => exact .nil
 | @cons p q ps qs h t ih =>
  rw [List.map_cons, List.map_cons]
  refine .cons ?_ ih
  obtain ⟨h1, h2⟩ := h
  by_cases e : p.1 = k
  ·rw [if_pos e, if_pos (h1.symm.trans e)]; exact ⟨h1, ry⟩
  ·rw [if_neg e, if_neg (fun z => e (h1.trans z))]; exact ⟨h1, h2⟩
theorem KV.put  (r : KV kvs vs) (k : κ)  (ry : RelV y u) : KV (putK kvs k y) (stored vs k u) := by
 unfold putK stored
 rw [r.any k]
 by_cases e : (vs.any fun kv => decide (kv.1 = k)) = true
 ·rw [if_pos e, if_pos e]; exact r.repl k ry
 ·rw [if_neg e, if_neg e]; exact Paired.snoc r ⟨rfl, ry⟩
theorem KV.length  (r : KV kvs vs) : kvs.length = vs.length := Paired.length r
end
theorem kV_is   (r : RelV (kV k) u) : (mixKind P w).is k u = true := by
 cases k with
 | inl i => obtain ⟨t, e⟩ := (show ∃ t, u = Value.int i t from r); subst e; exact mixKind_int P w i t
 | inr x => obtain ⟨t, e⟩ := (show ∃ t, u = Value.str x t from r); subst e; exact mixKind_str P w x t
theorem items_are  : ∀ {ks : List Key} {us : List Value}, Vals (ks.map kV) us -> ItemsAre (mixKind P w) ks us
 | [], _, r => by rw [List.map_nil] at r; cases r; exact .nil
 | k :: ks, _, r => by
  rw [List.map_cons] at r
  cases r with
  | cons h t => exact .cons (kV_is h) (items_are t)
abbrev KT (H : Hp) : List (List Key × V) -> List (List Key × Addr × Value) -> Prop := Paired fun p q => p.1 = q.1 /\ H q.2.1 = some (.tup (p.1.map kV)) /\ RelV p.2 q.2.2
theorem KT.val {H : Hp} {kvs : List (List Key × V)} {xs : List (List Key × Addr × Value)} (r : KT H kvs xs) (k : List Key) : RelO (valV kvs k) ((atKey xs k).map (·.2)) := by
 induction r with
 | nil => exact True.intro
 | @cons p q ps qs h t ih =>
  obtain ⟨h1, _, h2⟩ := h
  by_cases e : p.1 = k
  ·have e' : q.1 = k := h1.symm.trans e
   have b : atKey (q :: qs) k = some q.2 := by simp [atKey, List.find?_cons, e']
   rw [valV_pos e, b]; exact h2
  ·have e' : ¬ q.1 = k := fun z => e (h1.trans z)
   have b : atKey (q :: qs) k = atKey qs k := by simp [atKey, List.find?_cons, e']
   rw [valV_neg e, b]; exact ih
theorem KT.repl  (r : KT H kvs xs) (k : List Key)  (ry : RelV y u) :
  KT H (kvs.map fun kv => if kv.1 = k then (kv.1, y) else kv) (xs.map (putAt k u)) := by
 induction r with
 | nil => exact .nil
 | @cons p q ps qs h t ih =>
  rw [List.map_cons, List.map_cons]
  refine .cons ?_ ih
  obtain ⟨h1, h2, h3⟩ := h
  unfold putAt
  by_cases e : p.1 = k
  ·rw [if_pos e, if_pos (h1.symm.trans e)]; exact ⟨h1, h2, ry⟩
  ·rw [if_neg e, if_neg (fun z => e (h1.trans z))]; exact ⟨h1, h2, h3⟩
theorem KT.put  (r : KT H kvs xs) (k : List Key)  (hb : H b = some (.tup (k.map kV))) (ry : RelV y u) :
  KT H (putK kvs k y) (storedH xs k b u) := by
 have e : (kvs.any fun kv => decide (kv.1 = k)) = (atKey xs k).isSome := by
  rw [valV_any, (r.val k).isSome_eq, Option.isSome_map]
 unfold putK storedH
 rw [e]
 by_cases q : (atKey xs k).isSome = true
 ·rw [if_pos q, if_pos q]; exact r.repl k ry
 ·rw [if_neg q, if_neg q]; exact Paired.snoc r ⟨rfl, hb, ry⟩
theorem KT.keeps  (r : KT H kvs xs) (ht : ∀ b ys, H b = some (.tup ys) -> H' b = some (.tup ys)) : KT H' kvs xs :=
 Paired.mapP r fun _ _ z => ⟨z.1, ht _ _ z.2.1, z.2.2⟩
section
variable {P : Program} {w : World} {H : Hp} {h : Heap} {a : Addr}
theorem rd_of (ok : HOk P w H h) (e : Rd H a u) : ObjOk P w H h a u := e.ok ok
theorem dk_rd (ok : HOk P w H h) (e : Rd H a (.dK kvs)) : kvs.length <= sizeLine /\ (a == sysModules) = false /\ ∃ vs, KV kvs vs /\ h.DictOf (mixKind P w) a vs :=
 show ObjOk P w H h a (.dK kvs) from rd_of ok e
theorem dk_of (ok : HOk P w H h) (e : H a = some (.dK kvs)) : kvs.length <= sizeLine /\ (a == sysModules) = false /\ ∃ vs, KV kvs vs /\ h.DictOf (mixKind P w) a vs := dk_rd ok (.inl e)
theorem key_of (ok : HOk P w H h) (e : H a = some (.tup (ks.map kV))) : (tupleKind (mixKind P w)).is h ks a := by
 obtain ⟨_, its, r, o, h1, h2, n, h3⟩ := (show ObjOk P w H h a (.tup (ks.map kV)) from ok a _ e)
 exact ⟨o, its.toArray, n, h1, h2, h3, by simpa using items_are r⟩
theorem dt_rd (ok : HOk P w H h) (e : Rd H a (.dT kvs)) : kvs.length <= sizeLine /\ (a == sysModules) = false /\
  ∃ xs, KT H kvs xs /\ h.DictOfH (tupleKind (mixKind P w)) a xs := by
 obtain ⟨z, y, xs, r, o, es, ep, h1, h2, h3, h4, h5⟩ := (show ObjOk P w H h a (.dT kvs) from rd_of ok e)
 refine ⟨z, y, xs, r, o, es, ep, h1, h2, h3, h4, fun x hx => ?_, h5⟩
 have all : ∀ {l : List (List Key × V)} {m : List (List Key × Addr × Value)}, KT H l m -> ∀ x ∈ m, (tupleKind (mixKind P w)).is h x.1 x.2.1 := by
  intro l m q
  induction q with
  | nil => intro x hx; exact nomatch hx
  | @cons p q ps qs hq t ih =>
   intro x hx
   rcases List.mem_cons.mp hx with e | hx
   ·subst e
    exact key_of ok (by rw [<- hq.1]; exact hq.2.1)
   ·exact ih x hx
 exact all r x hx
theorem dt_of (ok : HOk P w H h) (e : H a = some (.dT kvs)) : kvs.length <= sizeLine /\ (a == sysModules) = false /\
  ∃ xs, KT H kvs xs /\ h.DictOfH (tupleKind (mixKind P w)) a xs := dt_rd ok (.inl e)
end
def DGet (H : Hp) (a : Addr) (y : V) (r : Option V) : Prop :=
 (∃ kvs k, Rd H a (.dK kvs) /\ y = kV k /\ r = valV kvs k) \/ ∃ kvs k b, Rd H a (.dT kvs) /\ y = .ref b /\ H b = some (.tup (k.map kV)) /\ r = valV kvs k
def DPut (H : Hp) (a : Addr) (y v : V) (H' : Hp) : Prop :=
 (∃ kvs k, H a = some (.dK kvs) /\ y = kV k /\ kvs.length < sizeLine /\ H' = upd H a (.dK (putK kvs k v))) \/
 ∃ kvs k b, H a = some (.dT kvs) /\ y = .ref b /\ H b = some (.tup (k.map kV)) /\ kvs.length < sizeLine /\ H' = upd H a (.dT (putK kvs k v))
theorem DGet.k {H : Hp} {a : Addr} {kvs : List (Key × V)} {k : Key} (e : H a = some (.dK kvs)) : DGet H a (kV k) (valV kvs k) := .inl ⟨kvs, k, .inl e, rfl, rfl⟩
theorem DPut.k {H : Hp} {a : Addr} {kvs : List (Key × V)} {k : Key} {v : V} (e : H a = some (.dK kvs)) (hl : kvs.length < sizeLine) : DPut H a (kV k) v (upd H a (.dK (putK kvs k v))) := .inl ⟨kvs, k, e, rfl, hl, rfl⟩
section
variable {X : Cx} {pins : List (Addr × Obj)} {σ : St} {H : Hp} {s : Shared} {a : Addr} {y v : V} {u r : Value} {o : Option V} {A : Around} {E : Value -> Shared -> Prop}
theorem Inv.big (I : Inv X pins σ H s) : sysModules < s.heap.objs.size := by
 have h : mainGlobals < s.heap.objs.size := (I.mod.glob.keeps I.bk).lt
 exact Nat.lt_trans (by decide) h
theorem d_write  (I : Inv X pins σ H s) (mu : Mut (H a)) (hs : Heap.SameBut a s.heap h') (he : ∃ q, h'.get? a = some q) (new : ObjOk X.prog X.w (upd H a ob) h' a ob) :
  Inv X pins σ (upd H a ob) { s with heap := h', toks := t' } :=
 I.write (x := a) (e := a) mu (.inl rfl) (fun b q hb z => (hs.2 b hb).trans z) he new
theorem dk_new    (z : kvs.length <= sizeLine) (hd : (a == sysModules) = false) (rel : KV kvs vs) (dd : h'.DictOf (mixKind P w) a vs) :
  ObjOk P w H' h' a (.dK kvs) := ⟨z, hd, vs, rel, dd⟩
theorem d_setItem  (hu : A.units + 1 < cLine) (I : Inv X pins σ H s) (g : DPut H a y v H') (ry : RelV y u) (rv : RelV v r) (h : ∀ s', Inv X pins σ H' s' -> Q () s') :
  wpAny (model X.prog X.w) A (setItem (.ref a) u r) Q E s := by
 rcases g with ⟨kvs, k, e, ey, l, eH⟩ | ⟨kvs, k, b, e, ey, eb, l, eH⟩
 ·subst ey eH
  obtain ⟨z, hd, vs, rel, dd⟩ := dk_of I.hok e
  have hz : vs.length <= sizeLine := by rw [<- rel.length]; exact z
  have hl : (putK kvs k v).length <= sizeLine := by have := length_putK kvs k v; omega
  refine wpAny_setItem_pairs (hsz := hz) (kV_is ry) dd fun h' dd' hs => h _ ?_
  have he : ∃ q, h'.get? a = some q := let ⟨q, _, _, hq, _⟩ := dd'; ⟨q, hq⟩
  exact d_write I (by rw [e]; exact True.intro) hs he (dk_new hl hd (rel.put k rv) dd')
 ·subst ey eH
  cases (show u = Value.ref b from ry)
  obtain ⟨z, hd, xs, rel, dd⟩ := dt_of I.hok e
  have hz : xs.length <= sizeLine := by rw [<- Paired.length rel]; exact z
  have hl : (putK kvs k v).length <= sizeLine := by have := length_putK kvs k v; omega
  refine wpAny_setItem_heap (hsz := hz) (tupleKind_room_in1 hu) (key_of I.hok eb) dd fun h' dd' hs => h _ ?_
  obtain ⟨q, es, ep, hq, h2, h3, h4, _, h5⟩ := dd'
  refine d_write I (by rw [e]; exact True.intro) hs ⟨q, hq⟩ ⟨hl, hd, _, (rel.put k eb rv).keeps fun c ys ec => ?_, q, es, ep, hq, h2, h3, h4, h5⟩
  rw [upd_ne (ne_of ec e (fun z => nomatch z))]
  exact ec
end
section
variable {X : Cx} {pins : List (Addr × Obj)} {σ : St} {H : Hp} {s : Shared} {a : Addr} {kvs : List (Key × V)} {k : Key} {u : Value} {A : Around} {E : Value -> Shared -> Prop}
end
def NoSl (i : Expr) : Prop := ∀ ov iv, subscripted i false ov iv = operate [ov, iv] (getItem ov iv)
theorem subD_of {prog : Program} {w : World} {A : Around} {E : Value -> Shared -> Prop} {s : Shared} {env : Env} {value slice : Expr} {pos : Pos} {T id : String} {Q : Value -> Shared -> Prop}
  (hl : typeLookup (.type T) "__getitem__" = pure (some (.builtin id))) (hs : NoSl slice)
  (h : wpAny (model prog w) A (eval value env) (fun o s₁ => wpAny (model prog w) A (eval slice env) (fun i s₂ => s₂.TypeIs o T /\ wpAny (model prog w) A (getItem o i) Q E s₂) E s₁) E s) :
  wpAny (model prog w) A (eval (.Subscript value slice pos) env) Q E s := by
 refine Subscript_ (wpAny_mono h (fun o s₁ h₁ => wpAny_mono h₁ (fun i s₂ h₂ => ?_) fun _ _ x => x) fun _ _ x => x)
 obtain ⟨hT, h₂⟩ := h₂
 unfold subscriptTail
 refine wpAny_bind ?_
 rw [getitemInPython_of_ne hT.not_modules]
 refine wpAny_bind (wpAny_specialOf hT hl ?_)
 have fin : wpAny (model prog w) A (subscripted slice false o i) (fun r s₃ => wpAny (model prog w) A (letTemporaryGo value o r >>= fun _ => pure r) Q E s₃) E s₂ := by
  rw [hs o i]
  exact wpAny_operating (wpAny_mono h₂ (fun r s₃ h₃ => wpAny_bind (wpAny_letTemporaryGo (wpAny_pure h₃))) fun _ _ x => x)
 first
  | exact wpAny_pure (wpAny_bind fin)
  | exact wpAny_bind (wpAny_pure (wpAny_bind fin))
  | exact wpAny_bind fin
def sDPut (td ty tv : TE) : TS := fun D σ H => tv σ H fun v H1 => td σ H1 fun x H2 => ty σ H2 fun y H3 => ∃ a H4, x = .ref a /\ DPut H3 a y v H4 /\ D.nx σ H4
section
variable {X : Cx} {o i e value : Expr} {pos pos' tpos : Pos} {td ty tv : TE}
theorem ps_dput (hu : X.A.units + 1 < cLine) (ho : PE X o td) (hi : PE X i ty) (hv : PE X value tv) (hs : swapsWith value (some (.Subscript o i pos')) pos.line X.env = pure false) :
  PS X (.Assign [.Subscript o i pos'] value pos) (sDPut td ty tv) := by
 intro pins s σ H D I h
 refine wpAny_Assign_Subscript (thn (hv pins s σ H _ I h) fun r s1 ⟨v, H1, I1, rv, q1⟩ => thn (ho pins s1 σ H1 _ I1 q1) fun u s2 ⟨x, H2, I2, rx, q2⟩ => thn (hi pins s2 σ H2 _ I2 q2) fun iv s3 ⟨y, H3, I3, ry, a, H4, ex, g, q3⟩ => ?_) hs
 subst ex
 obtain rfl : u = Value.ref a := rx
 exact d_setItem hu I3 g ry rv fun s4 I4 => ⟨σ, H4, I4, q3⟩
end
theorem dk_empty  (h : Heap) (hb : sysModules < h.objs.size) : ObjOk P w H (h.push { cls := .type "dict", data := .dict #[] }) h.objs.size (.dK []) :=
 ⟨Nat.zero_le _, beq_eq_false_iff_ne.mpr (Ne.symm (Nat.ne_of_lt hb)), [], .nil, Heap.DictOf.new h⟩
section
variable {X : Cx} {pos : Pos}
end
def tPairs : List (TE × TE) -> St -> Hp -> (List (V × V) -> Hp -> Prop) -> Prop
 | [], _, H, Q => Q [] H
 | (tk, tv) :: r, σ, H, Q => tk σ H fun x H1 => tv σ H1 fun y H2 => tPairs r σ H2 fun ps H3 => Q ((x, y) :: ps) H3
abbrev VV : List (V × V) -> List (Value × Value) -> Prop := Paired fun p q => RelV p.1 q.1 /\ RelV p.2 q.2
def PPs (X : Cx) (pos : Pos) (keys : List (Option Expr)) (values : List Expr) (trs : List (TE × TE)) : Prop :=
 ∀ (pins : List (Addr × Obj)) (s : Shared) (σ : St) (H : Hp) (Q : List (V × V) -> Hp -> Prop), Inv X pins σ H s -> tPairs trs σ H Q ->
  wpAny (model X.prog X.w) X.A (evalPairs (pairTrees keys values X.env pos)) (fun vs s' => ∃ ps H', Inv X pins σ H' s' /\ VV ps vs /\ Q ps H') X.xe s
theorem pps_nil  : PPs X pos [] [] [] := fun pins s σ H Q I h => pairTrees_nil_walk ⟨[], H, I, .nil, h⟩
theorem pps_cons    (hk : PE X k tk) (hv : PE X v tv) (hr : PPs X pos ks vs trs) :
  PPs X pos (some k :: ks) (v :: vs) ((tk, tv) :: trs) := fun pins s σ H Q I h =>
 pairTrees_cons_walk (thn (hk pins s σ H _ I h) fun u s1 ⟨x, H1, I1, rx, q1⟩ => thn (hv pins s1 σ H1 _ I1 q1) fun w2 s2 ⟨y, H2, I2, ry, q2⟩ =>
  thn (hr pins s2 σ H2 _ I2 q2) fun ws s3 ⟨ps, H3, I3, rel, q3⟩ => ⟨(x, y) :: ps, H3, I3, .cons ⟨rx, ry⟩ rel, q3⟩)
def mergeK (kvs more : List (Key × V)) : List (Key × V) := more.foldl (fun acc kv => putK acc kv.1 kv.2) kvs
theorem KV.merge : ∀ {more : List (Key × V)} {rs : List (Key × Value)} {kvs : List (Key × V)} {vs : List (Key × Value)}, KV more rs -> KV kvs vs -> KV (mergeK kvs more) (merged vs rs) := by
 intro more rs kvs vs r
 unfold KV at r
 induction r generalizing kvs vs with
 | nil => intro q; exact q
 | @cons p q ps qs h t ih =>
  intro r0
  have e : KV (putK kvs p.1 p.2) (stored vs q.1 q.2) := by
   have := r0.put p.1 h.2
   rw [<- h.1]; exact this
  exact ih e
theorem length_mergeK : ∀ (more kvs : List (Key × V)), (mergeK kvs more).length <= kvs.length + more.length
 | [], kvs => by show kvs.length <= kvs.length + 0; omega
 | p :: r, kvs => by
  have h1 := length_mergeK r (putK kvs p.1 p.2)
  have h2 := length_putK kvs p.1 p.2
  show (mergeK (putK kvs p.1 p.2) r).length <= _
  rw [List.length_cons]; omega
theorem carries_of  : ∀ {kvs : List (Key × V)} {ws : List (Value × Value)}, VV (kvs.map fun kv => (kV kv.1, kv.2)) ws -> ∃ rs, Carries (mixKind P w) ws rs /\ KV kvs rs
 | [], _, r => by rw [List.map_nil] at r; cases r; exact ⟨[], True.intro, .nil⟩
 | p :: kvs, _, r => by
  rw [List.map_cons] at r
  cases r with
  | @cons a b as bs h t =>
   obtain ⟨rs, c, q⟩ := carries_of (P := P) (w := w) t
   obtain ⟨b1, b2⟩ := b
   exact ⟨(p.1, b2) :: rs, ⟨kV_is h.1, rfl, c⟩, .cons ⟨rfl, h.2⟩ q⟩
def tDisp (trs : List (TE × TE)) : TE := fun σ H Q => ∀ p, H p = none -> tPairs trs σ (upd H p (.dK [])) fun ps H2 => H2 p = some (.dK []) /\ ∃ kvs : List (Key × V), ps = kvs.map (fun kv => (kV kv.1, kv.2)) /\ kvs.length <= 15 /\ Q (.ref p) (upd H2 p (.dK (mergeK [] kvs)))
theorem pe_disp   (h : PPs X pos keys values trs) (hall : keys.all (·.isSome) = true) (hl : keys.length = values.length) (h0 : keys ≠ [])
  (h15 : keys.length <= 15) : PE X (.Dict keys values pos) (tDisp trs) := by
 intro pins s σ H Q I q
 have hn := I.hok.fresh (Nat.le_refl s.heap.objs.size)
 have I1 := I.laid (a := s.heap.objs.size) (o := .dK []) (h' := s.heap.push { cls := .type "dict", data := .dict #[] }) (t' := s.toks) (fun _ _ q => Heap.get?_push_of_some _ q) (Nat.le_refl _) (dk_empty s.heap I.big)
 refine wpAny_Dict_walk (knd := mixKind X.prog X.w) hall hl h0 h15 (thn (h pins _ σ _ _ I1 (q _ hn)) fun ws s2 ⟨ps, H2, I2, rel, e, kvs, ep, lk, q2⟩ => ?_)
 subst ep
 obtain ⟨rs, c, rk⟩ := carries_of (P := X.prog) (w := X.w) rel
 obtain ⟨z, hd, vs0, r0, dd⟩ := dk_of I2.hok e
 cases r0
 refine ⟨rs, c, dd, fun h' dd' hs => ⟨.ref s.heap.objs.size, _, ?_, rfl, q2⟩⟩
 have hz : (mergeK [] kvs).length <= sizeLine := by
  have h1 := length_mergeK kvs []
  rw [List.length_nil] at h1
  rw [sizeLine_eq]; omega
 have he : ∃ q, h'.get? s.heap.objs.size = some q := let ⟨q, _, _, hq, _⟩ := dd'; ⟨q, hq⟩
 exact d_write I2 (by rw [e]; exact True.intro) hs he (dk_new hz hd (rk.merge .nil) dd')
structure M2 (X : Cx) (o : Expr) (m : Str) (apos : Pos) (e f : Expr) (cpos : Pos) : Prop where
 base : attributeBase o m X.env (eval o X.env) = eval o X.env
 few : ((backTo cpos (starEach [e, f] X.env)).all (fun x => !x.1) && (backToKw cpos (keywordEach [] X.env)).all (fun x => x.1.isSome)
  && decide (([e, f] : List Expr).length + ([] : List Keyword).length + (if ([] : List Keyword).isEmpty then 0 else 1) < 30)) = true
 line : (apos.endLine == cpos.line) = true
 trees : backTo cpos (starEach [e, f] X.env) = [(false, eval e X.env), (false, eval f X.env)]
def IsD (H : Hp) (a : Addr) : Prop := (∃ kvs, Rd H a (.dK kvs)) \/ ∃ kvs, Rd H a (.dT kvs)
theorem isD_at    (I : Inv X pins σ H s) (d : IsD H a) :
  s.TypeIs (.ref a) "dict" /\ (∀ b, Value.ref a = .ref b -> ∃ ob, s.heap.get? b = some ob /\ ob.dict = none) /\ (a == sysModules) = false := by
 rcases d with ⟨kvs, e⟩ | ⟨kvs, e⟩
 ·obtain ⟨_, hd, vs, _, dd⟩ := dk_rd I.hok e
  refine ⟨dd.typeIs, fun b q => ?_, hd⟩
  cases q
  obtain ⟨ob, _, _, h1, h2, _⟩ := dd
  exact ⟨ob, h1, h2.2.1⟩
 ·obtain ⟨_, hd, xs, _, dd⟩ := dt_rd I.hok e
  refine ⟨dd.typeIs, fun b q => ?_, hd⟩
  cases q
  obtain ⟨ob, _, _, h1, h2, _⟩ := dd
  exact ⟨ob, h1, h2.2.1⟩
section
variable {X : Cx} {pins : List (Addr × Obj)} {σ : St} {H : Hp} {s : Shared} {a : Addr} {y d : V} {u r : Value} {o : Option V} {A : Around} {E : Value -> Shared -> Prop}
theorem d_get2 (hu : A.units + 1 < cLine) (I : Inv X pins σ H s) (g : DGet H a y o) (ry : RelV y u) (rd : RelV d r) (h : ∀ w' s', Inv X pins σ H s' -> RelV (o.getD d) w' -> Q w' s') :
  wpAny (model X.prog X.w) A (call (.builtin "dict.get") [.ref a, u, r]) Q E s := by
 rcases g with ⟨kvs, k, e, ey, l⟩ | ⟨kvs, k, b, e, ey, eb, l⟩
 ·subst ey
  obtain ⟨z, hd, vs, rel, dd⟩ := dk_rd I.hok e
  refine call_meetsIn PySem.F.slot_dict_get dd.typeIs PySem.F.entry_dict_get (PySem.F.args_dict_get_3 _ _ _) (meets_dict_get_default (mixKind X.prog X.w) a (kV_is ry) hd r) ⟨_, dd.mapOf, h _ _ (I.tok _) ?_⟩
  rw [l]
  exact (rel.val k).getD rd
 ·subst ey
  cases (show u = Value.ref b from ry)
  obtain ⟨z, hd, xs, rel, dd⟩ := dt_rd I.hok e
  refine call_meetsIn PySem.F.slot_dict_get dd.typeIs PySem.F.entry_dict_get (PySem.F.args_dict_get_3 _ _ _) (meetsH_dict_get_default (tupleKind (mixKind X.prog X.w)) a b hd r) ⟨tupleKind_room_in1 hu, k, xs, key_of I.hok eb, dd, h _ _ (I.tok _) ?_⟩
  rw [l]
  exact (rel.val k).getD rd
end
def tDGet2 (td ty tx : TE) : TE := fun σ H Q => td σ H fun x H1 => ∃ a, x = .ref a /\ IsD H1 a /\ ty σ H1 fun y H2 => tx σ H2 fun z H3 => ∃ o, DGet H3 a y o /\ Q (o.getD z) H3
section
variable {X : Cx} {o e f : Expr} {apos cpos : Pos} {td ty tx : TE}
theorem pe_dget2 (hu : X.A.units + 1 < cLine) (ho : PE X o td) (he : PE X e ty) (hf : PE X f tx) (m : M2 X o "get" apos e f cpos) : PE X (.Call (.Attribute o "get" apos) [e, f] [] cpos) (tDGet2 td ty tx) := by
 intro pins s σ H Q I h
 refine wpAny_Call_method m.base m.few m.line PySem.F.plainAttrs_dict PySem.F.slot_dict_get PySem.F.type_dict_get (thn (ho pins s σ H _ I h) fun u s1 ⟨x, H1, I1, rx, a, ex, d, q1⟩ => ?_)
 subst ex
 obtain rfl : u = Value.ref a := rx
 obtain ⟨t1, t2, _⟩ := isD_at I1 d
 refine ⟨t1, t2, ?_⟩
 rw [m.trees]
 refine Calls.callWith_builtin rfl (Calls.evalArgs_plain (Calls.spliced_cons (thn (he pins s1 σ H1 _ I1 q1) fun iv s2 ⟨y, H2, I2, ry, q2⟩ =>
  Calls.spliced_cons (thn (hf pins s2 σ H2 _ I2 q2) fun fv s3 ⟨z, H3, I3, rz, ov, g, q3⟩ => Calls.spliced_nil ?_))))
 exact d_get2 hu I3 g ry rz fun w' s4 I4 rw' => ⟨_, H3, I4, rw', q3⟩
end
section
variable {X : Cx} {pins : List (Addr × Obj)} {σ : St} {H : Hp} {s : Shared} {a : Addr} {kvs : List (Key × V)} {A : Around} {E : Value -> Shared -> Prop}
end
section
variable {X : Cx} {pins : List (Addr × Obj)} {σ : St} {H : Hp} {s : Shared} {a : Addr} {y : V} {u : Value} {A : Around} {E : Value -> Shared -> Prop}
end
section
variable {X : Cx}
end
section
variable {κ : Type} [DecidableEq κ]
end
end L2
set_option maxHeartbeats 4000000
namespace L2
open PySem PySem.Spec PyProof.Rows
def subOf (σ : St) : Option Nat -> Option V
 | none => none
 | some j => (σ[j]?).join
def subSt (sub : List (Option Nat)) (σ : St) : St := sub.map (subOf σ)
theorem subSt_len (sub : List (Option Nat)) (σ : St) : (subSt sub σ).length = sub.length := by unfold subSt; simp
theorem subSt_get {sub : List (Option Nat)} {σ : St} {i : Nat} {v : V} (h : (subSt sub σ)[i]? = some (some v)) : ∃ j, sub[i]? = some (some j) /\ σ[j]? = some (some v) := by
 unfold subSt at h
 rw [List.getElem?_map] at h
 cases e : sub[i]? with
 | none => rw [e] at h; cases h
 | some o =>
  rw [e] at h
  have h' : subOf σ o = some v := Option.some.inj h
  cases o with
  | none => cases h'
  | some j =>
   refine ⟨j, rfl, ?_⟩
   have h2 : (σ[j]?).join = some v := h'
   cases e2 : σ[j]? with
   | none => rw [e2] at h2; cases h2
   | some w => rw [e2] at h2; exact congrArg some h2
def compOk (N : List Str) (osc sc : Scope) (Nc : List Str) (sub : List (Option Nat)) : Bool :=
 decide (sc.kind = .function) && sc.names.all (fun y => decide (y.2 ≠ .cell)) && sc.names.all (fun y => !decide (y.2 = .local) || decide (sc.names.lookup y.1 = some .local)) && decide (sub.length = Nc.length) &&
 (Nc.zip sub).all (fun p => match p.2 with | none => true | some j => decide (N[j]? = some p.1) && decide (sc.names.lookup p.1 = some .free)) &&
 sc.names.all (fun y => !decide (y.2 = .free) || (decide (osc.names.lookup y.1 = some .cell) || decide (osc.names.lookup y.1 = some .free)))
structure CompScope (N : List Str) (osc sc : Scope) (Nc : List Str) (sub : List (Option Nat)) : Prop where
 kind : sc.kind = .function
 nocell : ∀ y ∈ sc.names, y.2 ≠ .cell
 names : ∀ y ∈ sc.names, y.2 = .local -> sc.names.lookup y.1 = some .local
 len : sub.length = Nc.length
 vis : ∀ (i j : Nat) (x : Str), Nc[i]? = some x -> sub[i]? = some (some j) -> N[j]? = some x /\ sc.names.lookup x = some .free
 frees : ∀ y ∈ sc.names, y.2 = .free -> osc.names.lookup y.1 = some .cell \/ osc.names.lookup y.1 = some .free
theorem CompScope.of {N : List Str} {osc sc : Scope} {Nc : List Str} {sub : List (Option Nat)} (h : compOk N osc sc Nc sub = true) : CompScope N osc sc Nc sub := by
 unfold compOk at h
 simp only [Bool.and_eq_true, List.all_eq_true, decide_eq_true_eq, Bool.or_eq_true, Bool.not_eq_true', decide_eq_false_iff_not] at h
 obtain ⟨⟨⟨⟨⟨h1, h2⟩, h3⟩, h4⟩, h5⟩, h6⟩ := h
 refine ⟨h1, h2, fun y hy e => (h3 y hy).elim (fun z => absurd e z) id, h4, fun i j x e1 e2 => ?_, fun y hy e => (h6 y hy).elim (fun z => absurd e z) id⟩
 have hz : (Nc.zip sub)[i]? = some (x, some j) := by
  rw [List.getElem?_zip_eq_some]
  exact ⟨e1, e2⟩
 have q := h5 (x, some j) (List.mem_of_getElem? hz)
 simp only [Bool.and_eq_true, decide_eq_true_eq] at q
 exact q
def clOf (cells : List (Str × Addr)) : List (Str × NameKind) -> List (Str × Addr) -> List (Str × Addr)
 | [], acc => acc
 | (n, k) :: r, acc => clOf cells r (if k = .free then (n, (cells.lookup n).getD 0) :: acc else acc)
theorem closureFor_go : ∀ (names : List (Str × NameKind)) (acc : List (Str × Addr)), (∀ y ∈ names, y.2 = .free -> ∃ c, env.cells.lookup y.1 = some c) ->
  (forIn names acc fun x r => match x with | (name, kind) => if (kind == NameKind.free) = true then do let a <- cellOf env name; pure (ForInStep.yield ((name, a) :: r)) else pure (ForInStep.yield r) : Sem (List (Str × Addr))) = pure (clOf env.cells names acc) := by
 intro names
 induction names with
 | nil => intro acc _; rfl
 | cons y r ih =>
  intro acc h
  obtain ⟨n, k⟩ := y
  have ih' := ih (if k = .free then (n, (env.cells.lookup n).getD 0) :: acc else acc) fun y hy => h y (List.mem_cons_of_mem _ hy)
  rw [List.forIn_cons]
  by_cases hk : k = .free
  ·subst hk
   obtain ⟨c, hc⟩ := h (n, .free) List.mem_cons_self rfl
   have e1 : cellOf env n = pure c := by unfold cellOf; rw [hc]
   simp only [beq_self_eq_true, if_true, e1, pure_bind]
   unfold clOf
   rw [hc] at ih' ⊢
   simpa using ih'
  ·have hb : (k == NameKind.free) = false := by simpa using hk
   simp only [hb, Bool.false_eq_true, if_false, pure_bind]
   unfold clOf
   rw [if_neg hk] at ih' ⊢
   exact ih'
theorem clOf_mem : ∀ (names : List (Str × NameKind)) (acc : List (Str × Addr)), (∀ y ∈ names, y.2 = .free -> ∃ c, cells.lookup y.1 = some c) -> (∀ p ∈ acc, cells.lookup p.1 = some p.2) ->
  ∀ p ∈ clOf cells names acc, cells.lookup p.1 = some p.2 := by
 intro names
 induction names with
 | nil => intro acc _ h; exact h
 | cons y r ih =>
  intro acc h ha
  obtain ⟨n, k⟩ := y
  refine ih _ (fun y hy => h y (List.mem_cons_of_mem _ hy)) ?_
  by_cases hk : k = .free
  ·rw [if_pos hk]
   intro p hp
   rcases List.mem_cons.mp hp with e | e
   ·subst e
    obtain ⟨c, hc⟩ := h (n, k) List.mem_cons_self hk
    show cells.lookup n = some ((cells.lookup n).getD 0)
    have hc' : cells.lookup n = some c := hc
    rw [hc']; rfl
   ·exact ha p e
  ·rw [if_neg hk]; exact ha
theorem clOf_keep  : ∀ (names : List (Str × NameKind)) (acc : List (Str × Addr)), p ∈ acc -> p ∈ clOf cells names acc := by
 intro names
 induction names with
 | nil => intro acc h; exact h
 | cons y r ih =>
  intro acc h
  obtain ⟨n, k⟩ := y
  refine ih _ ?_
  by_cases hk : k = .free
  ·rw [if_pos hk]; exact List.mem_cons_of_mem _ h
  ·rw [if_neg hk]; exact h
theorem clOf_has  : ∀ (names : List (Str × NameKind)) (acc : List (Str × Addr)), (x, NameKind.free) ∈ names -> ∃ c, (x, c) ∈ clOf cells names acc := by
 intro names
 induction names with
 | nil => intro acc h; cases h
 | cons y r ih =>
  intro acc h
  obtain ⟨n, k⟩ := y
  rcases List.mem_cons.mp h with e | e
  ·cases e
   refine ⟨(cells.lookup x).getD 0, ?_⟩
   unfold clOf
   refine clOf_keep _ _ ?_
   rw [if_pos rfl]
   exact List.mem_cons_self
  ·exact ih _ e
theorem lookup_of_mem {α : Type} {x : Str} {c : α} : ∀ {l : List (Str × α)}, (x, c) ∈ l -> ∃ d, l.lookup x = some d
 | [], h => by cases h
 | (y, d) :: r, h => by
  by_cases e : x = y
  ·subst e; exact ⟨d, by simp [List.lookup]⟩
  ·have hb : (x == y) = false := beq_eq_false_iff_ne.mpr e
   rcases List.mem_cons.mp h with q | q
   ·cases q; exact absurd rfl e
   ·obtain ⟨d', q'⟩ := lookup_of_mem q
    exact ⟨d', by simp only [List.lookup, hb]; exact q'⟩
theorem closureFor_some  (h : ∀ y ∈ scope.names, y.2 = .free -> ∃ c, env.cells.lookup y.1 = some c) :
  ∃ cl, closureFor scope env = pure cl /\ (∀ x c, cl.lookup x = some c -> env.cells.lookup x = some c) /\ ∀ x, scope.names.lookup x = some .free -> ∃ c, cl.lookup x = some c := by
 refine ⟨clOf env.cells scope.names [], ?_, fun x c e => ?_, fun x e => ?_⟩
 ·unfold closureFor
  show (forIn scope.names ([] : List (Str × Addr)) (fun x r => match x with | (name, kind) => if (kind == NameKind.free) = true then do let a <- cellOf env name; pure (ForInStep.yield ((name, a) :: r)) else pure (ForInStep.yield r)) >>= fun cs => pure cs : Sem (List (Str × Addr))) = _
  rw [closureFor_go scope.names [] h, pure_bind]
 ·exact clOf_mem scope.names [] h (fun p hp => nomatch hp) (x, c) (PySem.mem_of_lookup e)
 ·obtain ⟨c, hc⟩ := clOf_has (cells := env.cells) scope.names [] (PySem.mem_of_lookup e)
  exact lookup_of_mem hc
theorem lookup_relabel_free {env : Env} : ∀ {names : List (Str × NameKind)} {x : Str}, names.lookup x = some .free ->
  (names.map fun (n, k) => if (k == NameKind.free && env.scope.kind == .function && env.kindOf n == some .cell) then (n, NameKind.cell) else (n, k)).lookup x = some .cell \/
  (names.map fun (n, k) => if (k == NameKind.free && env.scope.kind == .function && env.kindOf n == some .cell) then (n, NameKind.cell) else (n, k)).lookup x = some .free
 | [], _, h => by simp at h
 | (n, k) :: r, x, h => by
  have ih := @lookup_relabel_free env r x
  show List.lookup x ((if (k == NameKind.free && env.scope.kind == .function && env.kindOf n == some .cell) = true then (n, NameKind.cell) else (n, k)) :: _) = _ \/ List.lookup x ((if (k == NameKind.free && env.scope.kind == .function && env.kindOf n == some .cell) = true then (n, NameKind.cell) else (n, k)) :: _) = _
  cases hx : x == n with
  | true =>
   simp only [List.lookup_cons, hx] at h
   cases h
   by_cases hc : (NameKind.free == NameKind.free && env.scope.kind == .function && env.kindOf n == some .cell) = true
   ·rw [if_pos hc]; left; simp only [List.lookup_cons, hx]
   ·rw [if_neg hc]; right; simp only [List.lookup_cons, hx]
  | false =>
   simp only [List.lookup_cons, hx] at h
   by_cases hc : (k == NameKind.free && env.scope.kind == .function && env.kindOf n == some .cell) = true
   ·rw [if_pos hc]; simp only [List.lookup_cons, hx]; exact ih h
   ·rw [if_neg hc]; simp only [List.lookup_cons, hx]; exact ih h
theorem relabel_free_of {env : Env} : ∀ {names : List (Str × NameKind)} {x : Str}, (∀ y ∈ names, y.2 ≠ .cell) ->
  ((names.map fun (n, k) => if (k == NameKind.free && env.scope.kind == .function && env.kindOf n == some .cell) then (n, NameKind.cell) else (n, k)).lookup x = some .cell \/
  (names.map fun (n, k) => if (k == NameKind.free && env.scope.kind == .function && env.kindOf n == some .cell) then (n, NameKind.cell) else (n, k)).lookup x = some .free) -> names.lookup x = some .free
 | [], _, _, h => by simp at h
 | (n, k) :: r, x, nc, h => by
  have ih := @relabel_free_of env r x fun y hy => nc y (List.mem_cons_of_mem _ hy)
  have nk : k ≠ .cell := nc (n, k) List.mem_cons_self
  have h' : List.lookup x ((if (k == NameKind.free && env.scope.kind == .function && env.kindOf n == some .cell) = true then (n, NameKind.cell) else (n, k)) :: (r.map fun (n, k) => if (k == NameKind.free && env.scope.kind == .function && env.kindOf n == some .cell) then (n, NameKind.cell) else (n, k))) = some .cell \/ List.lookup x ((if (k == NameKind.free && env.scope.kind == .function && env.kindOf n == some .cell) = true then (n, NameKind.cell) else (n, k)) :: (r.map fun (n, k) => if (k == NameKind.free && env.scope.kind == .function && env.kindOf n == some .cell) then (n, NameKind.cell) else (n, k))) = some .free := h
  clear h
  by_cases hc : (k == NameKind.free && env.scope.kind == .function && env.kindOf n == some .cell) = true
  ·rw [if_pos hc] at h'
   have kf : k = .free := by
    rw [Bool.and_eq_true, Bool.and_eq_true] at hc
    exact beq_iff_eq.mp hc.1.1
   cases hx : x == n with
   | true => simp only [List.lookup_cons, hx]; rw [kf]
   | false => simp only [List.lookup_cons, hx] at h' ⊢; exact ih h'
  ·rw [if_neg hc] at h'
   cases hx : x == n with
   | true =>
    simp only [List.lookup_cons, hx] at h' ⊢
    rcases h' with e | e
    ·exact absurd (Option.some.inj e) nk
    ·exact e
   | false => simp only [List.lookup_cons, hx] at h' ⊢; exact ih h'
def cxComp (X : Cx) (Nc : List Str) (scope : Scope) (cl : List (Str × Addr)) (L : Addr) (s₀ : Shared) (H₀ : Hp) (ex : List Addr) : Cx :=
 { X with N := Nc, s₀ := s₀, H₀ := H₀, env := compEnvC scope cl L X.env, outer := X.stack, ex := ex, fn := fun _ => false, pn := [], xe := fun _ _ => False }
def GKeep (sub : List (Option Nat)) (g : TG) : Prop := ∀ v σ H (Q : St -> Hp -> Prop), g v σ H Q -> g v σ H fun σ2 H2 => Q σ2 H2 /\ ∀ (i j : Nat), sub[i]? = some (some j) -> σ2[i]? = σ[i]?
def GKeeps (sub : List (Option Nat)) (g : TGs) : Prop := ∀ v σ H (Q : St -> Hp -> Prop), g v σ H Q -> g v σ H fun σ2 H2 => Q σ2 H2 /\ ∀ (i j : Nat), sub[i]? = some (some j) -> σ2[i]? = σ[i]?
theorem gk_name  (h : sub[i]? = some none) : GKeep sub (gName i) := fun v σ H Q q => by
 refine ⟨q, fun k j e => ?_⟩
 have ne : i ≠ k := fun z => by subst z; rw [h] at e; cases e
 rw [List.getElem?_set_ne ne]
theorem gks_nil : GKeeps sub gNil := fun _ _ _ _ ⟨e, q⟩ => ⟨e, q, fun _ _ _ => rfl⟩
def GMono (g : TG) : Prop := ∀ v σ H (Q Q' : St -> Hp -> Prop), (∀ σ2 H2, Q σ2 H2 -> Q' σ2 H2) -> g v σ H Q -> g v σ H Q'
def GsMono (g : TGs) : Prop := ∀ v σ H (Q Q' : St -> Hp -> Prop), (∀ σ2 H2, Q σ2 H2 -> Q' σ2 H2) -> g v σ H Q -> g v σ H Q'
theorem gm_name : GMono (gName i) := fun _ _ _ _ _ f q => f _ _ q
theorem gms_nil : GsMono gNil := fun _ _ _ _ _ f ⟨e, q⟩ => ⟨e, f _ _ q⟩
theorem gms_cons  (h1 : GMono t) (h2 : GsMono u) : GsMono (gCons t u) := fun v σ H Q Q' f ⟨x, r, e, q⟩ => ⟨x, r, e, h1 _ _ _ _ _ (fun σ2 H2 z => h2 _ _ _ _ _ f z) q⟩
theorem gks_cons  (h1 : GKeep sub t) (m1 : GMono t) (h2 : GKeeps sub u) (m2 : GsMono u) : GKeeps sub (gCons t u) := fun v σ H Q ⟨x, r, e, q⟩ => by
 refine ⟨x, r, e, ?_⟩
 refine m1 _ _ _ _ _ (fun σ2 H2 z => ?_) (h1 _ _ _ _ q)
 obtain ⟨z, k⟩ := z
 refine m2 _ _ _ _ _ (fun σ3 H3 y => ?_) (h2 _ _ _ _ z)
 exact ⟨y.1, fun i j e => (y.2 i j e).trans (k i j e)⟩
def PIfs (X : Cx) (ifs : List Expr) (t : TT) : Prop :=
 ∀ (pins : List (Addr × Obj)) (s : Shared) (σ : St) (H : Hp) (Q : Bool -> Hp -> Prop), Inv X pins σ H s -> t σ H Q ->
  wpAny (model X.prog X.w) X.A (forIn ifs true fun c r => if r = true then do let ok <- isTrue c X.env (eval c X.env); pure (ForInStep.yield ok) else pure (ForInStep.yield r)) (TP X pins σ Q) X.xe s
def tNoIf : TT := fun _ H Q => Q true H
theorem pif0 : PIfs X [] tNoIf := fun _ _ _ H _ I h => wpAny_tests_nil ⟨H, I, h⟩
def tLWalk (g : TG) (tc : TT) (te : TE) (σc : St) (l : Addr) (J : It) (H1 : Hp) (Q : VK) : Prop :=
 ∃ W : Nat -> Nat -> List V -> Hp -> Prop, (∃ m, W 0 m [] (upd H1 l (.lst []))) /\ ∀ i m xs H2, W i m xs H2 -> H2 l = some (.lst xs) /\
  ((J.stop i H2 /\ Q (.ref l) H2) \/ (J.go i H2 /\ ∃ N : List V -> Hp -> Prop, (∀ xs' H', N xs' H' -> ∃ m', m' < m /\ W (i + 1) m' xs' H') /\
   ∀ x H', J.yld i H2 x H' -> g x σc H' fun σ2 H3 => tc σ2 H3 fun b H4 => if b = true then te σ2 H4 fun y H5 => H5 l = some (.lst xs) /\ xs.length < sizeLine /\ N (xs ++ [y]) (upd H5 l (.lst (xs ++ [y]))) else N xs H4))
def tLComp (sub : List (Option Nat)) (wi : TI) (g : TG) (tc : TT) (te : TE) : TE := fun σ H Q => wi σ H fun J H1 => ∀ l, H1 l = none -> tLWalk g tc te (subSt sub σ) l J H1 Q
section
variable {X : Cx} {pins : List (Addr × Obj)} {σ : St} {H : Hp} {s : Shared} {scope : Scope} {Nc : List Str} {sub : List (Option Nat)} {elt tg iter : Expr} {ifs : List Expr} {pos : Pos} {g : TG} {tc : TT} {te : TE}
theorem cxComp_ok {cl : List (Str × Addr)} {fp : List Addr} {it : Addr} {J : It} {tn : Nat -> Heap -> Prop} (I : Inv X pins σ H s) (hS : CompScope X.N X.env.scope scope Nc sub)
  (hcl : ∀ x c, cl.lookup x = some c -> X.env.cells.lookup x = some c) (hcl2 : ∀ x, scope.names.lookup x = some .free -> ∃ c, cl.lookup x = some c)
  (hf : ∀ b ∈ fp, FpOk X pins H b) (hlt : ∀ b ∈ fp, b < s.heap.objs.size) : (cxComp X Nc scope cl s.heap.objs.size s H fp).Ok where
 mod := I.ok.mod
 kind := hS.kind
 glob := I.ok.glob
 blt := I.ok.blt
 above := Nat.le_refl _
 inj := fun x y c e1 e2 => I.ok.inj x y c (hcl x c e1) (hcl y c e2)
 has := fun x h => hcl2 x (relabel_free_of (env := X.env) hS.nocell h)
 cab := fun x c h => by cases h
 hd := I.ok.hd
 frames := I.ok.frames
 stk := .inl rfl
 exf := fun b hb => ⟨Nat.ne_of_lt (hlt b hb), fun x c e => (hf b hb).2.2.2.2.1 x c (hcl x c e)⟩
 bs := I.bs
 bsz := Nat.le_trans I.ok.bsz I.sz
 noex := fun b o e hb => by
  rcases (hf b hb).2.2.2.1 with z | z
  ·exact I.ok.noex b o e z
  ·exact absurd (Nat.lt_of_lt_of_le (Heap.lt_size e) (Nat.le_trans I.ok.bsz z)) (Nat.lt_irrefl _)
 exfs := fun b hb hq => by
  rcases List.mem_cons.mp (I.stkSub b hq) with z | z
  ·exact (hf b hb).2.1 z
  ·exact (hf b hb).2.2.1 z
 funs := I.stack
 frf := I.stkFree
theorem cxComp_start {cl : List (Str × Addr)} {fp : List Addr} {h1 : Heap} {t' : Nat} {m : Str -> Option Value} (I : Inv X pins σ H s) (hS : CompScope X.N X.env.scope scope Nc sub)
  (hcl : ∀ x c, cl.lookup x = some c -> X.env.cells.lookup x = some c) (hcl2 : ∀ x, scope.names.lookup x = some .free -> ∃ c, cl.lookup x = some c)
  (ok : (cxComp X Nc scope cl s.heap.objs.size s H fp).Ok) (hn : h1.Ns s.heap.objs.size m) (hk : ∀ b o, s.heap.get? b = some o -> h1.get? b = some o) :
  Inv (cxComp X Nc scope cl s.heap.objs.size s H fp) [] (subSt sub σ) H { s with heap := h1, toks := t' } where
 ok := ok
 os := rfl
 bare := I.bare
 base := Un.kept hk
 loc := by
  refine ⟨m, hn, fun i x v e1 e2 _ => ?_⟩
  obtain ⟨j, e3, e4⟩ := subSt_get e2
  obtain ⟨e5, e6⟩ := hS.vis i j x e1 e3
  obtain ⟨m', _, hl⟩ := I.loc
  have hfr : X.env.kindOf x = some .cell \/ X.env.kindOf x = some .free := hS.frees (x, .free) (PySem.mem_of_lookup e6) rfl
  obtain ⟨u, r, l⟩ := hl j x v e5 e4 (.inr hfr)
  refine ⟨u, r, ?_⟩
  rcases l with ⟨k, _⟩ | ⟨_, c, e, z⟩
  ·rcases hfr with q | q
   ·rw [k] at q; cases q
   ·rw [k] at q; cases q
  ·obtain ⟨c', e'⟩ := hcl2 x e6
   have := hcl x c' e'
   rw [e] at this; cases this
   exact .inr ⟨lookup_relabel_free (env := X.env) e6, c, e', z.keeps hk⟩
 cell := fun x c e => by
  obtain ⟨v, z⟩ := I.cell x c (hcl x c e)
  exact ⟨v, z.keeps hk⟩
 free := I.hok.fresh (Nat.le_refl _)
 freeC := fun x c e => I.freeC x c (hcl x c e)
 pin := fun p hp => absurd (show p ∈ ([] : List (Addr × Obj)) from hp) (by simp)
 hok := I.hok.kept hk
 len := (subSt_len sub σ).trans hS.len
theorem cxComp_end {cl : List (Str × Addr)} {fp : List Addr} {pinsC : List (Addr × Obj)} {σc : St} {H' : Hp} {s' : Shared} (I : Inv X pins σ H s) (hf : ∀ b ∈ fp, FpOk X pins H b)
  (J : Inv (cxComp X Nc scope cl s.heap.objs.size s H fp) pinsC σc H' s') : Inv X pins σ H' s' :=
 I.call' (ch := fp) J.os J.base J.hok J.bare fun b hb => ⟨(hf b hb).2.2.2.1, (hf b hb).2.1, (hf b hb).2.2.2.2.1, (hf b hb).2.2.2.2.2⟩
theorem comp_run {cl : List (Str × Addr)} {fp : List Addr} {it : Addr} {J : It} {tn : Nat -> Heap -> Prop} {E : Value -> Shared -> Prop} {Q : VK} {RR : Value -> Addr -> Result -> Shared -> Prop}
  (hc : X.calm = true) (I : Inv X pins σ H s) (hS : CompScope X.N X.env.scope scope Nc sub)
  (hcl : ∀ x c, cl.lookup x = some c -> X.env.cells.lookup x = some c) (hcl2 : ∀ x, scope.names.lookup x = some .free -> ∃ c, cl.lookup x = some c)
  (T : Turn X.prog X.w X.K tg J fp it tn) (st : tn 0 s.heap) (hf : ∀ b ∈ fp, FpOk X pins H b)
  (hg : ∀ cl L s0 H0 ex, PG (cxComp X Nc scope cl L s0 H0 ex) tg g) (gk : GKeep sub g)
  (hi : ∀ cl L s0 H0 ex, PIfs (cxComp X Nc scope cl L s0 H0 ex) ifs tc) (he : ∀ cl L s0 H0 ex, PE (cxComp X Nc scope cl L s0 H0 ex) elt te)
  (gm : GMono g) (q : ∀ l, H l = none -> tLWalk g tc te (subSt sub σ) l J H Q)
  (hRR : ∀ l C H' s' m, Inv X pins σ H' s' -> Q (.ref l) H' -> s'.heap.Ns C m -> s.heap.objs.size <= C -> H' C = none -> RR (.ref l) C (.ok .next) s') :
  wpAny (model X.prog X.w) X.A (newList []) (fun acc s₃ => wpAny (model X.prog X.w) X.A (newFunctionEnv scope X.env.globals cl [] X.env.qual none .none (some X.env)) (fun cenv s₄ =>
   codeAny (model X.prog X.w) X.A (.compStart (.ListComp elt [⟨tg, iter, ifs, 0⟩] scope pos) 0 (.ref it) acc { cenv with scope := relabel scope X.env }) (RR acc cenv.locals) s₄) E s₃) E s := by
 have hlt : ∀ b ∈ fp, b < s.heap.objs.size := fun b hb => let ⟨o, e, _⟩ := T.obj _ _ st b hb; Heap.lt_size e
 have hl0 : H s.heap.objs.size = none := I.hok.fresh (Nat.le_refl _)
 obtain ⟨W, ⟨m0, w0⟩, turn⟩ := q s.heap.objs.size hl0
 refine wpAny_newObj_type ?_
 -- the list is laid
 have I3 : Inv X pins σ (upd H s.heap.objs.size (.lst [])) { s with heap := s.heap.push { cls := .type "list", data := .seq ([] : List Value).toArray }, toks := s.toks } := I.lnew (its := []) .nil (Nat.zero_le _)
 generalize hs3 : ({ s with heap := s.heap.push { cls := .type "list", data := .seq ([] : List Value).toArray }, toks := s.toks } : Shared) = s3 at I3
 have e3 : ({ s with heap := s.heap.push { cls := .type "list", data := .seq ([] : List Value).toArray } } : Shared) = s3 := hs3
 have k3 : ∀ b o, s.heap.get? b = some o -> s3.heap.get? b = some o := fun b o e => by rw [<- hs3]; exact Heap.get?_push_of_some _ e
 have z3 : s.heap.objs.size <= s3.heap.objs.size := by rw [<- hs3]; show _ <= (s.heap.push _).objs.size; rw [Heap.size_push]; exact Nat.le_succ _
 have f3 : ∀ b ∈ fp, FpOk X pins (upd H s.heap.objs.size (.lst [])) b := fun b hb => ⟨by rw [upd_ne (Nat.ne_of_lt (hlt b hb))]; exact (hf b hb).1, (hf b hb).2⟩
 have lt3 : ∀ b ∈ fp, b < s3.heap.objs.size := fun b hb => Nat.lt_of_lt_of_le (hlt b hb) z3
 have st3 : tn 0 s3.heap := T.keep _ _ _ st fun b _ o e => k3 b o e
 refine wpAny_newFunctionEnv hS.nocell (by intro y hy; simp at hy) (fun h₁ hns₁ hsb₁ => ?_) hS.kind
 have k4 : ∀ b o, s3.heap.get? b = some o -> h₁.get? b = some o := fun b o e => hsb₁.extBut b o (Nat.ne_of_lt (Heap.lt_size e)) (Heap.get?_push_of_some _ e)
 have ok4 := cxComp_ok (J := J) (it := it) (tn := tn) I3 hS hcl hcl2 f3 lt3
 have I4 := cxComp_start (t' := s3.toks + ([] : List (Str × Value)).length) I3 hS hcl hcl2 ok4 hns₁ k4
 have st4 : tn 0 h₁ := T.keep _ _ _ st3 fun b _ o e => k4 b o e
 -- what stays true of the iterator's objects
 have stat : ∀ {H' : Hp}, (∀ b ∈ fp, H' b = none) -> ∀ b ∈ fp, FpOk (cxComp X Nc scope cl s3.heap.objs.size s3 (upd H s.heap.objs.size (.lst [])) fp) [] H' b := fun hn b hb =>
  ⟨hn b hb, (ok4.exf b hb).1, ok4.exfs b hb, .inl hb, (ok4.exf b hb).2, fun p hp => absurd (show p ∈ ([] : List (Addr × Obj)) from hp) (by simp)⟩
 have loop : ∀ s₄ : Shared, s₄ = { s3 with heap := h₁, toks := s3.toks + ([] : List (Str × Value)).length } ->
   codeAny (model X.prog X.w) X.A (.compLoop (.ListComp elt [⟨tg, iter, ifs, 0⟩] scope pos) 0 (.ref it) (.ref s.heap.objs.size) (compEnvC scope cl s3.heap.objs.size X.env)) (RR (.ref s.heap.objs.size) s3.heap.objs.size) s₄ := by
  rintro s₄ rfl
  refine codeAny_loop rfl (fun n s' => ∃ i xs H', Inv (cxComp X Nc scope cl s3.heap.objs.size s3 (upd H s.heap.objs.size (.lst [])) fp) [] (subSt sub σ) H' s' /\ tn i s'.heap /\ (∀ b ∈ fp, H' b = none) /\ W i n xs H') ?_ m0
   ⟨0, [], _, I4, st4, fun b hb => (f3 b hb).1, w0⟩
  rintro n s5 ⟨i, xs, H5, I5, st5, fr5, w5⟩
  show wpAny _ X.A ((compTurn (.ListComp elt [⟨tg, iter, ifs, 0⟩] scope pos) 0 (.ref it) (.ref s.heap.objs.size) (compEnvC scope cl s3.heap.objs.size X.env)).onRaise (fun x => do noteFrame x (compEnvC scope cl s3.heap.objs.size X.env); theTreesLotGoes x)) _ _ s5
  refine wpAny_noted ?_
  rw [compTurn_list]
  refine wpAny_bind (wpAny_standAt (wpAny_bind ?_))
  obtain ⟨hl5, w5⟩ := turn i n xs H5 w5
  rcases w5 with ⟨stop, qn⟩ | ⟨go, N, hN, step⟩
  ·refine thn (T.done (cxComp X Nc scope cl s3.heap.objs.size s3 (upd H s.heap.objs.size (.lst [])) fp) rfl rfl rfl hc i [] s5 (subSt sub σ) H5 _ I5 (stat fr5) st5 stop) fun r s6 ⟨hr, I6⟩ => ?_
   subst hr
   obtain ⟨m6, hn6, _⟩ := I6.loc
   exact wpAny_pure (hRR _ _ H5 s6 m6 (cxComp_end I3 f3 I6) qn hn6 z3 I6.free)
  ·refine thn (T.item (cxComp X Nc scope cl s3.heap.objs.size s3 (upd H s.heap.objs.size (.lst [])) fp) rfl rfl rfl hc i [] s5 (subSt sub σ) H5 _ I5 (stat fr5) st5 go) fun r s6 ⟨u, hr, h6⟩ => ?_
   subst hr
   refine wpAny_bind (thn h6 fun _ s7 ⟨x, H7, I7, r7, y7, st7, fr7⟩ => ?_)
   have I7' := I7.pinned (stat fr7) (T.obj _ _ st7)
   have again : ∀ {σ8 : St} {H8 : Hp} {ys : List V} {s8 : Shared}, Inv (cxComp X Nc scope cl s3.heap.objs.size s3 (upd H s.heap.objs.size (.lst [])) fp) ([] ++ pinsAt fp s7.heap) σ8 H8 s8 -> (∀ (i j : Nat), sub[i]? = some (some j) -> σ8[i]? = (subSt sub σ)[i]?) -> N ys H8 ->
     ∃ m, m < n /\ ∃ i xs H', Inv (cxComp X Nc scope cl s3.heap.objs.size s3 (upd H s.heap.objs.size (.lst [])) fp) [] (subSt sub σ) H' s8 /\ tn i s8.heap /\ (∀ b ∈ fp, H' b = none) /\ W i m xs H' := fun {σ8 H8 ys s8} I8 k8 n8 => by
    obtain ⟨m', hm, w8⟩ := hN ys H8 n8
    refine ⟨m', hm, i + 1, ys, H8, ?_, T.keep _ _ _ st7 fun b hb o e => (I8.pin (b, o) (List.mem_append_right _ (List.mem_append_right _ (mem_pinsAt hb e)))).1, fun b hb => ?_, w8⟩
    ·refine I8.unpinned.weak ?_ fun k v e => ?_
     ·rw [I8.len]; exact (subSt_len sub σ).trans hS.len
     ·obtain ⟨j, e1, _⟩ := subSt_get e
      rw [k8 k j e1]; exact e
    ·obtain ⟨o, e, d⟩ := T.obj _ _ st7 b hb
     exact (I8.pin (b, o) (List.mem_append_right _ (List.mem_append_right _ (mem_pinsAt hb e)))).2.1
   refine wpAny_bind (wpAny_mono (hg cl _ s3 _ fp _ s7 (subSt sub σ) H7 x u _ I7' r7 (gk _ _ _ _ (step x H7 y7))) (fun _ s8 ⟨σ8, H8, I8, q8, k8⟩ => ?_) fun _ _ z => False.elim z)
   refine wpAny_bind (wpAny_mono (hi cl _ s3 _ fp _ s8 σ8 H8 _ I8 q8) (fun ok s9 ⟨H9, I9, q9⟩ => ?_) fun _ _ z => False.elim z)
   cases ok with
   | false => exact wpAny_pure ⟨rfl, again I9 k8 q9⟩
   | true =>
    refine wpAny_bind (wpAny_bind (wpAny_mono (he cl _ s3 _ fp _ s9 σ8 H9 _ I9 q9) (fun xv s10 ⟨y, H10, I10, r10, hl10, hz, q10⟩ => ?_) fun _ _ z => False.elim z))
    refine wpAny_bind (wpAny_mono (mt_append (X := (cxComp X Nc scope cl s3.heap.objs.size s3 (upd H s.heap.objs.size (.lst [])) fp)) _ s10 σ8 H10 (.ref s.heap.objs.size) [y] (.ref s.heap.objs.size) [xv] (fun _ H11 => N (xs ++ [y]) H11) I10 rfl (.cons r10 .nil) ⟨_, xs, y, rfl, rfl, hl10, hz, q10⟩) (fun _ s11 ⟨_, H11, I11, _, q11⟩ => ?_) fun _ _ z => False.elim z)
    exact wpAny_pure (wpAny_pure ⟨rfl, again I11 k8 q11⟩)
 exact codeAny_compStart_list (loop _ rfl) (T.self _ 0 _ _ _ st4 (loop _ rfl))
theorem free_cells (I : Inv X pins σ H s) (hS : CompScope X.N X.env.scope scope Nc sub) : ∀ y ∈ scope.names, y.2 = .free -> ∃ c, X.env.cells.lookup y.1 = some c := fun y hy e =>
 I.ok.has y.1 (hS.frees y hy e)
theorem pe_lcomp (hc : X.calm = true) (hS : CompScope X.N X.env.scope scope Nc sub) (hI : PI X tg iter wi)
  (hg : ∀ cl L s0 H0 ex, PG (cxComp X Nc scope cl L s0 H0 ex) tg g) (gk : GKeep sub g) (gm : GMono g)
  (hi : ∀ cl L s0 H0 ex, PIfs (cxComp X Nc scope cl L s0 H0 ex) ifs tc) (he : ∀ cl L s0 H0 ex, PE (cxComp X Nc scope cl L s0 H0 ex) elt te)
  (hs : ∀ x, foldedSetIterable iter X.env x = pure x := by intro _; rfl) : PE X (.ListComp elt [⟨tg, iter, ifs, 0⟩] scope pos) (tLComp sub wi g tc te) := by
 intro pins s σ H Q I h
 obtain ⟨cl, hcl0, hcl, hcl2⟩ := closureFor_some (free_cells I hS)
 rw [eval_ListComp]
 refine wpAny_comprehension_free (use := none) rfl hs hcl0 hS.kind hS.names ?_
 refine thn (hI pins s σ H _ I h) fun xv s1 h1 => thn h1 fun itv s2 h2 => ?_
 obtain ⟨it, fp, tn, J, H2, e, I2, T, st2, f2, q⟩ := h2
 subst e
 refine comp_run hc I2 hS hcl hcl2 T st2 f2 hg gk hi he gm q fun l C H' s' m I' q' hn hC hfr => ?_
 refine ⟨m, hn, fun h' sb => ?_⟩
 have nL : C ≠ X.env.locals := Nat.ne_of_gt (Nat.lt_of_lt_of_le I2.lt hC)
 refine ⟨.ref l, H', ?_, rfl, q'⟩
 exact I'.turned (it := C) (t' := s'.toks) (fun b o hb e => (sb.2 b hb).trans e) hfr nL (.inr (Nat.le_trans I2.sz hC)) (fun x c e z => by
  obtain ⟨v, w⟩ := I2.cell x c e
  exact absurd (Nat.lt_of_lt_of_le w.lt (by rw [z]; exact hC)) (Nat.lt_irrefl _)) fun p hp z =>
  absurd (Nat.lt_of_lt_of_le (Heap.lt_size (I2.pin p hp).1) (by rw [z]; exact hC)) (Nat.lt_irrefl _)
theorem ps_setL   (hc : X.calm = true) (hN : X.N.Nodup) (hiN : X.N[i]? = some y) (hy : X.env.scope.names.lookup y = some .local) (hS : CompScope X.N X.env.scope scope Nc sub) (hI : PI X tg iter wi)
  (hg : ∀ cl L s0 H0 ex, PG (cxComp X Nc scope cl L s0 H0 ex) tg g) (gk : GKeep sub g) (gm : GMono g)
  (hi : ∀ cl L s0 H0 ex, PIfs (cxComp X Nc scope cl L s0 H0 ex) ifs tc) (he : ∀ cl L s0 H0 ex, PE (cxComp X Nc scope cl L s0 H0 ex) elt te)
  (hsw : swapsWith (.ListComp elt [⟨tg, iter, ifs, 0⟩] scope pos) (some (.Name y py)) spos.line X.env = pure true := by rfl)
  (hs : ∀ x, foldedSetIterable iter X.env x = pure x := by intro _; rfl) : PS X (.Assign [.Name y py] (.ListComp elt [⟨tg, iter, ifs, 0⟩] scope pos) spos) (tAsg (tLComp sub wi g tc te) (gName i)) := by
 intro pins s σ H D I h
 obtain ⟨cl, hcl0, hcl, hcl2⟩ := closureFor_some (free_cells I hS)
 rw [exec_Assign_Name_used _ _ _ _ hsw]
 refine wpAny_bind (wpAny_standAt (wpAny_bind ?_))
 show wpAny _ X.A (do let _ <- comprehension (.ListComp elt [⟨tg, iter, ifs, 0⟩] scope pos) scope X.env _ (newList []) false (eval iter X.env) (some (assign (.Name y py) X.env))) _ _ s
 refine wpAny_bind (wpAny_mono (wpAny_comprehension_free (use := some (assign (.Name y py) X.env)) (Q := fun _ s' => SP X pins D .next s') rfl hs hcl0 hS.kind hS.names
  (thn (hI pins s σ H _ I h) fun xv s1 h1 => thn h1 fun itv s2 h2 => ?_)) (fun _ s' hq => wpAny_pure (wpAny_pure hq)) fun _ _ e => e)
 obtain ⟨it, fp, tn, J, H2, e, I2, T, st2, f2, q⟩ := h2
 subst e
 refine comp_run hc I2 hS hcl hcl2 T st2 f2 hg gk hi he gm q fun l C H' s' m I' q' hn hC hfr => ?_
 have nL : C ≠ X.env.locals := Nat.ne_of_gt (Nat.lt_of_lt_of_le I2.lt hC)
 show wpAny _ X.A (assign (.Name y py) X.env (.ref l)) _ _ _
 refine wpAny_assign_Name (store_ok2 I' hN hiN (.inl hy) (v := .ref l) rfl (fun s6 I6 ⟨a, sb6, ha⟩ => ?_) (.inr hy))
 have nA : C ≠ a := fun z => by
  rcases ha with e | e
  ·exact nL (z.trans e)
  ·obtain ⟨v, w⟩ := I2.cell y a e
   exact absurd (Nat.lt_of_lt_of_le w.lt (by rw [<- z]; exact hC)) (Nat.lt_irrefl _)
 refine ⟨m, hn.sameBut sb6 nA, fun h' sb => ?_⟩
 refine ⟨_, H', I6.turned (it := C) (t' := s6.toks) (fun b o hb e => (sb.2 b hb).trans e) hfr nL (.inr (Nat.le_trans I2.sz hC)) (fun x c e z => by
  obtain ⟨v, w⟩ := I2.cell x c e
  exact absurd (Nat.lt_of_lt_of_le w.lt (by rw [z]; exact hC)) (Nat.lt_irrefl _)) (fun p hp z =>
  absurd (Nat.lt_of_lt_of_le (Heap.lt_size (I2.pin p hp).1) (by rw [z]; exact hC)) (Nat.lt_irrefl _)), q'⟩
end
section
variable {X : Cx} {pins : List (Addr × Obj)} {σ : St} {H : Hp} {s : Shared} {scope : Scope} {Nc : List Str} {sub : List (Option Nat)} {elt tg iter tg2 iter2 : Expr} {ifs : List Expr} {pos : Pos} {g g2 : TG} {wi2 : TI} {tc : TT} {te : TE}
end
end L2
set_option maxHeartbeats 1000000
namespace L2
open PySem
end L2
namespace L2
open PySem PyProof.Rows
section
variable {prog : Program} {w : World} {A : Around} {E : Value -> Shared -> Prop} {s : Shared}
variable {a : Addr} {es : Array (Int × Value)} {ep : Nat} {t : SetTable}
end
section
variable {prog : Program} {w : World} {A : Around} {E : Value -> Shared -> Prop} {s : Shared} {it a p : Addr} {es : Array (Int × Value)} {ep : Nat} {t : SetTable} {ord : List (Int × Value)} {i : Nat}
end
section
variable {prog : Program} {w : World} {A : Around} {E : Value -> Shared -> Prop} {s : Shared} {a : Addr}
end
section
variable {prog : Program} {w : World} {A : Around} {R : Result -> Shared -> Prop} {I S : Addr} {fp wr : List Addr} {n : Nat} {P : Nat -> Value -> Prop} {St : Nat -> Heap -> Prop}
end
section
variable {prog : Program} {w : World} {A : Around} {E : Value -> Shared -> Prop} {s : Shared}
end
section
variable {prog : Program} {w : World} {A : Around} {E : Value -> Shared -> Prop} {s : Shared}
end
end L2
namespace L2
open PySem PySem.Spec PyProof.Rows
section
variable {X : Cx}
inductive IsI (K : PySem.W.Frag) (H : Hp) : V -> String -> Bool -> Prop
 | bl_bool (b) : IsI K H (.bl b) "bool" true
 | bl_int (b) : IsI K H (.bl b) "int" true
 | bl_list (b) : IsI K H (.bl b) "list" false
 | bl_tuple (b) : IsI K H (.bl b) "tuple" false
 | bl_str (b) : IsI K H (.bl b) "str" false
 | int_bool (i) : IsI K H (.int i) "bool" false
 | int_int (i) : IsI K H (.int i) "int" true
 | int_list (i) : IsI K H (.int i) "list" false
 | int_tuple (i) : IsI K H (.int i) "tuple" false
 | int_str (i) : IsI K H (.int i) "str" false
 | non_bool : IsI K H .non "bool" false
 | non_int : IsI K H .non "int" false
 | non_list : IsI K H .non "list" false
 | non_tuple : IsI K H .non "tuple" false
 | non_str : IsI K H .non "str" false
 | str_bool (i) : IsI K H (.str i) "bool" false
 | str_int (i) : IsI K H (.str i) "int" false
 | str_list (i) : IsI K H (.str i) "list" false
 | str_tuple (i) : IsI K H (.str i) "tuple" false
 | str_str (i) : IsI K H (.str i) "str" true
 | list_bool (p xs) : SqL K H p xs -> IsI K H (.ref p) "bool" false
 | list_int (p xs) : SqL K H p xs -> IsI K H (.ref p) "int" false
 | list_list (p xs) : SqL K H p xs -> IsI K H (.ref p) "list" true
 | list_tuple (p xs) : SqL K H p xs -> IsI K H (.ref p) "tuple" false
 | list_str (p xs) : SqL K H p xs -> IsI K H (.ref p) "str" false
 | tuple_bool (p xs) : SqT K H p xs -> IsI K H (.ref p) "bool" false
 | tuple_int (p xs) : SqT K H p xs -> IsI K H (.ref p) "int" false
 | tuple_list (p xs) : SqT K H p xs -> IsI K H (.ref p) "list" false
 | tuple_tuple (p xs) : SqT K H p xs -> IsI K H (.ref p) "tuple" true
 | tuple_str (p xs) : SqT K H p xs -> IsI K H (.ref p) "str" false
theorem call_isi : CallR X (.builtin "isinstance") (fun vs H Q => ∃ x T b, vs = [x, .ty T] /\ IsI X.K H x T b /\ Q (.bl b) H) := by
 intro pins s σ H vs us Q I r h
 obtain ⟨x, T, b, rfl, hi, q⟩ := h
 obtain ⟨u, w', rfl, rx, ry⟩ := vals2 r
 cases ry
 have f0 : EP X pins σ Q (.bool b) s := ⟨.bl b, H, I, rfl, q⟩
 have f1 : EP X pins σ Q (.bool b) { s with toks := s.toks + 1 } := ⟨.bl b, H, I.tok _, rfl, q⟩
 cases hi with
 | bl_bool => cases rx; exact IsiPair.bool_bool f0
 | bl_int => cases rx; exact IsiPair.bool_int f0
 | bl_list => cases rx; exact IsiPair.bool_list f1
 | bl_tuple => cases rx; exact IsiPair.bool_tuple f1
 | bl_str => cases rx; exact IsiPair.bool_str f1
 | int_bool => obtain ⟨t, rfl⟩ := rx; exact IsiPair.int_bool f1
 | int_int => obtain ⟨t, rfl⟩ := rx; exact IsiPair.int_int f0
 | int_list => obtain ⟨t, rfl⟩ := rx; exact IsiPair.int_list f1
 | int_tuple => obtain ⟨t, rfl⟩ := rx; exact IsiPair.int_tuple f1
 | int_str => obtain ⟨t, rfl⟩ := rx; exact IsiPair.int_str f1
 | non_bool => cases rx; exact IsiPair.NoneType_bool f1
 | non_int => cases rx; exact IsiPair.NoneType_int f1
 | non_list => cases rx; exact IsiPair.NoneType_list f1
 | non_tuple => cases rx; exact IsiPair.NoneType_tuple f1
 | non_str => cases rx; exact IsiPair.NoneType_str f1
 | str_bool => obtain ⟨t, rfl⟩ := rx; exact IsiPair.str_bool f1
 | str_int => obtain ⟨t, rfl⟩ := rx; exact IsiPair.str_int f1
 | str_list => obtain ⟨t, rfl⟩ := rx; exact IsiPair.str_list f1
 | str_tuple => obtain ⟨t, rfl⟩ := rx; exact IsiPair.str_tuple f1
 | str_str => obtain ⟨t, rfl⟩ := rx; exact IsiPair.str_str f0
 | list_bool p xs h => cases rx; obtain ⟨_, _, ⟨o, n, e, c, _⟩, _⟩ := I.list h; exact IsiPair.list_bool e c f1
 | list_int p xs h => cases rx; obtain ⟨_, _, ⟨o, n, e, c, _⟩, _⟩ := I.list h; exact IsiPair.list_int e c f1
 | list_list p xs h => cases rx; obtain ⟨_, _, ⟨o, n, e, c, _⟩, _⟩ := I.list h; exact IsiPair.list_list e c f0
 | list_tuple p xs h => cases rx; obtain ⟨_, _, ⟨o, n, e, c, _⟩, _⟩ := I.list h; exact IsiPair.list_tuple e c f1
 | list_str p xs h => cases rx; obtain ⟨_, _, ⟨o, n, e, c, _⟩, _⟩ := I.list h; exact IsiPair.list_str e c f1
 | tuple_bool p xs h => cases rx; obtain ⟨_, _, ⟨o, e, c, _⟩, _⟩ := I.tuple h; exact IsiPair.tuple_bool e c f1
 | tuple_int p xs h => cases rx; obtain ⟨_, _, ⟨o, e, c, _⟩, _⟩ := I.tuple h; exact IsiPair.tuple_int e c f1
 | tuple_list p xs h => cases rx; obtain ⟨_, _, ⟨o, e, c, _⟩, _⟩ := I.tuple h; exact IsiPair.tuple_list e c f1
 | tuple_tuple p xs h => cases rx; obtain ⟨_, _, ⟨o, e, c, _⟩, _⟩ := I.tuple h; exact IsiPair.tuple_tuple e c f0
 | tuple_str p xs h => cases rx; obtain ⟨_, _, ⟨o, e, c, _⟩, _⟩ := I.tuple h; exact IsiPair.tuple_str e c f1
theorem bools_at {bs : List Bool} : ∀ {us : List Value}, Vals (bs.map V.bl) us -> ∀ (i : Nat) v, us[i]? = some v -> v = .bool (bs.getD i false) := by
 induction bs with
 | nil => intro us r i v h; cases r; simp at h
 | cons b bs ih =>
  intro us r i v h
  rw [List.map_cons] at r
  cases r with
  | cons r1 r2 =>
   cases i with
   | zero => simp at h; subst h; exact r1
   | succ i => simpa using ih r2 i v (by simpa using h)
theorem range_all (bs : List Bool) : ((List.range bs.length).all fun i => bs.getD i false) = bs.all id := by
 induction bs with
 | nil => rfl
 | cons b bs ih =>
  rw [List.length_cons, List.range_succ_eq_map, List.all_cons, List.all_map, List.all_cons, <- ih]
  rfl
theorem call_allL (hc : X.calm = true) : CallR X (.builtin "all") (fun vs H Q => ∃ (p : Addr) (bs : List Bool), vs = [.ref p] /\ SqL X.K H p (bs.map V.bl) /\ Q (.bl (bs.all id)) H) := by
 intro pins s σ H vs us Q I r h
 obtain ⟨p, bs, rfl, hq, q⟩ := h
 obtain ⟨u, rfl, rx⟩ := vals1 r
 cases rx
 obtain ⟨its, r', pl, hz⟩ := I.list hq
 have hlen := r'.length
 rw [List.length_map] at hlen
 have hp : p < s.heap.objs.size := let ⟨o, n, e, _⟩ := pl; Heap.lt_size e
 refine call_all_walk (wpAny_pyIter_list pl.isList ?_)
 refine ⟨s.heap.objs.size, _, [s.heap.objs.size], _, _, _, fun i => bs.getD i false, rfl, Walks.list (A := X.A.in1) (I.ok.hd hc) _ p (Nat.ne_of_lt hp) its.toArray, ⟨⟨_, Heap.get?_push_size _ rfl, rfl, rfl⟩, pl.isList.push _⟩, fun i v s' Q' E' hP hQ => ?_, fun h' tk hk => ?_⟩
 ·rw [bools_at r' i v (by simpa using hP)]
  exact wpAny_truthy_bool hQ
 ·rw [List.size_toArray, <- hlen, range_all]
  exact ⟨.bl _, H, I.kept fun b o e => hk b o (by simpa using Nat.ne_of_lt (Heap.lt_size e)) (Heap.get?_push_of_some _ e), rfl, q⟩
def CDivW (i j : Int) : Prop := 0 < j /\ j < 2 ^ 64
theorem op_fdivW : OpR X (binaryOp .FloorDiv) (rI CDivW fun i j => .int (i / j)) := opI fun i j _ _ _ _ _ hc q => by
 have hp : (0 : Int) < j := hc.1
 have hl : j.natAbs.log2 < 9000 := by
  have h2 : j < 2 ^ 64 := hc.2
  have h3 : j.natAbs < 2 ^ 64 := by omega
  have h4 : j.natAbs.log2 < 64 := (Nat.log2_lt (by omega)).mpr h3
  omega
 exact floordiv_int (by omega) (by rw [Int.fdiv_eq_ediv_of_nonneg i (by omega)]; exact q) (.inl (PyProof.noPylong_of_log2 hl))
def rGetL (K : PySem.W.Frag) : V -> V -> Hp -> VK -> Prop := fun x y H Q => ∃ (p : Addr) (xs : List V) (j : Nat) (v : V), x = .ref p /\ y = .int j /\ SqL K H p xs /\ xs[j]? = some v /\ Q v H
theorem get_list : PGet X (rGetL X.K) := by
 intro pins s σ H o i ov iv Q I r1 r2 h
 obtain ⟨p, xs, j, v, rfl, rfl, hq, he, q⟩ := h
 cases r1
 obtain ⟨t, rfl⟩ := r2
 obtain ⟨its, r, pl, hz⟩ := I.list hq
 obtain ⟨u, eu, ru⟩ := r.get he
 have hj : j < xs.length := (List.getElem?_eq_some_iff.mp he).1
 have hn := line63
 exact wpAny_getItem_list pl.isList (by omega) (by omega) (by simpa using eu) ⟨v, H, I, ru, q⟩
end
section
variable {P : Program} {w : World} {A : Around} {E : Value -> Shared -> Prop} {s : Shared}
theorem tupNext_some   (ht : s.heap.IsTupleIter it t i) (hl : s.heap.IsTuple t xs) (hx : xs[i]? = some x)
  (q : ∀ h', h'.IsTupleIter it t (i + 1) -> Heap.SameBut it s.heap h' -> Q x { s with heap := h' }) : wpAny (model P w) A (Builtin.SmallTypes.nextOf (.ref it)) Q E s := by
 obtain ⟨o, e, c, d⟩ := id ht
 obtain ⟨ol, el, _, n, dl⟩ := hl
 unfold Builtin.SmallTypes.nextOf
 refine wpAny_bind (wpAny_callSpecial?_slot (name := Str.ofString "__next__") ht.typeIs F.slot_tuple_iterator_next (wpAny_call_entry F.slot_tuple_iterator_next ht.typeIs F.entry_tuple_iterator_next ?_ (F.args_tuple_iterator_next_1 _)))
 show wpAny _ _ (field (.ref it) 0 >>= _) _ _ s; refine wpAny_bind (wpAny_field e d (x := .ref t) rfl ?_)
 show wpAny _ _ (if (Value.ref t == Value.none) = true then _ else _) _ _ s; rw [if_neg (show ¬ ((Value.ref t == Value.none) = true) from Bool.false_ne_true)]
 show wpAny _ _ (field (.ref it) 1 >>= _) _ _ s; refine wpAny_bind (wpAny_field e d (x := .int i 0) rfl ?_)
 show wpAny _ _ (seqItems? (.ref t) >>= _) _ _ s; refine wpAny_bind (wpAny_seqItems el dl ?_)
 simp only [hx, Int.toNat_natCast]
 refine wpAny_bind (wpAny_setField e d (by simp) (wpAny_pure ⟨x, rfl, wpAny_pure (q _ ⟨_, Heap.get?_update_self _ e (Obj.isFreed_of_fields (Obj.data_mapFields d _)), (Obj.cls_mapFields ..).trans c, by rw [Obj.data_mapFields d]; simp [rawInt]⟩ (Heap.SameBut.update ..))⟩))
theorem tupNext_none   (hh : A.handled = none) (ht : s.heap.IsTupleIter it t i) (hl : s.heap.IsTuple t xs) (hx : xs[i]? = none)
  (q : ∀ h' e, Heap.ExtBut it s.heap h' -> (∃ o, h'.get? e = some o /\ o.cls = .type "StopIteration") -> E (.ref e) { s with heap := h' }) : wpAny (model P w) A (Builtin.SmallTypes.nextOf (.ref it)) Q E s := by
 obtain ⟨o, e, c, d⟩ := id ht
 obtain ⟨ol, el, _, n, dl⟩ := hl
 unfold Builtin.SmallTypes.nextOf
 refine wpAny_bind (wpAny_callSpecial?_slot (name := Str.ofString "__next__") ht.typeIs F.slot_tuple_iterator_next (wpAny_call_entry F.slot_tuple_iterator_next ht.typeIs F.entry_tuple_iterator_next ?_ (F.args_tuple_iterator_next_1 _)))
 show wpAny _ _ (field (.ref it) 0 >>= _) _ _ s; refine wpAny_bind (wpAny_field e d (x := .ref t) rfl ?_)
 show wpAny _ _ (if (Value.ref t == Value.none) = true then _ else _) _ _ s; rw [if_neg (show ¬ ((Value.ref t == Value.none) = true) from Bool.false_ne_true)]
 show wpAny _ _ (field (.ref it) 1 >>= _) _ _ s; refine wpAny_bind (wpAny_field e d (x := .int i 0) rfl ?_)
 show wpAny _ _ (seqItems? (.ref t) >>= _) _ _ s; refine wpAny_bind (wpAny_seqItems el dl ?_)
 simp only [hx, Int.toNat_natCast]
 refine wpAny_bind (wpAny_rule (wpAny_bind (wpAny_setField e d (by simp) ?_)))
 show wpAny _ _ (newExc (.type "StopIteration") [] >>= _) _ _ _; refine wpAny_bind ?_
 simp only [newTuple, newExc]
 refine wpAny_bind (wpAny_newObj_type (wpAny_bind (m := firstArgMember _ _) (wpAny_of_eq (a := Value.none) (by first | rfl | (simp only [firstArgMember]; rfl)) (wpAny_newObj_type ?_ (by size_fits)))) (by size_fits))
 simp only [raiseNew]
 refine wpAny_bind (wpAny_handled ?_); first | rw [show A.in1.handled = none from hh] | rw [hh]
 exact wpAny_bind (wpAny_pure (wpAny_throw (q _ _ (((Heap.SameBut.update ..).extBut.push _).push _) ⟨_, Heap.get?_push_size _ rfl, rfl⟩)))
end
theorem draws_tuple  (hh : A.handled = none) (it t : Addr) (hne : t ≠ it) (xs : Array Value) :
  Draws P w A it [it, t] xs.size (fun i v => xs[i]? = some v) (fun i h => h.IsTupleIter it t i /\ h.IsTuple t xs) where
 live := fun _ _ st => let ⟨o, e, _⟩ := st.1; ⟨o, e⟩
 frame := fun _ _ _ st k => ⟨let ⟨o, e, r⟩ := st.1; ⟨o, k it (by simp) o e, r⟩, let ⟨o, e, r⟩ := st.2; ⟨o, k t (by simp) o e, r⟩⟩
 item := fun i s Q E hi st q => tupNext_some st.1 st.2 (x := xs[i]) (by simp [hi]) fun h' a sb => q _ h' s.toks (by simp [hi]) ⟨a, st.2.extBut sb.extBut hne⟩ sb
 done := fun s Q E st q => tupNext_none hh st.1 st.2 (by simp) q
structure ZAp (z a b i j : Addr) (f g : List Addr) : Prop where
 az : a ≠ z
 bz : b ≠ z
 iz : i ≠ z
 jz : j ≠ z
 ab : a ≠ b
 ai : a ≠ i
 aj : a ≠ j
 bi : b ≠ i
 bj : b ≠ j
 ij : i ≠ j
 zf : z ∉ f
 bf : b ∉ f
 jf : j ∉ f
 zg : z ∉ g
 bg : b ∉ g
 ig : i ∉ g
section
variable {P : Program} {w : World} {A : Around} {E : Value -> Shared -> Prop} {s : Shared} {z a b i j : Addr} {f g : List Addr} {n m k : Nat} {F1 F2 : Nat -> Value -> Prop} {S1 S2 : Nat -> Heap -> Prop}
theorem keepBut {h h' : Heap} {c : Addr} {l : List Addr} (sb : Heap.SameBut c h h') (hc : c ∉ l) : ∀ b ∈ l, ∀ o, h.get? b = some o -> h'.get? b = some o := fun b hb o e => sb.extBut b o (fun z => hc (z ▸ hb)) e
theorem zipNext_some {u v : Value} {Q : Value -> Shared -> Prop} (Z : ZAp z a b i j f g) (D1 : Draws P w A i f n F1 S1) (D2 : Draws P w A j g m F2 S2) (hz : IsZip s.heap z a b .none) (ha : IsPair s.heap a (.ref i) (.ref j)) (hb : IsPair s.heap b u v)
  (s1 : S1 k s.heap) (s2 : S2 k s.heap) (k1 : k < n) (k2 : k < m)
  (q : ∀ x y h' tk t, F1 k x -> F2 k y -> t = s.heap.objs.size -> IsZip h' z a b (rawInt t) -> IsPair h' b x y -> S1 (k + 1) h' -> S2 (k + 1) h' -> IsPair h' t x y ->
   (∀ c o, c ≠ z -> c ≠ b -> c ≠ i -> c ≠ j -> s.heap.get? c = some o -> h'.get? c = some o) -> Q (.ref t) { s with heap := h', toks := tk }) :
  wpAny (model P w) A (Builtin.«zip.__next__» ⟨[.ref z], []⟩) (fun fin s' => ∃ v, fin = .done (.ret v) /\ Q v s') E s := by
 show wpAny _ _ (field (.ref z) 2 >>= _) _ _ _; refine wpAny_bind (wpAny_field hz rfl (x := .bool false) rfl ?_)
 show wpAny _ _ (field (.ref z) 3 >>= _) _ _ _; refine wpAny_bind (wpAny_field hz rfl (x := .ref a) rfl (wpAny_bind (wpAny_seqItems ha rfl ?_)))
 show wpAny _ _ (Builtin.SmallTypes.ownedTupleIsFree (.ref z) >>= _) _ _ _; refine wpAny_bind ?_
 unfold Builtin.SmallTypes.ownedTupleIsFree
 refine wpAny_bind (wpAny_field hz rfl (x := .none) rfl (wpAny_pure ?_)); simp only [if_true]
 refine wpAny_bind (wpAny_rule (wpAny_bind (wpAny_field hz rfl (x := .ref b) rfl (wpAny_bind (wpAny_setField_rec hz (by simp) fun h1 z1 e1 => ?_)))))
 replace z1 : IsZip h1 z a b .ellipsis := z1
 refine wpAny_bind ?_; simp only [List.zipIdx_cons, List.zipIdx_nil, List.forIn_cons, List.forIn_nil]
 refine wpAny_bind (wpAny_bind (wpAny_onRaise ?_)); show wpAny _ _ (Builtin.SmallTypes.nextOf (.ref i) >>= _) _ _ _
 have t1 : S1 k h1 := D1.frame _ _ _ s1 (keepBut e1 Z.zf)
 have t2 : S2 k h1 := D2.frame _ _ _ s2 (keepBut e1 Z.zg)
 refine wpAny_bind (D1.item k _ _ _ k1 t1 fun x h2 tk2 px u1 e2 => wpAny_pure ?_)
 have b2 : IsPair h2 b u v := e2.extBut _ _ Z.bi (e1.extBut _ _ Z.bz hb)
 refine wpAny_bind (wpAny_seqItems b2 rfl (wpAny_bind (wpAny_updateSeq_pair b2 fun h3 b3 e3 => ?_)))
 replace b3 : IsPair h3 b x v := b3
 refine wpAny_bind (wpAny_letGo (wpAny_pure ?_))
 refine wpAny_bind (wpAny_bind (wpAny_onRaise ?_)); show wpAny _ _ (Builtin.SmallTypes.nextOf (.ref j) >>= _) _ _ _
 have t3 : S2 k h3 := D2.frame _ _ _ (D2.frame _ _ _ t2 (keepBut e2 Z.ig)) (keepBut e3 Z.bg)
 refine wpAny_bind (D2.item k _ _ _ k2 t3 fun y h4 tk4 py u2 e4 => wpAny_pure ?_)
 have b4 : IsPair h4 b x v := e4.extBut _ _ Z.bj b3
 refine wpAny_bind (wpAny_seqItems b4 rfl (wpAny_bind (wpAny_updateSeq_pair b4 fun h5 b5 e5 => ?_)))
 replace b5 : IsPair h5 b x y := b5
 refine wpAny_bind (wpAny_letGo (wpAny_pure (wpAny_pure (wpAny_bind (wpAny_seqItems b5 rfl (wpAny_bind (wpAny_newTuple ?_)))))))
 have sz : h5.objs.size = s.heap.objs.size := by rw [e5.1, e4.1, e3.1, e2.1, e1.1]
 have z5 : IsZip h5 z a b .ellipsis := e5.extBut _ _ Z.bz.symm (e4.extBut _ _ Z.jz.symm (e3.extBut _ _ Z.bz.symm (e2.extBut _ _ Z.iz.symm z1)))
 have k5 : ∀ c o, c ≠ z -> c ≠ b -> c ≠ i -> c ≠ j -> s.heap.get? c = some o -> h5.get? c = some o := fun c o c1 c2 c3 c4 e => e5.extBut _ _ c2 (e4.extBut _ _ c4 (e3.extBut _ _ c2 (e2.extBut _ _ c3 (e1.extBut _ _ c1 e))))
 have v1 : S1 (k + 1) h5 := D1.frame _ _ _ (D1.frame _ _ _ (D1.frame _ _ _ u1 (keepBut e3 Z.bf)) (keepBut e4 Z.jf)) (keepBut e5 Z.bf)
 have v2 : S2 (k + 1) h5 := D2.frame _ _ _ u2 (keepBut e5 Z.bg)
 have zl : z < h5.objs.size := Heap.lt_size z5
 show wpAny _ _ (Builtin.SmallTypes.ownedTupleHandOut (.ref z) (.ref h5.objs.size) >>= _) _ _ _; refine wpAny_bind ?_
 unfold Builtin.SmallTypes.ownedTupleHandOut
 have z6 : IsZip (h5.push { cls := .type "tuple", data := .seq #[x, y] }) z a b .ellipsis := Heap.get?_push_of_some _ z5
 refine wpAny_bind (wpAny_setField_rec z6 (by simp) fun h7 z7 e7 => ?_)
 replace z7 : IsZip h7 z a b (rawInt h5.objs.size) := z7
 refine wpAny_setField_rec z7 (by simp) fun h8 z8 e8 => ?_
 replace z8 : IsZip h8 z a b (rawInt h5.objs.size) := z8
 have up : ∀ c o, c ≠ z -> h5.get? c = some o -> h8.get? c = some o := fun c o c1 e => e8.extBut _ _ c1 (e7.extBut _ _ c1 (Heap.get?_push_of_some _ e))
 refine wpAny_pure ⟨_, rfl, ?_⟩
 exact q x y h8 _ h5.objs.size px py sz z8 (up _ _ Z.bz b5) (D1.frame _ _ _ v1 fun c hc o e => up c o (fun zz => Z.zf (zz ▸ hc)) e) (D2.frame _ _ _ v2 fun c hc o e => up c o (fun zz => Z.zg (zz ▸ hc)) e)
  (e8.extBut _ _ (Nat.ne_of_gt zl) (e7.extBut _ _ (Nat.ne_of_gt zl) (Heap.get?_push_size _ rfl))) fun c o c1 c2 c3 c4 e => up c o c1 (k5 c o c1 c2 c3 c4 e)
theorem zipNext_none {Q : Fin -> Shared -> Prop} (Z : ZAp z a b i j f g) (D1 : Draws P w A i f n F1 S1) (hz : IsZip s.heap z a b .none) (ha : IsPair s.heap a (.ref i) (.ref j)) (s1 : S1 n s.heap)
  (q : ∀ h' e, (∀ c o, c ≠ z -> c ≠ b -> c ≠ i -> c ≠ j -> s.heap.get? c = some o -> h'.get? c = some o) -> (∃ o, h'.get? e = some o /\ o.cls = .type "StopIteration") -> E (.ref e) { s with heap := h' }) :
  wpAny (model P w) A (Builtin.«zip.__next__» ⟨[.ref z], []⟩) Q E s := by
 show wpAny _ _ (field (.ref z) 2 >>= _) _ _ _; refine wpAny_bind (wpAny_field hz rfl (x := .bool false) rfl ?_)
 show wpAny _ _ (field (.ref z) 3 >>= _) _ _ _; refine wpAny_bind (wpAny_field hz rfl (x := .ref a) rfl (wpAny_bind (wpAny_seqItems ha rfl ?_)))
 show wpAny _ _ (Builtin.SmallTypes.ownedTupleIsFree (.ref z) >>= _) _ _ _; refine wpAny_bind ?_
 unfold Builtin.SmallTypes.ownedTupleIsFree
 refine wpAny_bind (wpAny_field hz rfl (x := .none) rfl (wpAny_pure ?_)); simp only [if_true]
 refine wpAny_bind (wpAny_rule (wpAny_bind (wpAny_field hz rfl (x := .ref b) rfl (wpAny_bind (wpAny_setField_rec hz (by simp) fun h1 z1 e1 => ?_)))))
 replace z1 : IsZip h1 z a b .ellipsis := z1
 refine wpAny_bind ?_; simp only [List.zipIdx_cons, List.zipIdx_nil, List.forIn_cons, List.forIn_nil]
 refine wpAny_bind (wpAny_bind (wpAny_onRaise ?_)); show wpAny _ _ (Builtin.SmallTypes.nextOf (.ref i) >>= _) _ _ _
 refine wpAny_bind (D1.done _ _ _ (D1.frame _ _ _ s1 (keepBut e1 Z.zf)) fun h2 e e2 he => ?_)
 obtain ⟨oe, ho, hc⟩ := he
 have z2 : IsZip h2 z a b .ellipsis := e2 _ _ Z.iz.symm z1
 have ez : e ≠ z := fun x => by subst x; rw [z2] at ho; cases ho; simp at hc
 refine wpAny_setField_rec z2 (by simp) fun h3 _ e3 => q h3 e (fun c o c1 _ c3 _ x => e3.extBut _ _ c1 (e2 _ _ c3 (e1.extBut _ _ c1 x))) ⟨oe, e3.extBut _ _ ez ho, hc⟩
theorem zip_pyNext_some {u v : Value} {Q : Option Value -> Shared -> Prop} (Z : ZAp z a b i j f g) (D1 : Draws P w A.in1 i f n F1 S1) (D2 : Draws P w A.in1 j g m F2 S2) (hz : IsZip s.heap z a b .none) (ha : IsPair s.heap a (.ref i) (.ref j)) (hb : IsPair s.heap b u v)
  (s1 : S1 k s.heap) (s2 : S2 k s.heap) (k1 : k < n) (k2 : k < m)
  (q : ∀ x y h' tk t, F1 k x -> F2 k y -> t = s.heap.objs.size -> IsZip h' z a b (rawInt t) -> IsPair h' b x y -> S1 (k + 1) h' -> S2 (k + 1) h' -> IsPair h' t x y ->
   (∀ c o, c ≠ z -> c ≠ b -> c ≠ i -> c ≠ j -> s.heap.get? c = some o -> h'.get? c = some o) -> Q (some (.ref t)) { s with heap := h', toks := tk }) : wpAny (model P w) A (pyNext (.ref z)) Q E s := by
 have hT : s.TypeIs (.ref z) "zip" := ⟨_, hz, rfl⟩
 unfold pyNext
 exact wpAny_bind (wpAny_attempt (wpAny_callSpecial?_slot (name := Str.ofString "__next__") hT F.slot_zip_next (wpAny_call_entry F.slot_zip_next hT F.entry_zip_next
  (zipNext_some Z D1 D2 hz ha hb s1 s2 k1 k2 fun x y h' tk t a1 a2 a3 a4 a5 a6 a7 a8 a9 => wpAny_pure (q x y h' tk t a1 a2 a3 a4 a5 a6 a7 a8 a9)) (F.args_zip_next_1 _))))
theorem zip_pyNext_none (Z : ZAp z a b i j f g) (D1 : Draws P w A.in1 i f n F1 S1) (hz : IsZip s.heap z a b .none) (ha : IsPair s.heap a (.ref i) (.ref j)) (s1 : S1 n s.heap)
  (q : ∀ h', (∀ c o, c ≠ z -> c ≠ b -> c ≠ i -> c ≠ j -> s.heap.get? c = some o -> h'.get? c = some o) -> Q none { s with heap := h' }) : wpAny (model P w) A (pyNext (.ref z)) Q E s := by
 have hT : s.TypeIs (.ref z) "zip" := ⟨_, hz, rfl⟩
 unfold pyNext
 refine wpAny_bind (wpAny_attempt (wpAny_callSpecial?_slot (name := Str.ofString "__next__") hT F.slot_zip_next (wpAny_call_entry F.slot_zip_next hT F.entry_zip_next (zipNext_none Z D1 hz ha s1 fun h' e hk he => ?_) (F.args_zip_next_1 _))))
 obtain ⟨o, ho, hc⟩ := he
 exact wpAny_bind (wpAny_isInstance (T := "StopIteration") (b := true) ⟨o, ho, hc⟩ isSubtype_stop (wpAny_pure (q _ hk)))
end
section
variable {X : Cx} {pins : List (Addr × Obj)} {σ : St} {H : Hp} {s : Shared} {h' : Heap} {ch : List Addr} {t' : Nat}
theorem Inv.turnedLaid  (I : Inv X pins σ H s) (k : ∀ b u, b ∉ ch -> s.heap.get? b = some u -> h'.get? b = some u) (hf : ∀ b ∈ ch, FpOk X pins H b) (hp : s.heap.objs.size <= a) (new : ObjOk X.prog X.w (upd H a o) h' a o) :
  Inv X pins σ (upd H a o) { s with heap := h', toks := t' } := by
 have hn : H a = none := I.hok.fresh hp
 have nch : ∀ b u, H b = some u -> b ∉ ch := fun b u e z => by rw [(hf b z).1] at e; cases e
 refine I.step (g' := s.gens) (d' := s.drawn) (ch := ch) (fun b hb => ⟨(hf b hb).2.2.2.1, (hf b hb).2.1, (hf b hb).2.2.2.2.1, (hf b hb).2.2.2.2.2⟩) (fun b u _ _ hc e _ => k b u hc e) (fun b u _ _ hc e _ => ⟨u.slots, k b u hc e⟩)
  (fun b u _ e n => by rw [upd_ne (Nat.ne_of_lt (Nat.lt_of_lt_of_le (Heap.lt_size e) hp))]; exact n) (fun b u hc e => ⟨u, k b u hc e⟩) (fun b xs e => by rw [upd_ne (ne_of_none e hn)]; exact e) (fun b u xs e => by rw [upd_ne (ne_of_none e hn)]; exact e)
  (fun b ps e => ⟨#[], by rw [upd_ne (ne_of_none e hn), e]; simp⟩) (fun m hm => ?_) (fun b u e => ?_) I.bare
 ·obtain ⟨o, es, ep, ho, r⟩ := hm
  exact ⟨o, es, ep, k _ o (fun z => (hf _ z).2.1 rfl) ho, r⟩
 ·by_cases hb : b = a
  ·subst hb; rw [upd_same] at e; cases e; exact new
  ·rw [upd_ne hb] at e
   refine (I.hok b u e).stay (fun c v hc q => k c v ?_ q) (fun c q => by rw [upd_ne (ne_of_none q hn)]; exact q) fun c xs q => by rw [upd_ne (ne_of_none q hn)]; exact q
   rcases hc with z | z
   ·rw [z]; exact nch b u e
   ·exact nch c _ z
theorem Inv.turnedAll (I : Inv X pins σ H s) (k : ∀ b u, b ∉ ch -> s.heap.get? b = some u -> h'.get? b = some u) (hf : ∀ b ∈ ch, FpOk X pins H b) : Inv X pins σ H { s with heap := h', toks := t' } := by
 have nch : ∀ b u, H b = some u -> b ∉ ch := fun b u e z => by rw [(hf b z).1] at e; cases e
 refine I.step (g' := s.gens) (d' := s.drawn) (ch := ch) (fun b hb => ⟨(hf b hb).2.2.2.1, (hf b hb).2.1, (hf b hb).2.2.2.2.1, (hf b hb).2.2.2.2.2⟩) (fun b u _ _ hc e _ => k b u hc e) (fun b u _ _ hc e _ => ⟨u.slots, k b u hc e⟩)
  (fun _ _ _ _ n => n) (fun b u hc e => ⟨u, k b u hc e⟩) (fun _ _ e => e) (fun _ _ _ e => e) (fun b ps e => ⟨#[], by rw [e]; simp⟩) (fun m hm => ?_) (fun b u e => ?_) I.bare
 ·obtain ⟨o, es, ep, ho, r⟩ := hm
  exact ⟨o, es, ep, k _ o (fun z => (hf _ z).2.1 rfl) ho, r⟩
 ·refine (I.hok b u e).stay (fun c v hc q => k c v ?_ q) (fun _ q => q) fun _ _ q => q
  rcases hc with z | z
  ·rw [z]; exact nch b u e
  ·exact nch c _ z
end
def SIt (tp : Bool) (h : Heap) (it l : Addr) (k : Nat) : Prop := match tp with | true => h.IsTupleIter it l k | false => h.IsListIter it l k
def SCn (tp : Bool) (h : Heap) (l : Addr) (xs : Array Value) : Prop := match tp with | true => h.IsTuple l xs | false => h.IsList l xs
def SQ (tp : Bool) (K : PySem.W.Frag) (H : Hp) (a : Addr) (xs : List V) : Prop := match tp with | true => SqT K H a xs | false => SqL K H a xs
theorem SIt.obj   (x : SIt tp h it l k) : ∃ o, h.get? it = some o /\ ∀ v, o.data ≠ .cell v := by
 cases tp <;> (obtain ⟨o, e, c, d⟩ := x; exact ⟨o, e, fun v z => by rw [d] at z; cases z⟩)
theorem SIt.keep   (x : SIt tp h it l k) (q : ∀ o, h.get? it = some o -> h'.get? it = some o) : SIt tp h' it l k := by
 cases tp <;> (obtain ⟨o, e, r⟩ := x; exact ⟨o, q o e, r⟩)
theorem SCn.lt   (x : SCn tp h l xs) : l < h.objs.size := by
 cases tp <;> (obtain ⟨o, e, _⟩ := x; exact Heap.lt_size e)
theorem sdraws  (tp : Bool) (hh : A.handled = none) (it l : Addr) (hne : l ≠ it) (xs : Array Value) :
  Draws P w A it [it, l] xs.size (fun i v => xs[i]? = some v) (fun i h => SIt tp h it l i /\ SCn tp h l xs) := by
 cases tp
 ·exact Draws.list hh it l hne xs
 ·exact draws_tuple hh it l hne xs
section
variable {X : Cx} {pins : List (Addr × Obj)} {σ : St} {H : Hp} {s : Shared} {tp : Bool} {a : Addr} {xs ys : List V}
theorem Inv.sq (I : Inv X pins σ H s) (h : SQ tp X.K H a xs) : ∃ its : List Value, Vals xs its /\ SCn tp s.heap a its.toArray /\ xs.length <= sizeLine := by
 cases tp
 ·obtain ⟨its, r, p, z⟩ := I.list h
  exact ⟨its, r, p.isList, z⟩
 ·exact I.tuple h
theorem Inv.sq_inj (I : Inv X pins σ H s) (h : SQ tp X.K H a xs) (h' : SQ tp X.K H a ys) : xs = ys := by
 cases tp
 ·exact I.list_inj h h'
 ·exact I.tuple_inj h h'
end
theorem zap_of (n l m : Nat) (h1 : l < n) (h2 : m < n) : ZAp (n + 4) (n + 2) (n + 3) n (n + 1) [n, l] [n + 1, m] := by
 have e : ∀ {p q : Nat}, p ≠ q -> ∀ {r : Nat}, p ≠ r -> p ∉ [q, r] := fun {p q} h {r} h' z => by
  rcases List.mem_cons.mp z with z | z
  ·exact h z
  ·exact h' (List.mem_singleton.mp z)
 have r : ∀ {p q : Nat}, p < q \/ q < p -> (p : Addr) ≠ q := fun h => h.elim Nat.ne_of_lt fun h => (Nat.ne_of_lt h).symm
 exact ⟨r (by omega), r (by omega), r (by omega), r (by omega), r (by omega), r (by omega), r (by omega), r (by omega), r (by omega), r (by omega), e (r (by omega)) (r (by omega)), e (r (by omega)) (r (by omega)), e (r (by omega)) (r (by omega)), e (r (by omega)) (r (by omega)), e (r (by omega)) (r (by omega)), e (r (by omega)) (r (by omega))⟩
section
variable {P : Program} {w : World} {A : Around} {E : Value -> Shared -> Prop} {s : Shared}
end
section
variable {P : Program} {w : World} {A : Around} {E : Value -> Shared -> Prop} {R : Result -> Shared -> Prop} {s : Shared}
end
section
variable {X : Cx} {pins : List (Addr × Obj)} {σ : St} {H : Hp} {s : Shared} {scope : Scope} {Nc : List Str} {sub : List (Option Nat)} {elt tg iter : Expr} {ifs : List Expr} {pos : Pos} {g : TG} {tc : TT} {te : TE}
end
section
variable {prog : Program} {w : World} {A : Around} {E : Value -> Shared -> Prop} {s : Shared}
end
section
variable {X : Cx}
end
section
variable {X : Cx}
end
section
variable {X : Cx} {o e : Expr} {apos cpos : Pos} {td ty : TE}
end
section
variable {X : Cx} {pins : List (Addr × Obj)} {σ : St} {H : Hp} {s : Shared}
end
section
variable {prog : Program} {w : World} {A : Around} {E : Value -> Shared -> Prop} {s : Shared}
end
section
variable {X : Cx}
end
end L2
namespace HT
open PySem PySem.Spec PyProof.Rows
section
variable {prog : Program} {w : World} {A : Around} {E : Value -> Shared -> Prop} {s : Shared}
theorem getItem_tuple_whole {t sl : Addr} {items : Array Value} {vl vu : Value} {lo hi : Option Int} {Q : Value -> Shared -> Prop} (ht : IsTup s.heap t items) (hs : s.heap.IsSliceOf sl vl vu .none) (pl : IsPart vl lo) (pu : IsPart vu hi)
  (hw : sIx items.size 0 lo = 0 /\ sIx items.size items.size hi = items.size)
  (h : Q (.ref t) s) : wpAny (model prog w) A (getItem (.ref t) (.ref sl)) Q E s := by
 obtain ⟨os, hos, hcs, hds⟩ := id hs
 have hTs : s.TypeIs (.ref sl) "slice" := ⟨os, hos, hcs⟩
 unfold getItem
 try with_reducible refine wpAny_holding ?_
 first | refine wpAny_bind (wpAny_pure ?_) | skip
 refine wpAny_bind (wpAny_sequenceKey ht.typeIs (by decide) ?_)
 refine wpAny_bind (wpAny_callSpecial?_slot (name := Str.ofString "__getitem__") ht.typeIs PyProof.Rows.slot_tuple_getitem
  (wpAny_call_entry PyProof.Rows.slot_tuple_getitem ht.typeIs entry_tuple_getitem ?_ (args_tuple_getitem _ _)))
 show wpAny _ _ (Builtin.Tuple.tupleItemsOf (.ref t) >>= _) _ _ s
 refine wpAny_bind (tupleItemsOf_ ht ?_)
 refine wpAny_bind (wpAny_typeOf hTs ?_)
 rw [if_pos (by decide)]
 refine wpAny_bind (sliceApplied_gen hs pl pu ?_)
 have hyes : ((((sIx items.size 0 lo : Nat) : Int) == 0 && (1 : Int) == 1 && (sIx items.size items.size hi - sIx items.size 0 lo) == items.size) = true) := by
  rw [hw.1, hw.2]; simp
 show wpAny _ _ (if (((sIx items.size 0 lo : Nat) : Int) == 0 && (1 : Int) == 1 && (sIx items.size items.size hi - sIx items.size 0 lo) == items.size) = true then _ else _) _ _ s
 rw [if_pos hyes]
 unfold Builtin.Tuple.tupleIsExact
 refine wpAny_bind (wpAny_bind (wpAny_typeOf ht.typeIs (wpAny_pure ?_)))
 rw [if_pos (by decide)]
 refine wpAny_bind (wpAny_rule ?_)
 exact wpAny_pure ⟨_, rfl, wpAny_pure h⟩
end
end HT
namespace L2
open PySem PySem.Spec PyProof.Rows
section
variable {X : Cx}
end
section
variable {prog : Program} {w : World} {A : Around} {E : Value -> Shared -> Prop} {s : Shared}
theorem draw_list  (hne : t ≠ it) : ∀ (n i : Nat) (s : Shared) (Q : List Value -> Shared -> Prop), s.heap.IsListIter it t i -> s.heap.IsList t items -> i + n <= items.size ->
  (∀ h', h'.IsListIter it t (i + n) -> Heap.SameBut it s.heap h' -> Q ((items.toList.drop i).take n) { s with heap := h' }) -> wpAny (model prog w) A (draw (.ref it) n) Q E s
 | 0, i, s, Q, hit, _, _, hQ => by
  show wpAny _ _ (pure []) Q E s
  exact wpAny_pure (by simpa using hQ s.heap hit (Heap.SameBut.refl ..))
 | n + 1, i, s, Q, hit, ht, hle, hQ => by
  have hlt : i < items.size := by omega
  show wpAny _ _ (pyNext (.ref it) >>= _) Q E s
  refine wpAny_bind (wpAny_pyNext_list_item hit ht (x := items[i]) (by simp [hlt]) fun h₁ hit₁ hs₁ => ?_)
  refine wpAny_bind (wpAny_holding (draw_list hne n (i + 1) _ _ hit₁ (ht.extBut hs₁.extBut hne) (by omega) fun h₂ hit₂ hs₂ => wpAny_pure ?_))
  have hd : items.toList.drop i = items[i] :: items.toList.drop (i + 1) := by simp [List.drop_eq_getElem_cons, hlt]
  have := hQ h₂ (by rw [show i + (n + 1) = i + 1 + n by omega]; exact hit₂) (hs₁.trans hs₂)
  rw [hd, List.take_succ_cons] at this
  exact this
theorem unpackItems_list  (hh : A.handled = none) (ht : s.heap.IsList t items)
  (hQ : ∀ h', Heap.ExtBut s.heap.objs.size s.heap h' -> Q items.toList { s with heap := h' }) : wpAny (model prog w) A (unpackItems (.ref t) items.size none) Q E s := by
 have hlt : t ≠ s.heap.objs.size := by obtain ⟨o, ho, _⟩ := ht; exact Nat.ne_of_lt (Heap.lt_size ho)
 unfold unpackItems
 refine wpAny_bind ?_
 ·unfold notIterableAtAll
  refine wpAny_bind (wpAny_specialOf ht.typeIs slot_list_iter.lookup ?_)
  refine wpAny_pure ?_
  simp only [Bool.false_eq_true, if_false]
  refine wpAny_bind (wpAny_holding (wpAny_pyIter_list ht ?_))
  have ht0 := ht.push { cls := .type "list_iterator", data := .fields #[.ref t, .int 0 0] }
  refine wpAny_bind (wpAny_holding (draw_list hlt items.size 0 _ _ ⟨_, Heap.get?_push_size _ rfl, rfl, rfl⟩ ht0 (by omega) fun h₁ hit₁ hs₁ => ?_))
  have hall : List.take items.size (List.drop 0 items.toList) = items.toList := by
   rw [List.drop_zero]; exact List.take_of_length_le (by simp)
  rw [hall]
  rw [if_neg (by simp)]
  have ht₁ : h₁.IsList t items := ht0.extBut hs₁.extBut hlt
  refine wpAny_bind (wpAny_holding (wpAny_pyNext_list_end hh hit₁ ht₁ (by simp) fun h₂ he₂ => ?_))
  simp only [Option.isSome_none, Bool.false_eq_true, if_false]
  refine wpAny_pure (hQ h₂ fun b o hb e => he₂ b o hb (hs₁.extBut b o hb (Heap.get?_push_of_some _ e)))
theorem assign_Tuple_list  {x1}   (hh : A.handled = none) (ht : s.heap.IsList t items)
  (hn : (assignEach elts env).length = items.size) (hstar : (assignEach elts env).findIdx? (·.1) = none)
  (h : ∀ h', Heap.ExtBut s.heap.objs.size s.heap h' -> wpAny (model prog w) A (assignInOrder ((assignEach elts env).map (·.2)) items.toList) Q E { s with heap := h' }) :
  wpAny (model prog w) A (assign (.Tuple elts x1 pos) env (.ref t)) Q E s := by
 rw [assign_Tuple]
 refine wpAny_bind (wpAny_standAt ?_)
 unfold unpack
 rw [hn, hstar]
 exact wpAny_bind (wpAny_holding (unpackItems_list hh ht h))
end
def gSeq (K : PySem.W.Frag) (n : Nat) (t : TGs) : TG := fun v σ H Q => ∃ a xs, v = .ref a /\ (SqT K H a xs \/ SqL K H a xs) /\ xs.length = n /\ t xs σ H Q
theorem pg_seq    (hc : X.calm = true) (h : PGs X es t)
  (hn : (assignEach es X.env).length = n := by rfl) (hst : (assignEach es X.env).findIdx? (·.1) = none := by rfl) : PG X (.Tuple es k pos) (gSeq X.K n t) := by
 intro pins s σ H v u Q I r hw
 obtain ⟨a, xs, e1, hq, hl, hw⟩ := hw
 rcases hq with hq | hq
 ·exact pg_tup hc h hn hst pins s σ H v u Q I r ⟨a, xs, e1, hq, hl, hw⟩
 ·subst e1
  cases r
  obtain ⟨its, rv, ht, hz⟩ := I.list hq
  refine assign_Tuple_list (I.ok.hd hc) ht.isList (by simp [hn, <- hl, rv.length]) hst fun h' hx => ?_
  have I1 : Inv X pins σ H { s with heap := h' } := I.kept (t' := s.toks) fun b o e => hx b o (Nat.ne_of_lt (Heap.lt_size e)) e
  exact h pins _ σ H xs _ Q I1 (by simpa using rv) hw
theorem gm_seq {K : PySem.W.Frag} {n : Nat} {t : TGs} (h : GsMono t) : GMono (gSeq K n t) := fun v σ H Q Q' f ⟨a, xs, e, s, l, q⟩ => ⟨a, xs, e, s, l, h _ _ _ _ _ f q⟩
theorem gk_seq {K : PySem.W.Frag} {sub : List (Option Nat)} {n : Nat} {t : TGs} (h : GKeeps sub t) : GKeep sub (gSeq K n t) := fun v σ H Q ⟨a, xs, e, s, l, q⟩ => ⟨a, xs, e, s, l, h _ _ _ _ q⟩
section
variable {P : Program} {w : World} {A : Around} {E : Value -> Shared -> Prop} {s : Shared} {z a b i j : Addr} {f g : List Addr} {n m k : Nat} {F1 F2 : Nat -> Value -> Prop} {S1 S2 : Nat -> Heap -> Prop}
theorem zipNext_none2  (Z : ZAp z a b i j f g) (D1 : Draws P w A i f n F1 S1) (D2 : Draws P w A j g m F2 S2) (hz : IsZip s.heap z a b .none) (ha : IsPair s.heap a (.ref i) (.ref j)) (hb : IsPair s.heap b u v)
  (s1 : S1 m s.heap) (s2 : S2 m s.heap) (k1 : m < n)
  (q : ∀ h' tk e, (∀ c o, c ≠ z -> c ≠ b -> c ≠ i -> c ≠ j -> s.heap.get? c = some o -> h'.get? c = some o) -> (∃ o, h'.get? e = some o /\ o.cls = .type "StopIteration") -> E (.ref e) { s with heap := h', toks := tk }) :
  wpAny (model P w) A (Builtin.«zip.__next__» ⟨[.ref z], []⟩) Q E s := by
 show wpAny _ _ (field (.ref z) 2 >>= _) _ _ _; refine wpAny_bind (wpAny_field hz rfl (x := .bool false) rfl ?_)
 show wpAny _ _ (field (.ref z) 3 >>= _) _ _ _; refine wpAny_bind (wpAny_field hz rfl (x := .ref a) rfl (wpAny_bind (wpAny_seqItems ha rfl ?_)))
 show wpAny _ _ (Builtin.SmallTypes.ownedTupleIsFree (.ref z) >>= _) _ _ _; refine wpAny_bind ?_
 unfold Builtin.SmallTypes.ownedTupleIsFree
 refine wpAny_bind (wpAny_field hz rfl (x := .none) rfl (wpAny_pure ?_)); simp only [if_true]
 refine wpAny_bind (wpAny_rule (wpAny_bind (wpAny_field hz rfl (x := .ref b) rfl (wpAny_bind (wpAny_setField_rec hz (by simp) fun h1 z1 e1 => ?_)))))
 replace z1 : IsZip h1 z a b .ellipsis := z1
 refine wpAny_bind ?_; simp only [List.zipIdx_cons, List.zipIdx_nil, List.forIn_cons, List.forIn_nil]
 refine wpAny_bind (wpAny_bind (wpAny_onRaise ?_)); show wpAny _ _ (Builtin.SmallTypes.nextOf (.ref i) >>= _) _ _ _
 have t1 : S1 m h1 := D1.frame _ _ _ s1 (keepBut e1 Z.zf)
 have t2 : S2 m h1 := D2.frame _ _ _ s2 (keepBut e1 Z.zg)
 refine wpAny_bind (D1.item m _ _ _ k1 t1 fun x h2 tk2 px u1 e2 => wpAny_pure ?_)
 have b2 : IsPair h2 b u v := e2.extBut _ _ Z.bi (e1.extBut _ _ Z.bz hb)
 refine wpAny_bind (wpAny_seqItems b2 rfl (wpAny_bind (wpAny_updateSeq_pair b2 fun h3 b3 e3 => ?_)))
 replace b3 : IsPair h3 b x v := b3
 refine wpAny_bind (wpAny_letGo (wpAny_pure ?_))
 refine wpAny_bind (wpAny_bind (wpAny_onRaise ?_)); show wpAny _ _ (Builtin.SmallTypes.nextOf (.ref j) >>= _) _ _ _
 have t3 : S2 m h3 := D2.frame _ _ _ (D2.frame _ _ _ t2 (keepBut e2 Z.ig)) (keepBut e3 Z.bg)
 refine wpAny_bind (D2.done _ _ _ t3 fun h4 e e4 he => ?_)
 obtain ⟨oe, ho, hc⟩ := he
 have z3 : IsZip h3 z a b .ellipsis := e3.extBut _ _ Z.bz.symm (e2.extBut _ _ Z.iz.symm z1)
 have z4 : IsZip h4 z a b .ellipsis := e4 _ _ Z.jz.symm z3
 have ez : e ≠ z := fun x => by subst x; rw [z4] at ho; cases ho; simp at hc
 refine wpAny_setField_rec z4 (by simp) fun h5 _ e5 => q h5 tk2 e (fun c o c1 c2 c3 c4 x => e5.extBut _ _ c1 (e4 _ _ c4 (e3.extBut _ _ c2 (e2.extBut _ _ c3 (e1.extBut _ _ c1 x))))) ⟨oe, e5.extBut _ _ ez ho, hc⟩
theorem zip_pyNext_none2  (Z : ZAp z a b i j f g) (D1 : Draws P w A.in1 i f n F1 S1) (D2 : Draws P w A.in1 j g m F2 S2) (hz : IsZip s.heap z a b .none) (ha : IsPair s.heap a (.ref i) (.ref j)) (hb : IsPair s.heap b u v) (s1 : S1 m s.heap) (s2 : S2 m s.heap) (k1 : m < n)
  (q : ∀ h' tk, (∀ c o, c ≠ z -> c ≠ b -> c ≠ i -> c ≠ j -> s.heap.get? c = some o -> h'.get? c = some o) -> Q none { s with heap := h', toks := tk }) : wpAny (model P w) A (pyNext (.ref z)) Q E s := by
 have hT : s.TypeIs (.ref z) "zip" := ⟨_, hz, rfl⟩
 unfold pyNext
 refine wpAny_bind (wpAny_attempt (wpAny_callSpecial?_slot (name := Str.ofString "__next__") hT F.slot_zip_next (wpAny_call_entry F.slot_zip_next hT F.entry_zip_next (zipNext_none2 Z D1 D2 hz ha hb s1 s2 k1 fun h' tk e hk he => ?_) (F.args_zip_next_1 _))))
 obtain ⟨o, ho, hc⟩ := he
 exact wpAny_bind (wpAny_isInstance (T := "StopIteration") (b := true) ⟨o, ho, hc⟩ isSubtype_stop (wpAny_pure (q _ _ hk)))
end
section
variable {X : Cx}
def rCat3 (K : PySem.W.Frag) : R2 := fun x y H Q => ∃ a b xs ys, x = .ref a /\ y = .ref b /\ SqT K H a xs /\ SqT K H b ys /\ xs.length + ys.length <= sizeLine /\
 (xs = [] -> Q (.ref b) H) /\ (xs ≠ [] -> ys = [] -> Q (.ref a) H) /\ (∀ p, H p = none -> Q (.ref p) (upd H p (.tup (xs ++ ys))))
theorem op_cat3 : OpR X (binaryOp .Add) (rCat3 X.K) := by
 intro pins s σ H x y v u Q I rx ry h
 obtain ⟨a, b, xs, ys, rfl, rfl, ha, hb, hz, q1, q2, q3⟩ := h
 by_cases hx : xs = []
 ·subst hx
  cases rx
  cases ry
  obtain ⟨its, r1, p1, _⟩ := I.tuple ha
  obtain ⟨its2, r2, p2, _⟩ := I.tuple hb
  obtain ⟨⟨cls, dd, data, sl⟩, ho, hc, n, hd⟩ := id p1
  obtain ⟨⟨cls2, dd2, data2, sl2⟩, ho2, hc2, n2, hd2⟩ := id p2
  simp only at hc hd hc2 hd2
  subst hc hd hc2 hd2
  have hi : its = [] := r1.nil_iff.mpr rfl
  exact concat_meets ⟨_, ho, rfl⟩ ⟨_, ho2, rfl⟩ noFill_tuple_add seq_tuple_add PySem.F.slot_tuple_add PySem.F.entry_tuple_add (PySem.F.args_tuple_add_2 _ _)
   (tuple_addW0 a b its.toArray its2.toArray n n2 dd dd2 sl sl2 (by simp [hi])) ⟨ho, ho2, ⟨.ref b, H, I, rfl, q1 rfl⟩⟩
 ·exact op_catT pins s σ H (.ref a) (.ref b) v u Q I rx ry ⟨a, b, xs, ys, rfl, rfl, ha, hb, hx, hz, q2 hx, fun _ p hp => q3 p hp⟩
def rSl3 (K : PySem.W.Frag) : V -> Option Int -> Option Int -> Hp -> VK -> Prop := fun x lo hi H Q => ∃ a xs, x = .ref a /\ SqT K H a xs /\ (cutV xs lo hi = xs -> Q (.ref a) H) /\ ∀ p, H p = none -> Q (.ref p) (upd H p (.tup (cutV xs lo hi)))
theorem sl_tup3 : SlR X (rSl3 X.K) := by
 intro pins s σ H x v vl vu lo hi sl Q I rx hs pl pu h
 obtain ⟨a, xs, rfl, hx, q1, q2⟩ := h
 by_cases hw : HT.sIx xs.length 0 lo = 0 /\ HT.sIx xs.length xs.length hi = xs.length
 ·cases rx
  obtain ⟨its, r, ht, hz⟩ := I.tuple hx
  have hlen : its.toArray.size = xs.length := by rw [List.size_toArray]; exact r.length.symm
  refine ⟨"tuple", _, PyProof.Rows.slot_tuple_getitem.lookup, ht.typeIs, ?_⟩
  refine HT.getItem_tuple_whole ht hs pl pu (by rw [hlen]; exact hw) ?_
  refine ⟨.ref a, H, I, rfl, q1 ?_⟩
  unfold cutV; rw [hw.1, hw.2]; simp
 ·exact sl_tup pins s σ H (.ref a) v vl vu lo hi sl Q I rx hs pl pu ⟨a, xs, rfl, hx, hw, q2⟩
end
end L2
namespace Fd
open PySem L2
inductive D where
 | non | bl (b : Bool) | int (i : Int) | str (x : Str) | tup (xs : List D) | lst (n : Bool) (xs : List D) | box
structure Bk where
 K : PySem.W.Frag
 β : Addr
 H0 : Hp
 G0 : Hp
mutual
def Rep (c : Bk) (G : Hp) : D -> V -> Prop
 | .non, v => v = .non
 | .bl b, v => v = .bl b
 | .int i, v => v = .int i
 | .str x, v => v = .str x
 | .tup xs, v => ∃ a vs, v = .ref a /\ SqT c.K G a vs /\ Reps c G xs vs
 | .lst n xs, v => ∃ a vs, v = .ref a /\ G a = some (.lst vs) /\ (n = true -> c.H0 a = none) /\ Reps c G xs vs
 | .box, v => v = .ref c.β
def Reps (c : Bk) (G : Hp) : List D -> List V -> Prop
 | [], vs => vs = []
 | x :: xs, vs => ∃ v ws, vs = v :: ws /\ Rep c G x v /\ Reps c G xs ws
end
theorem sqT_same   (e : Same H H') (h : SqT K H a xs) : SqT K H' a xs := by
 rcases h with h | h
 ·rcases h with h | ⟨o, h⟩
  ·exact .inl (.inl (e _ _ h))
  ·exact .inl (.inr ⟨o, e _ _ h⟩)
 ·exact .inr h
mutual
theorem Rep.mono  (e : Same G G') : ∀ {d : D} {v : V}, Rep c G d v -> Rep c G' d v
 | .non, _, h => h
 | .bl _, _, h => h
 | .int _, _, h => h
 | .str _, _, h => h
 | .box, _, h => h
 | .tup xs, _, ⟨a, vs, h1, h2, h3⟩ => ⟨a, vs, h1, sqT_same e h2, Reps.mono e h3⟩
 | .lst n xs, _, ⟨a, vs, h1, h2, h4, h3⟩ => ⟨a, vs, h1, e _ _ h2, h4, Reps.mono e h3⟩
theorem Reps.mono  (e : Same G G') : ∀ {ds : List D} {vs : List V}, Reps c G ds vs -> Reps c G' ds vs
 | [], _, h => h
 | _ :: _, _, ⟨v, ws, h1, h2, h3⟩ => ⟨v, ws, h1, Rep.mono e h2, Reps.mono e h3⟩
end
def D.old : D -> D
 | .non => .non
 | .bl b => .bl b
 | .int i => .int i
 | .str x => .str x
 | .box => .box
 | .tup xs => .tup (xs.map D.old)
 | .lst _ xs => .lst false (xs.map D.old)
mutual
/-- handed on to another call -/
theorem Rep.hand  (hk : c.K = c'.K) (hb : c.β = c'.β) : ∀ {d : D} {v : V}, Rep c G d v -> Rep c' G d.old v
 | .non, _, h => by unfold D.old; exact h
 | .bl _, _, h => by unfold D.old; exact h
 | .int _, _, h => by unfold D.old; exact h
 | .str _, _, h => by unfold D.old; exact h
 | .box, _, h => by unfold D.old; show _ = V.ref c'.β; rw [<- hb]; exact h
 | .tup xs, _, ⟨a, vs, h1, h2, h3⟩ => by unfold D.old; exact ⟨a, vs, h1, hk ▸ h2, Reps.hand hk hb h3⟩
 | .lst n xs, _, ⟨a, vs, h1, h2, h4, h3⟩ => by unfold D.old; exact ⟨a, vs, h1, h2, (fun z => by cases z), Reps.hand hk hb h3⟩
theorem Reps.hand  (hk : c.K = c'.K) (hb : c.β = c'.β) : ∀ {ds : List D} {vs : List V}, Reps c G ds vs -> Reps c' G (ds.map D.old) vs
 | [], _, h => h
 | _ :: _, _, ⟨v, ws, h1, h2, h3⟩ => ⟨v, ws, h1, Rep.hand hk hb h2, Reps.hand hk hb h3⟩
end
mutual
/-- and back: what is newer than the inner call is newer than the outer one -/
theorem Rep.back  (hk : c'.K = c.K) (hb : c'.β = c.β) (hn : ∀ a, c'.H0 a = none -> c.H0 a = none) : ∀ {d : D} {v : V}, Rep c' G d v -> Rep c G d v
 | .non, _, h => h
 | .bl _, _, h => h
 | .int _, _, h => h
 | .str _, _, h => h
 | .box, _, h => by show _ = V.ref c.β; rw [<- hb]; exact h
 | .tup xs, _, ⟨a, vs, h1, h2, h3⟩ => ⟨a, vs, h1, hk ▸ h2, Reps.back hk hb hn h3⟩
 | .lst n xs, _, ⟨a, vs, h1, h2, h4, h3⟩ => ⟨a, vs, h1, h2, fun z => hn a (h4 z), Reps.back hk hb hn h3⟩
theorem Reps.back  (hk : c'.K = c.K) (hb : c'.β = c.β) (hn : ∀ a, c'.H0 a = none -> c.H0 a = none) : ∀ {ds : List D} {vs : List V}, Reps c' G ds vs -> Reps c G ds vs
 | [], _, h => h
 | _ :: _, _, ⟨v, ws, h1, h2, h3⟩ => ⟨v, ws, h1, Rep.back hk hb hn h2, Reps.back hk hb hn h3⟩
end
theorem Reps.length  : ∀ {ds : List D} {vs : List V}, Reps c G ds vs -> ds.length = vs.length
 | [], _, h => by cases h; rfl
 | _ :: _, _, ⟨v, ws, h1, _, h3⟩ => by subst h1; simp [Reps.length h3]
theorem Reps.get  : ∀ {ds : List D} {vs : List V} {i : Nat} {d : D}, Reps c G ds vs -> ds[i]? = some d -> ∃ v, vs[i]? = some v /\ Rep c G d v
 | [], _, _, _, _, e => by simp at e
 | _ :: _, _, 0, _, ⟨v, ws, h1, h2, _⟩, e => by subst h1; simp at e; subst e; exact ⟨v, rfl, h2⟩
 | _ :: _, _, i + 1, d, ⟨v, ws, h1, _, h3⟩, e => by subst h1; exact Reps.get (i := i) h3 (by simpa using e)
theorem Reps.append  : ∀ {ds es : List D} {vs ws : List V}, Reps c G ds vs -> Reps c G es ws -> Reps c G (ds ++ es) (vs ++ ws)
 | [], _, _, _, h, k => by cases h; exact k
 | _ :: _, _, _, _, ⟨v, us, h1, h2, h3⟩, k => by subst h1; exact ⟨v, us ++ _, rfl, h2, Reps.append h3 k⟩
theorem Reps.one   (h : Rep c G d v) : Reps c G [d] [v] := ⟨v, [], rfl, h, rfl⟩
theorem Reps.set   (h : Rep c G d v) : ∀ {ds : List D} {vs : List V} (i : Nat), Reps c G ds vs -> Reps c G (ds.set i d) (vs.set i v)
 | [], _, _, k => by cases k; rfl
 | _ :: _, _, 0, ⟨u, us, h1, h2, h3⟩ => by subst h1; exact ⟨v, us, rfl, h, h3⟩
 | _ :: _, _, i + 1, ⟨u, us, h1, h2, h3⟩ => by subst h1; exact ⟨u, us.set i v, rfl, h2, Reps.set h i h3⟩
theorem Reps.take  : ∀ {ds : List D} {vs : List V} (i : Nat), Reps c G ds vs -> Reps c G (ds.take i) (vs.take i)
 | [], _, _, k => by cases k; simp [Reps]
 | _ :: _, _, 0, _ => by simp [Reps]
 | _ :: _, _, i + 1, ⟨u, us, h1, h2, h3⟩ => by subst h1; exact ⟨u, us.take i, rfl, h2, Reps.take i h3⟩
theorem Reps.drop  : ∀ {ds : List D} {vs : List V} (i : Nat), Reps c G ds vs -> Reps c G (ds.drop i) (vs.drop i)
 | [], _, _, k => by cases k; simp [Reps]
 | _ :: _, _, 0, k => k
 | _ :: _, _, i + 1, ⟨u, us, h1, h2, h3⟩ => by subst h1; exact Reps.drop i h3
theorem reps_bools  : ∀ {ns : List Bool} {vs : List V}, Reps c G (ns.map D.bl) vs ↔ vs = ns.map V.bl
 | [], _ => Iff.rfl
 | n :: ns, vs => by
  constructor
  ·rintro ⟨v, ws, h1, h2, h3⟩
   rw [h1, reps_bools.mp h3]
   have : v = V.bl n := h2
   rw [this]; rfl
  ·rintro rfl
   exact ⟨V.bl n, ns.map V.bl, rfl, rfl, reps_bools.mpr rfl⟩
def boxO (cc : Addr) (p r d : Int) : HO := .lst [.ref cc, .int p, .int r, .int d]
structure BoxD (β : Addr) (H G : Hp) : Prop where
 ex : ∃ cc p r d, ∃ ns : List Int, H β = some (boxO cc p r d) /\ 0 <= p /\ 0 <= r /\ 0 <= d /\ d < 2147483629 /\ G cc = some (.lst (ns.map V.int)) /\ ns.length <= 63
 still : G β = none
theorem BoxD.at  (b : BoxD β H G) : ∃ o, H β = some o := by
 obtain ⟨cc, p, r, d, ns, h, _⟩ := b.ex; exact ⟨_, h⟩
def stillO : HO -> Prop
 | .tup _ => True
 | .frz _ _ => True
 | _ => False
structure Stp (β : Addr) (H G H' G' : Hp) : Prop where
 gg : Same G G'
 gh : Same G' H'
 fr : ∀ a o, a ≠ β -> H a = some o -> H' a = some o
 nw : ∀ a, G' a ≠ none -> G a ≠ none \/ H a = none \/ ∃ o, H a = some o /\ stillO o
 bx : BoxD β H' G'
 b0 : H β ≠ none
 bc : ∀ cc p r d, H β = some (boxO cc p r d) -> ∃ p r d, H' β = some (boxO cc p r d)
theorem Stp.refl  (gh : Same G H) (b : BoxD β H G) : Stp β H G H G :=
 ⟨Same.refl _, gh, fun _ _ _ e => e, fun _ e => .inl e, b, fun z => by (obtain ⟨o, h⟩ := b.at; rw [z] at h; cases h), fun _ p r d h => ⟨p, r, d, h⟩⟩
theorem Stp.free  (s : Stp β H G H' G') (h : H' a = none) : H a = none := by
 cases e : H a with
 | none => rfl
 | some o =>
  by_cases z : a = β
  ·obtain ⟨o', h'⟩ := s.bx.at
   rw [z, h'] at h; cases h
  ·rw [s.fr a o z e] at h; cases h
theorem Stp.trans  (s : Stp β H G H1 G1) (t : Stp β H1 G1 H2 G2) : Stp β H G H2 G2 :=
 ⟨s.gg.trans t.gg, t.gh, fun a o n e => t.fr a o n (s.fr a o n e), fun a e => (t.nw a e).elim (s.nw a) fun z => z.elim (fun z => .inr (.inl (s.free z))) fun ⟨o, ho, st⟩ => by
  cases e : H a with
  | none => exact .inr (.inl rfl)
  | some o' =>
   have nb : a ≠ β := fun z => by
    obtain ⟨cc, p, r, d, ns, h, _⟩ := s.bx.ex
    rw [z, h] at ho; cases ho; exact st
   have := s.fr a o' nb e
   rw [ho] at this; cases this
   exact .inr (.inr ⟨o, rfl, st⟩), t.bx, s.b0, fun cc p r d h => by
  obtain ⟨p1, r1, d1, h1⟩ := s.bc cc p r d h
  exact t.bc cc p1 r1 d1 h1⟩
theorem BoxD.new  (b : BoxD β H G)  (hl : H l = none) : BoxD β (upd H l o) G := by
 obtain ⟨cc, p, r, d, ns, h, q⟩ := b.ex
 exact ⟨⟨cc, p, r, d, ns, by rw [upd_ne (ne_of_none h hl)]; exact h, q⟩, b.still⟩
theorem same_upd (gh : Same G H)  (hl : H l = none) : Same G (upd H l o) := fun a u e => by
 rw [upd_ne (ne_of_none (gh a u e) hl)]; exact gh a u e
theorem Stp.own  (gh : Same G H) (b : BoxD β H G)  (hl : H l = none) : Stp β H G (upd H l o) G :=
 ⟨Same.refl _, same_upd gh hl, fun a u _ e => by rw [upd_ne (ne_of_none e hl)]; exact e, fun _ e => .inl e, b.new hl, fun z => by (obtain ⟨o, h⟩ := b.at; rw [z] at h; cases h), fun cc p r d h => ⟨p, r, d, by rw [upd_ne (ne_of_none h hl)]; exact h⟩⟩
theorem none_of_same (gh : Same G H) (hl : H l = none) : G l = none := gh.free hl
theorem Stp.still  (s : Stp β H G H' G')  (h' : H' l = some o) (h0 : H l = none) (hb : l ≠ β) (hg : G' l = none) : Stp β H G H' (upd G' l o) :=
 ⟨s.gg.trans fun a u e => by rw [upd_ne (ne_of_none e hg)]; exact e,
 fun a u e => by
  by_cases z : a = l
  ·subst z; rw [upd_same] at e; rw [h']; exact e
  ·rw [upd_ne z] at e; exact s.gh a u e,
 s.fr, fun a e => by
  by_cases z : a = l
  ·subst z; exact .inr (.inl h0)
  ·rw [upd_ne z] at e; exact s.nw a e,
 ⟨by
   obtain ⟨cc, p, r, d, ns, h, p1, p2, p3, p4, hc, q⟩ := s.bx.ex
   exact ⟨cc, p, r, d, ns, h, p1, p2, p3, p4, by rw [upd_ne (ne_of_none hc hg)]; exact hc, q⟩, by rw [upd_ne (Ne.symm hb)]; exact s.bx.still⟩, s.b0, s.bc⟩
theorem Stp.new  (gh : Same G H) (b : BoxD β H G)  (hl : H l = none) : Stp β H G (upd H l o) (upd G l o) := by
 have hb : l ≠ β := fun z => by obtain ⟨o, h⟩ := b.at; rw [<- z, hl] at h; cases h
 exact (Stp.own gh b hl).still upd_same hl hb (none_of_same gh hl)
theorem same_g  (hg : G l = none) : Same G (upd G l o) := fun a u e => by rw [upd_ne (ne_of_none e hg)]; exact e
inductive Sl where
 | un | val (d : D) | own (xs : List D)
abbrev Env := List Sl
def SlOk (c : Bk) (H G : Hp) : Sl -> Option (Option V) -> Prop
 | .un, _ => True
 | .val d, o => ∃ v, o = some (some v) /\ Rep c G d v
 | .own xs, o => ∃ a vs, o = some (some (.ref a)) /\ H a = some (.lst vs) /\ G a = none /\ c.H0 a = none /\ a ≠ c.β /\ Reps c G xs vs
structure Rel (c : Bk) (ρ : Env) (σ : St) (H G : Hp) : Prop where
 len : ρ.length = σ.length
 stp : Stp c.β c.H0 c.G0 H G
 slot : ∀ (i : Nat) s, ρ[i]? = some s -> SlOk c H G s σ[i]?
 dis : ∀ (i j : Nat) a xs ys, ρ[i]? = some (.own xs) -> ρ[j]? = some (.own ys) -> σ[i]? = some (some (.ref a)) -> σ[j]? = some (some (.ref a)) -> i = j
theorem Rel.gh   (r : Rel c ρ σ H G) : Same G H := r.stp.gh
theorem Rel.bx   (r : Rel c ρ σ H G) : BoxD c.β H G := r.stp.bx
theorem Rel.refl   (r : Rel c ρ σ H G) : Stp c.β H G H G := Stp.refl r.gh r.bx
theorem SlOk.step  (t : Stp c.β H G H' G') : ∀ {s : Sl} {o : Option (Option V)}, SlOk c H G s o -> SlOk c H' G' s o
 | .un, _, _ => trivial
 | .val d, _, ⟨v, h1, h2⟩ => ⟨v, h1, h2.mono t.gg⟩
 | .own xs, _, ⟨a, vs, h1, h2, h3, h4, h5, h6⟩ => ⟨a, vs, h1, t.fr a _ h5 h2, (by
   cases e : G' a with
   | none => rfl
   | some o =>
    rcases t.nw a (by rw [e]; simp) with z | z | ⟨o', z, st⟩
    ·exact absurd h3 z
    ·rw [h2] at z; cases z
    ·rw [h2] at z; cases z; exact st.elim), h4, h5, h6.mono t.gg⟩
theorem Rel.step   (r : Rel c ρ σ H G) (t : Stp c.β H G H' G') : Rel c ρ σ H' G' :=
 ⟨r.len, r.stp.trans t, fun i s e => (r.slot i s e).step t, r.dis⟩
theorem Rel.put    (r : Rel c ρ σ H G) (h : Rep c G d v) : Rel c (ρ.set i (.val d)) (σ.set i (some v)) H G := by
 refine ⟨by simp [r.len], r.stp, fun j s e => ?_, fun j k a xs ys e1 e2 e3 e4 => ?_⟩
 ·by_cases z : i = j
  ·subst z
   have hi : i < ρ.length := by have := (List.getElem?_eq_some_iff.mp e).1; simpa using this
   rw [List.getElem?_set_self hi] at e
   cases e
   exact ⟨v, by rw [List.getElem?_set_self (by rw [<- r.len]; exact hi)], h⟩
  ·rw [List.getElem?_set_ne z] at e ⊢
   exact r.slot j s e
 ·have nj : i ≠ j := fun z => by
   subst z
   have hi : i < ρ.length := by have := (List.getElem?_eq_some_iff.mp e1).1; simpa using this
   rw [List.getElem?_set_self hi] at e1; cases e1
  have nk : i ≠ k := fun z => by
   subst z
   have hi : i < ρ.length := by have := (List.getElem?_eq_some_iff.mp e2).1; simpa using this
   rw [List.getElem?_set_self hi] at e2; cases e2
  rw [List.getElem?_set_ne nj] at e1 e3
  rw [List.getElem?_set_ne nk] at e2 e4
  exact r.dis j k a xs ys e1 e2 e3 e4
theorem Rel.putOwn     (r : Rel c ρ σ H G) (hl : H l = some (.lst vs)) (hg : G l = none) (h0 : c.H0 l = none) (hb : l ≠ c.β) (h : Reps c G xs vs)
  (hn : ∀ (j : Nat) ys, ρ[j]? = some (.own ys) -> σ[j]? ≠ some (some (.ref l))) : Rel c (ρ.set i (.own xs)) (σ.set i (some (.ref l))) H G := by
 refine ⟨by simp [r.len], r.stp, fun j s e => ?_, fun j k a xs' ys e1 e2 e3 e4 => ?_⟩
 ·by_cases z : i = j
  ·subst z
   have hi : i < ρ.length := by have := (List.getElem?_eq_some_iff.mp e).1; simpa using this
   rw [List.getElem?_set_self hi] at e
   cases e
   exact ⟨l, vs, by rw [List.getElem?_set_self (by rw [<- r.len]; exact hi)], hl, hg, h0, hb, h⟩
  ·rw [List.getElem?_set_ne z] at e ⊢
   exact r.slot j s e
 ·by_cases zj : i = j
  ·by_cases zk : i = k
   ·exact zj.symm.trans zk
   ·subst zj
    have hi : i < ρ.length := by have := (List.getElem?_eq_some_iff.mp e1).1; simpa using this
    rw [List.getElem?_set_self (by rw [<- r.len]; exact hi)] at e3
    cases e3
    rw [List.getElem?_set_ne zk] at e2 e4
    exact absurd e4 (hn k ys e2)
  ·by_cases zk : i = k
   ·subst zk
    have hi : i < ρ.length := by have := (List.getElem?_eq_some_iff.mp e2).1; simpa using this
    rw [List.getElem?_set_self (by rw [<- r.len]; exact hi)] at e4
    cases e4
    rw [List.getElem?_set_ne zj] at e1 e3
    exact absurd e3 (hn j xs' e1)
   ·rw [List.getElem?_set_ne zj] at e1 e3
    rw [List.getElem?_set_ne zk] at e2 e4
    exact r.dis j k a xs' ys e1 e2 e3 e4
theorem Rel.write     (r : Rel c ρ σ H G) (hi : ρ[i]? = some (.own xs)) (hs : σ[i]? = some (some (.ref l))) (h : Reps c G ys ws) :
  Rel c (ρ.set i (.own ys)) σ (upd H l (.lst ws)) G := by
 obtain ⟨a, vs, h1, h2, h3, h4, h5, h6⟩ := r.slot i _ hi
 rw [hs] at h1
 cases h1
 have hil : i < ρ.length := (List.getElem?_eq_some_iff.mp hi).1
 refine ⟨by simp [r.len], ⟨r.stp.gg, fun b u e => ?_, fun b u n e => ?_, r.stp.nw, ?_, r.stp.b0, fun cc p q d e => by
  obtain ⟨p', q', d', e'⟩ := r.stp.bc cc p q d e
  exact ⟨p', q', d', by rw [upd_ne (Ne.symm h5)]; exact e'⟩⟩, fun j s e => ?_, fun j k b xs' ys' e1 e2 e3 e4 => ?_⟩
 ·rw [upd_ne (fun z => by rw [z, h3] at e; cases e)]; exact r.gh b u e
 ·rw [upd_ne (fun z => by rw [z, h4] at e; cases e)]; exact r.stp.fr b u n e
 ·obtain ⟨cc, p, q, d, ns, e, z⟩ := r.bx.ex
  exact ⟨⟨cc, p, q, d, ns, by rw [upd_ne (Ne.symm h5)]; exact e, z⟩, r.bx.still⟩
 ·by_cases z : i = j
  ·subst z
   rw [List.getElem?_set_self hil] at e
   cases e
   exact ⟨l, ws, hs, upd_same, h3, h4, h5, h⟩
  ·rw [List.getElem?_set_ne z] at e
   have q := r.slot j s e
   cases s with
   | un => trivial
   | val d => exact q
   | own zs =>
    obtain ⟨b, us, g1, g2, g3⟩ := q
    have nb : b ≠ l := fun y => z (r.dis i j l xs zs hi e hs (by rw [g1, y]))
    exact ⟨b, us, g1, by rw [upd_ne nb]; exact g2, g3⟩
 ·have f : ∀ (m : Nat) zs, (ρ.set i (.own ys))[m]? = some (.own zs) -> ∃ zs', ρ[m]? = some (.own zs') := fun m zs e => by
   by_cases z : i = m
   ·exact ⟨xs, z ▸ hi⟩
   ·rw [List.getElem?_set_ne z] at e; exact ⟨zs, e⟩
  obtain ⟨_, f1⟩ := f j _ e1
  obtain ⟨_, f2⟩ := f k _ e2
  exact r.dis j k b _ _ f1 f2 e3 e4
theorem Rel.freeze    (r : Rel c ρ σ H G) (hi : ρ[i]? = some (.own xs)) : ∃ G', Same G G' /\ Rel c (ρ.set i (.val (.lst true xs))) σ H G' := by
 obtain ⟨a, vs, h1, h2, h3, h4, h5, h6⟩ := r.slot i _ hi
 have hil : i < ρ.length := (List.getElem?_eq_some_iff.mp hi).1
 have sg : Same G (upd G a (.lst vs)) := same_g h3
 refine ⟨upd G a (.lst vs), sg, by simp [r.len], r.stp.still h2 h4 h5 h3, fun j s e => ?_, fun j k b xs' ys' e1 e2 e3 e4 => ?_⟩
 ·by_cases z : i = j
  ·subst z
   rw [List.getElem?_set_self hil] at e
   cases e
   exact ⟨.ref a, h1, a, vs, rfl, upd_same, fun _ => h4, h6.mono sg⟩
  ·rw [List.getElem?_set_ne z] at e
   have q := r.slot j s e
   cases s with
   | un => trivial
   | val d => obtain ⟨v, g1, g2⟩ := q; exact ⟨v, g1, g2.mono sg⟩
   | own zs =>
    obtain ⟨b, us, g1, g2, g3, g4, g5, g6⟩ := q
    have nb : b ≠ a := fun y => z (r.dis i j a xs zs hi e h1 (by rw [g1, y]))
    exact ⟨b, us, g1, g2, by rw [upd_ne nb]; exact g3, g4, g5, g6.mono sg⟩
 ·have f : ∀ (m : Nat) zs, (ρ.set i (.val (.lst true xs)))[m]? = some (.own zs) -> ρ[m]? = some (.own zs) := fun m zs e => by
   by_cases z : i = m
   ·subst z
    rw [List.getElem?_set_self hil] at e; cases e
   ·rw [List.getElem?_set_ne z] at e; exact e
  exact r.dis j k b _ _ (f j _ e1) (f k _ e2) e3 e4
abbrev WE := Env -> (D -> Prop) -> Prop
abbrev WL := Env -> (List D -> Prop) -> Prop
abbrev WT := Env -> (Bool -> Prop) -> Prop
def EMono (W : WE) : Prop := ∀ ρ Q Q', (∀ d, Q d -> Q' d) -> W ρ Q -> W ρ Q'
def LMono (W : WL) : Prop := ∀ ρ Q Q', (∀ d, Q d -> Q' d) -> W ρ Q -> W ρ Q'
def TMono (W : WT) : Prop := ∀ ρ Q Q', (∀ d, Q d -> Q' d) -> W ρ Q -> W ρ Q'
def tD (c : Bk) (W : WE) : TE := fun σ H Q => ∃ ρ G, Rel c ρ σ H G /\ W ρ fun d => ∀ v H' G', Stp c.β H G H' G' -> Rep c G' d v -> Q v H'
def tDs (c : Bk) (W : WL) : TA := fun σ H Q => ∃ ρ G, Rel c ρ σ H G /\ W ρ fun ds => ∀ vs H' G', Stp c.β H G H' G' -> Reps c G' ds vs -> Q vs H'
def tDf (c : Bk) (W : WL) : TE := fun σ H Q => ∃ ρ G, Rel c ρ σ H G /\ W ρ fun ds => ∀ l vs H' G', Stp c.β H G H' G' -> H' l = some (.lst vs) -> G' l = none -> H l = none -> Reps c G' ds vs -> Q (.ref l) H'
def tDt (c : Bk) (W : WT) : TT := fun σ H Q => ∃ ρ G, Rel c ρ σ H G /\ W ρ fun b => ∀ H' G', Stp c.β H G H' G' -> Q b H'
structure DE (X : Cx) (c : Bk) (e : Expr) (W : WE) : Prop where
 mono : EMono W
 pe : PE X e (tD c W)
structure DF (X : Cx) (c : Bk) (e : Expr) (W : WL) : Prop where
 mono : LMono W
 pe : PE X e (tDf c W)
structure DA (X : Cx) (c : Bk) (es : List Expr) (W : WL) : Prop where
 mono : LMono W
 pa : PA X es (tDs c W)
structure DT (X : Cx) (c : Bk) (e : Expr) (W : WT) : Prop where
 mono : TMono W
 pt : PT X e (tDt c W)
section
variable {X : Cx}
theorem pe_imp  (h : PE X e t) (k : ∀ σ H Q, t' σ H Q -> t σ H Q) : PE X e t' := fun pins s σ H Q I q => h pins s σ H Q I (k σ H Q q)
theorem pt_imp  (h : PT X e t) (k : ∀ σ H Q, t' σ H Q -> t σ H Q) : PT X e t' := fun pins s σ H Q I q => h pins s σ H Q I (k σ H Q q)
theorem pa_imp  (h : PA X e t) (k : ∀ σ H Q, t' σ H Q -> t σ H Q) : PA X e t' := fun pos pins s σ H Q I q => h pos pins s σ H Q I (k σ H Q q)
theorem Rel.new0   (r : Rel c ρ σ H G) (h : H l = none) : c.H0 l = none := r.stp.free h
theorem Rel.neβ   (r : Rel c ρ σ H G) (h : H l = none) : l ≠ c.β := fun z => by
 obtain ⟨o, e⟩ := r.bx.at; rw [<- z, h] at e; cases e
@[reducible] def valW (W : WL) : WE := fun ρ Q => W ρ fun xs => Q (.lst true xs)
theorem DF.de  (h : DF X c e W) : DE X c e (valW W) where
 mono := fun ρ Q Q' k q => h.mono ρ _ _ (fun xs z => k _ z) q
 pe := pe_imp h.pe fun σ H Q ⟨ρ, G, r, q⟩ => ⟨ρ, G, r, h.mono ρ _ _ (fun xs z l vs H' G' t hl hg h0 hv =>
  z (.ref l) H' (upd G' l (.lst vs)) (t.still hl h0 (r.neβ h0) hg) ⟨l, vs, rfl, upd_same, fun _ => r.new0 h0, hv.mono (same_g hg)⟩) q⟩
def vW (i : Nat) : WE := fun ρ Q => match ρ[i]? with | some (.val d) => Q d | _ => False
@[reducible] def kW (d : D) : WE := fun _ Q => Q d
theorem dv (i : Nat)  (hN : X.N[i]? = some x := by rfl) (hv : Vis X.env.scope x := by first | exact Or.inl rfl | exact Or.inr (Or.inl rfl) | exact Or.inr (Or.inr rfl))
  (hd : (x == ("__debug__" : Str)) = false := by decide) (hcd : (x == ("__classdict__" : Str)) = false := by decide) : DE X c (.Name x pos) (vW i) where
 mono := fun ρ Q Q' k q => by
  unfold vW at q ⊢
  split at q
  ·exact k _ q
  ·exact q.elim
 pe := pe_imp (pe_var hN hv hd hcd) fun σ H Q ⟨ρ, G, r, q⟩ => by
  unfold vW at q
  split at q
  ·rename_i d e
   obtain ⟨v, h1, h2⟩ := r.slot i _ e
   exact ⟨v, h1, q v H G r.refl h2⟩
  ·exact q.elim
theorem kMono (d : D) : EMono (kW d) := fun _ _ _ k q => k _ q
theorem dk_int   : DE X c (.Constant (.int i) j pos) (kW (.int i)) := ⟨kMono _, pe_imp pe_int fun σ H Q ⟨ρ, G, r, q⟩ => q _ H G r.refl rfl⟩
theorem dk_bl   : DE X c (.Constant (.bool i) j pos) (kW (.bl i)) := ⟨kMono _, pe_imp pe_bl fun σ H Q ⟨ρ, G, r, q⟩ => q _ H G r.refl rfl⟩
theorem dk_non  : DE X c (.Constant .none j pos) (kW .non) := ⟨kMono _, pe_imp pe_non fun σ H Q ⟨ρ, G, r, q⟩ => q _ H G r.refl rfl⟩
theorem dk_str   : DE X c (.Constant (.str i) j pos) (kW (.str i)) := ⟨kMono _, pe_imp pe_str fun σ H Q ⟨ρ, G, r, q⟩ => q _ H G r.refl rfl⟩
abbrev F2 := D -> D -> (D -> Prop) -> Prop
def F2Mono (f : F2) : Prop := ∀ x y Q Q', (∀ d, Q d -> Q' d) -> f x y Q -> f x y Q'
@[reducible] def binW (f : F2) (A B : WE) : WE := fun ρ Q => A ρ fun x => B ρ fun y => f x y Q
def OpD (c : Bk) (f : F2) (r : R2) : Prop := ∀ (H G : Hp) (x y : D) (u v : V) (Q : VK), Same G H -> BoxD c.β H G -> (∀ a, H a = none -> c.H0 a = none) -> Rep c G x u -> Rep c G y v ->
 f x y (fun d => ∀ v H' G', Stp c.β H G H' G' -> Rep c G' d v -> Q v H') -> r u v H Q
theorem bin_read   (fm : F2Mono f) (mA : EMono A) (mB : EMono B) (hr : OpD c f r) (σ : St) (H : Hp) (Q : VK) (h : tD c (binW f A B) σ H Q) : tOp r (tD c A) (tD c B) σ H Q := by
 obtain ⟨ρ, G, R, q⟩ := h
 refine ⟨ρ, G, R, mA ρ _ _ (fun x q1 u H1 G1 t1 e1 => ⟨ρ, G1, R.step t1, mB ρ _ _ (fun y q2 v H2 G2 t2 e2 => ?_) q1⟩) q⟩
 refine hr H2 G2 x y u v Q t2.gh t2.bx (fun a z => R.new0 (t1.free (t2.free z))) (e1.mono t2.gg) e2 (fm x y _ _ (fun d z w H3 G3 t3 e3 => z w H3 G3 ((t1.trans t2).trans t3) e3) q2)
theorem bin_mono  (fm : F2Mono f) (mA : EMono A) (mB : EMono B) : EMono (binW f A B) := fun ρ Q Q' k q => mA ρ _ _ (fun x q1 => mB ρ _ _ (fun y q2 => fm x y _ _ k q2) q1) q
theorem d_bin    (fm : F2Mono f) (ho : OpR X (binaryOp op) r) (hr : OpD c f r) (hA : DE X c a A) (hB : DE X c b B) : DE X c (.BinOp a op b pos) (binW f A B) :=
 ⟨bin_mono fm hA.mono hB.mono, pe_imp (pe_op ho hA.pe hB.pe) fun σ H Q h => bin_read fm hA.mono hB.mono hr σ H Q h⟩
theorem d_cmp    (fm : F2Mono f) (ho : OpR X (compareOp op) r) (hr : OpD c f r) (hA : DE X c a A) (hB : DE X c b B) (hm : behindInMarks op b = false) : DE X c (.Compare a [op] [b] pos) (binW f A B) :=
 ⟨bin_mono fm hA.mono hB.mono, pe_imp (pe_cmpR ho hA.pe hB.pe hm) fun σ H Q h => bin_read fm hA.mono hB.mono hr σ H Q h⟩
def blW (A : WE) : WT := fun ρ Q => A ρ fun d => match d with | .bl b => Q b | _ => False
theorem bl_mono (m : EMono A) : TMono (blW A) := fun ρ Q Q' k q => m ρ _ _ (fun d z => by
 cases d <;> first | exact k _ z | exact z) q
theorem bl_read  (m : EMono A) (σ : St) (H : Hp) (Q : Bool -> Hp -> Prop) (h : tDt c (blW A) σ H Q) : tTest (tD c A) σ H Q := by
 obtain ⟨ρ, G, R, q⟩ := h
 refine ⟨ρ, G, R, m ρ _ _ (fun d z v H1 G1 t e => ?_) q⟩
 cases d with
 | bl b => exact ⟨b, e, z H1 G1 t⟩
 | _ => exact z.elim
theorem d_cmpT    (fm : F2Mono f) (ho : OpR X (compareOp op) r) (hr : OpD c f r) (hA : DE X c a A) (hB : DE X c b B) (hm : behindInMarks op b = false) : DT X c (.Compare a [op] [b] pos) (blW (binW f A B)) :=
 ⟨bl_mono (bin_mono fm hA.mono hB.mono), pt_imp (pt_cmpR ho hA.pe hB.pe hm) fun σ H Q h => by
  obtain ⟨ρ, G, R, q⟩ := bl_read (bin_mono fm hA.mono hB.mono) σ H Q h
  exact bin_read fm hA.mono hB.mono hr σ H _ ⟨ρ, G, R, q⟩⟩
def addD : F2
 | .int i, .int j, Q => Q (.int (i + j))
 | .str a, .str b, Q => a.length + b.length <= 100000 /\ Q (.str (a ++ b))
 | .lst _ xs, .lst _ ys, Q => xs.length + ys.length <= 100000 /\ Q (.lst true (xs ++ ys))
 | .tup xs, .tup ys, Q => xs.length + ys.length <= 100000 /\ Q (.tup (xs ++ ys))
 | _, _, _ => False
def subD : F2
 | .int i, .int j, Q => Q (.int (i - j))
 | _, _, _ => False
def mulD : F2
 | .int i, .int j, Q => CMul i j /\ Q (.int (i * j))
 | .lst _ xs, .int k, Q => (0 <= k /\ k <= 1000 /\ xs.length <= 1000) /\ Q (.lst true (List.replicate k.toNat xs).flatten)
 | _, _, _ => False
def modD : F2
 | .int i, .int j, Q => 0 < j /\ Q (.int (i % j))
 | _, _, _ => False
def powD : F2
 | .int i, .int j, Q => CPow i j /\ Q (.int (i ^ j.toNat))
 | _, _, _ => False
theorem small5 (h : n <= 100000) : n <= sizeLine := Nat.le_trans h (by rw [sizeLine_eq]; decide)
theorem m_add : F2Mono addD := fun x y Q Q' k q => by
 cases x <;> cases y <;> first | exact k _ q | exact ⟨q.1, k _ q.2⟩ | exact q
theorem m_sub : F2Mono subD := fun x y Q Q' k q => by
 cases x <;> cases y <;> first | exact k _ q | exact q
theorem m_mul : F2Mono mulD := fun x y Q Q' k q => by
 cases x <;> cases y <;> first | exact ⟨q.1, k _ q.2⟩ | exact q
theorem m_mod : F2Mono modD := fun x y Q Q' k q => by
 cases x <;> cases y <;> first | exact ⟨q.1, k _ q.2⟩ | exact q
theorem m_pow : F2Mono powD := fun x y Q Q' k q => by
 cases x <;> cases y <;> first | exact ⟨q.1, k _ q.2⟩ | exact q
def rAdd4 (K : PySem.W.Frag) : R2 := fun x y H Q => (rI0 (fun i j => .int (i + j)) x y H Q \/ (∃ i j, x = .str i /\ y = .str j /\ i.length + j.length <= sizeLine /\ Q (.str (i ++ j)) H)) \/ (rCat x y H Q \/ rCat3 K x y H Q)
theorem op_add4 {c : Bk} (hK : c.K = X.K) : OpR X (binaryOp .Add) (rAdd4 c.K) := by rw [hK]; exact (op_add.or op_add_str).or (op_cat.or op_cat3)
theorem od_add : OpD c addD (rAdd4 c.K) := by
 intro H G x y u v Q gh bx h0 rx ry q
 cases x with
 | int i => cases y with
  | int j => cases rx; cases ry; exact .inl (.inl ⟨i, j, rfl, rfl, q _ H G (Stp.refl gh bx) rfl⟩)
  | _ => exact q.elim
 | str i => cases y with
  | str j => cases rx; cases ry; exact .inl (.inr ⟨i, j, rfl, rfl, small5 q.1, q.2 _ H G (Stp.refl gh bx) rfl⟩)
  | _ => exact q.elim
 | lst n xs => cases y with
  | lst m ys =>
   obtain ⟨a, vs, rfl, ha, _, rv⟩ := rx
   obtain ⟨b, ws, rfl, hb, _, rw'⟩ := ry
   refine .inr (.inl ⟨a, b, vs, ws, rfl, rfl, gh _ _ ha, gh _ _ hb, ?_, fun p hp => ?_⟩)
   ·rw [<- rv.length, <- rw'.length]; exact small5 q.1
   ·have hg := none_of_same gh hp
    exact q.2 (.ref p) _ _ (Stp.new gh bx hp) ⟨p, vs ++ ws, rfl, upd_same, fun _ => h0 p hp, (rv.append rw').mono (same_g hg)⟩
  | _ => exact q.elim
 | tup xs => cases y with
  | tup ys =>
   obtain ⟨a, vs, rfl, ha, rv⟩ := rx
   obtain ⟨b, ws, rfl, hb, rw'⟩ := ry
   refine .inr (.inr ⟨a, b, vs, ws, rfl, rfl, sqT_same gh ha, sqT_same gh hb, ?_, fun e => ?_, fun _ e => ?_, fun p hp => ?_⟩)
   ·rw [<- rv.length, <- rw'.length]; exact small5 q.1
   ·subst e
    have : xs = [] := by have := rv.length; simpa using this
    subst this
    exact q.2 (.ref b) H G (Stp.refl gh bx) ⟨b, ws, rfl, hb, rw'⟩
   ·subst e
    have : ys = [] := by have := rw'.length; simpa using this
    subst this
    exact q.2 (.ref a) H G (Stp.refl gh bx) ⟨a, vs, rfl, ha, by simpa using rv⟩
   ·have hg := none_of_same gh hp
    exact q.2 (.ref p) _ _ (Stp.new gh bx hp) ⟨p, vs ++ ws, rfl, SqT.of upd_same, (rv.append rw').mono (same_g hg)⟩
  | _ => exact q.elim
 | _ => exact q.elim
theorem d_add   (hA : DE X c a A) (hB : DE X c b B) (hK : c.K = X.K := by rfl) : DE X c (.BinOp a .Add b pos) (binW addD A B) := d_bin m_add (op_add4 hK) od_add hA hB
theorem od_sub : OpD c subD (rI0 fun i j => .int (i - j)) := by
 intro H G x y u v Q gh bx h0 rx ry q
 cases x with
 | int i => cases y with
  | int j => cases rx; cases ry; exact ⟨i, j, rfl, rfl, q _ H G (Stp.refl gh bx) rfl⟩
  | _ => exact q.elim
 | _ => exact q.elim
theorem d_sub   (hA : DE X c a A) (hB : DE X c b B) : DE X c (.BinOp a .Sub b pos) (binW subD A B) := d_bin m_sub op_sub od_sub hA hB
def rMul2 : R2 := fun x y H Q => rI CMul (fun i j => .int (i * j)) x y H Q \/ rRep x y H Q
theorem od_mul : OpD c mulD rMul2 := by
 intro H G x y u v Q gh bx h0 rx ry q
 cases x with
 | int i => cases y with
  | int j => cases rx; cases ry; exact .inl ⟨i, j, rfl, rfl, q.1, q.2 _ H G (Stp.refl gh bx) rfl⟩
  | _ => exact q.elim
 | lst n xs => cases y with
  | int k =>
   obtain ⟨a, vs, rfl, ha, _, rv⟩ := rx
   cases ry
   obtain ⟨⟨k0, k1, hz⟩, q⟩ := q
   refine .inr ⟨a, k, vs, rfl, rfl, gh _ _ ha, by omega, by omega, ?_, fun p hp => ?_⟩
   ·rw [<- rv.length, sizeLine_eq]
    have h1 : k.toNat <= 1000 := by omega
    have := Nat.mul_le_mul hz h1
    omega
   ·have hg := none_of_same gh hp
    have : ∀ m : Nat, Reps c G (List.replicate m xs).flatten (List.replicate m vs).flatten := fun m => by
     induction m with
     | zero => rfl
     | succ m ih => rw [List.replicate_succ, List.replicate_succ, List.flatten_cons, List.flatten_cons]; exact rv.append ih
    exact q (.ref p) _ _ (Stp.new gh bx hp) ⟨p, _, rfl, upd_same, fun _ => h0 p hp, (this _).mono (same_g hg)⟩
  | _ => exact q.elim
 | _ => exact q.elim
theorem d_mul   (hA : DE X c a A) (hB : DE X c b B) : DE X c (.BinOp a .Mult b pos) (binW mulD A B) := d_bin m_mul (op_mul.or op_rep) od_mul hA hB
theorem od_mod : OpD c modD (rI (fun _ j => 0 < j) fun i j => .int (i % j)) := by
 intro H G x y u v Q gh bx h0 rx ry q
 cases x with
 | int i => cases y with
  | int j => cases rx; cases ry; exact ⟨i, j, rfl, rfl, q.1, q.2 _ H G (Stp.refl gh bx) rfl⟩
  | _ => exact q.elim
 | _ => exact q.elim
theorem d_mod   (hA : DE X c a A) (hB : DE X c b B) : DE X c (.BinOp a .Mod b pos) (binW modD A B) := d_bin m_mod op_mod od_mod hA hB
theorem od_pow : OpD c powD (rI CPow fun i j => .int (i ^ j.toNat)) := by
 intro H G x y u v Q gh bx h0 rx ry q
 cases x with
 | int i => cases y with
  | int j => cases rx; cases ry; exact ⟨i, j, rfl, rfl, q.1, q.2 _ H G (Stp.refl gh bx) rfl⟩
  | _ => exact q.elim
 | _ => exact q.elim
theorem d_pow   (hA : DE X c a A) (hB : DE X c b B) : DE X c (.BinOp a .Pow b pos) (binW powD A B) := d_bin m_pow op_pow od_pow hA hB
def negD : D -> (D -> Prop) -> Prop
 | .int i, Q => Q (.int (-i))
 | _, _ => False
@[reducible] def unW (f : D -> (D -> Prop) -> Prop) (A : WE) : WE := fun ρ Q => A ρ fun x => f x Q
theorem d_neg   (hA : DE X c a A) : DE X c (.UnaryOp .USub a pos) (unW negD A) where
 mono := fun ρ Q Q' k q => hA.mono ρ _ _ (fun x z => by cases x <;> first | exact k _ z | exact z) q
 pe := pe_imp (pe_un un_neg hA.pe) fun σ H Q ⟨ρ, G, r, q⟩ => ⟨ρ, G, r, hA.mono ρ _ _ (fun x z v H' G' t e => by
  cases x with
  | int i => exact ⟨i, e, z _ H' G' t rfl⟩
  | _ => exact z.elim) q⟩
def cmpD (p : Int -> Int -> Bool) : F2
 | .int i, .int j, Q => Q (.bl (p i j))
 | _, _, _ => False
theorem m_cmp (p : Int -> Int -> Bool) : F2Mono (cmpD p) := fun x y Q Q' k q => by
 cases x <;> cases y <;> first | exact k _ q | exact q
theorem od_cmp (p : Int -> Int -> Bool) : OpD c (cmpD p) (rI0 fun i j => .bl (p i j)) := by
 intro H G x y u v Q gh bx h0 rx ry q
 cases x with
 | int i => cases y with
  | int j => cases rx; cases ry; exact ⟨i, j, rfl, rfl, q _ H G (Stp.refl gh bx) rfl⟩
  | _ => exact q.elim
 | _ => exact q.elim
@[reducible] def leD : F2 := cmpD fun i j => decide (i <= j)
@[reducible] def gtD : F2 := cmpD fun i j => decide (j < i)
theorem t_gt   (hA : DE X c a A) (hB : DE X c b B) : DT X c (.Compare a [.Gt] [b] pos) (blW (binW gtD A B)) := d_cmpT (m_cmp _) op_gt (od_cmp _) hA hB (nomark _)
def isN : D -> Bool
 | .non => true
 | _ => false
@[reducible] def isNW (A : WE) : WE := fun ρ Q => A ρ fun x => Q (.bl (isN x))
theorem isN_rep   (h : Rep c G d v) : decide (v = V.non) = isN d := by
 cases d with
 | non => have : v = V.non := h; subst this; rfl
 | bl b => have : v = V.bl b := h; subst this; rfl
 | int b => have : v = V.int b := h; subst this; rfl
 | str b => have : v = V.str b := h; subst this; rfl
 | box => have : v = V.ref c.β := h; subst this; rfl
 | tup xs => obtain ⟨a, vs, rfl, _⟩ := h; rfl
 | lst n xs => obtain ⟨a, vs, rfl, _⟩ := h; rfl
theorem isN_mono (m : EMono A) : EMono (isNW A) := fun ρ Q Q' k q => m ρ _ _ (fun x z => k _ z) q
theorem d_isN   (hA : DE X c a A) : DE X c (.Compare a [.Is] [.Constant .none j pos'] pos) (isNW A) :=
 ⟨isN_mono hA.mono, pe_imp (pe_cmp (pc_isN hA.pe)) fun σ H Q ⟨ρ, G, r, q⟩ => ⟨ρ, G, r, hA.mono ρ _ _ (fun x z v H' G' t e => by show Q (V.bl (decide (v = V.non))) H'; rw [isN_rep e]; exact z _ H' G' t rfl) q⟩⟩
theorem t_isN   (hA : DE X c a A) : DT X c (.Compare a [.Is] [.Constant .none j pos'] pos) (blW (isNW A)) :=
 ⟨bl_mono (isN_mono hA.mono), pt_imp (pt_cmp (pc_isN hA.pe)) fun σ H Q ⟨ρ, G, r, q⟩ => ⟨ρ, G, r, hA.mono ρ _ _ (fun x z v H' G' t e => ⟨_, rfl, by rw [isN_rep e]; exact z H' G' t⟩) q⟩⟩
end
mutual
def toPy : D -> PyData
 | .non => .none
 | .bl b => .bool b
 | .int i => .int i
 | .str x => .str x
 | .box => .none
 | .tup xs => .tuple (toPys xs)
 | .lst _ xs => .list (toPys xs)
def toPys : List D -> List PyData
 | [] => []
 | x :: xs => toPy x :: toPys xs
end
mutual
def layD : D -> Bool
 | .non => true
 | .bl _ => true
 | .int _ => true
 | .str x => PyData.canLay0 (.str x)
 | .box => false
 | .tup xs => layDs xs
 | .lst _ xs => layDs xs
def layDs : List D -> Bool
 | [] => true
 | x :: xs => layD x && layDs xs
end
mutual
theorem lay_can : ∀ d : D, layD d = true -> (toPy d).canLay0 = true
 | .non, _ => by unfold toPy PyData.canLay0; rfl
 | .bl _, _ => by unfold toPy PyData.canLay0; rfl
 | .int _, _ => by unfold toPy PyData.canLay0; rfl
 | .str _, h => by unfold toPy; unfold layD at h; exact h
 | .tup xs, h => by unfold toPy PyData.canLay0; unfold layD at h; exact lay_cans xs h
 | .lst _ xs, h => by unfold toPy PyData.canLay0; unfold layD at h; exact lay_cans xs h
theorem lay_cans : ∀ ds : List D, layDs ds = true -> PyData.canLayAll0 (toPys ds) = true
 | [], _ => by unfold toPys PyData.canLayAll0; rfl
 | x :: xs, h => by
  unfold toPys PyData.canLayAll0
  unfold layDs at h
  have := (Bool.and_eq_true _ _ ▸ h : layD x = true /\ layDs xs = true)
  rw [lay_can x this.1, lay_cans xs this.2]; rfl
end
section
variable {X : Cx}
mutual
theorem Rep.reads   (hK : c.K = X.K) (I : Inv X pins σ H s) (gh : Same G H) : ∀ (d : D) {v : V} {u : Value}, Rep c G d v -> RelV v u -> layD d = true -> ∃ as, Reads s.heap u (toPy d) as
 | .non, v, u, h, r, _ => by have : v = V.non := h; subst this; cases r; exact ⟨_, .none⟩
 | .bl b, v, u, h, r, _ => by have : v = V.bl b := h; subst this; cases r; exact ⟨_, .bool b⟩
 | .int i, v, u, h, r, _ => by have : v = V.int i := h; subst this; obtain ⟨t, rfl⟩ := r; exact ⟨_, .int i t⟩
 | .str i, v, u, h, r, _ => by have : v = V.str i := h; subst this; obtain ⟨t, rfl⟩ := r; exact ⟨_, .str i t⟩
 | .box, v, u, h, r, l => by cases l
 | .tup xs, v, u, ⟨a, vs, h1, h2, h3⟩, r, l => by
  subst h1; cases r
  obtain ⟨its, rv, p, _⟩ := I.tuple (hK ▸ sqT_same gh h2)
  obtain ⟨as, q⟩ := Reps.reads hK I gh xs h3 rv l
  obtain ⟨o, ho, hc, n, hd⟩ := p
  unfold toPy
  exact ⟨_, .tuple ho hc hd (by simpa using q)⟩
 | .lst _ xs, v, u, ⟨a, vs, h1, h2, _, h3⟩, r, l => by
  subst h1; cases r
  obtain ⟨_, its, n, rv, ho⟩ := I.hok a _ (gh _ _ h2)
  obtain ⟨as, q⟩ := Reps.reads hK I gh xs h3 rv l
  unfold toPy
  exact ⟨_, .list ho rfl rfl (by simpa using q)⟩
theorem Reps.reads   (hK : c.K = X.K) (I : Inv X pins σ H s) (gh : Same G H) : ∀ (ds : List D) {vs : List V} {us : List Value}, Reps c G ds vs -> Vals vs us -> layDs ds = true -> ∃ as, ReadsAll s.heap us (toPys ds) as
 | [], vs, us, h, r, _ => by have : vs = [] := h; subst this; cases r; exact ⟨_, .nil⟩
 | x :: xs, vs, us, ⟨v, ws, h1, h2, h3⟩, r, l => by
  subst h1
  cases r with
  | cons r1 r2 =>
   unfold layDs at l
   have l' := (Bool.and_eq_true _ _ ▸ l : layD x = true /\ layDs xs = true)
   obtain ⟨as, q1⟩ := Rep.reads hK I gh x h2 r1 l'.1
   obtain ⟨bs, q2⟩ := Reps.reads hK I gh xs h3 r2 l'.2
   exact ⟨_, .cons q1 q2⟩
end
def eqB (x y : D) : Bool := PyData.eqv (toPy x) (toPy y)
def eqOk (x y : D) : Prop := layD x = true /\ layD y = true /\ min (toPy x).depth (toPy y).depth <= 50
@[reducible] def eqD : F2 := fun x y Q => eqOk x y /\ Q (.bl (eqB x y))
@[reducible] def neD : F2 := fun x y Q => eqOk x y /\ Q (.bl (!eqB x y))
def rEqD (c : Bk) (neg : Bool) : R2 := fun u v H Q => ∃ G x y, Same G H /\ Rep c G x u /\ Rep c G y v /\ eqOk x y /\ Q (.bl (if neg then !eqB x y else eqB x y)) H
theorem op_eqD (hK : c.K = X.K) (hu : X.A.units + 64 < cLine) : OpR X (compareOp .Eq) (rEqD c false) := by
 intro pins s σ H u v a b Q I ra rb ⟨G, x, y, gh, hx, hy, ⟨lx, ly, ld⟩, q⟩
 obtain ⟨as, qa⟩ := hx.reads hK I gh x ra lx
 obtain ⟨bs, qb⟩ := hy.reads hK I gh y rb ly
 exact SeqAt.compareEq_reads qa qb (lay_can x lx) (lay_can y ly) (by omega) ⟨.bl _, H, I, rfl, q⟩
theorem op_neD (hK : c.K = X.K) (hu : X.A.units + 64 < cLine) : OpR X (compareOp .NotEq) (rEqD c true) := by
 intro pins s σ H u v a b Q I ra rb ⟨G, x, y, gh, hx, hy, ⟨lx, ly, ld⟩, q⟩
 obtain ⟨as, qa⟩ := hx.reads hK I gh x ra lx
 obtain ⟨bs, qb⟩ := hy.reads hK I gh y rb ly
 exact SeqAt.compareNe_reads qa qb (lay_can x lx) (lay_can y ly) (by omega) ⟨.bl _, H, I, rfl, q⟩
theorem m_eq : F2Mono eqD := fun x y Q Q' k q => ⟨q.1, k _ q.2⟩
theorem m_ne : F2Mono neD := fun x y Q Q' k q => ⟨q.1, k _ q.2⟩
theorem od_eq : OpD c eqD (rEqD c false) := fun H G x y u v Q gh bx h0 rx ry q => ⟨G, x, y, gh, rx, ry, q.1, q.2 _ H G (Stp.refl gh bx) rfl⟩
theorem od_ne : OpD c neD (rEqD c true) := fun H G x y u v Q gh bx h0 rx ry q => ⟨G, x, y, gh, rx, ry, q.1, q.2 _ H G (Stp.refl gh bx) rfl⟩
def inOk (x : D) (ys : List D) : Prop := layD x = true /\ layDs ys = true /\ min (PyData.depthAll (toPys ys)) (toPy x).depth <= 50
def inB (x : D) (ys : List D) : Bool := (toPys ys).any fun y => PyData.eqv y (toPy x)
def inD (neg : Bool) : F2
 | x, .lst _ ys, Q => inOk x ys /\ Q (.bl (if neg then !inB x ys else inB x ys))
 | x, .tup ys, Q => inOk x ys /\ Q (.bl (if neg then !inB x ys else inB x ys))
 | _, _, _ => False
def rInD (c : Bk) (neg : Bool) : R2 := fun u v H Q => ∃ G x y, Same G H /\ Rep c G x u /\ Rep c G y v /\ inD neg x y fun d => ∃ b, d = .bl b /\ Q (.bl b) H
theorem op_inD (hK : c.K = X.K) (hu : X.A.units + 64 < cLine) : OpR X (compareOp .In) (rInD c false) := by
 intro pins s σ H u v a b Q I ra rb ⟨G, x, y, gh, hx, hy, q⟩
 cases y with
 | lst n ys =>
  obtain ⟨⟨lx, ly, ld⟩, _, e, q⟩ := q
  cases e
  obtain ⟨as, qa⟩ := hx.reads hK I gh x ra lx
  obtain ⟨bs, qb⟩ := hy.reads hK I gh (.lst n ys) rb (by unfold layD; exact ly)
  unfold toPy at qb
  exact SeqAt.in_list_reads qb qa (lay_cans ys ly) (lay_can x lx) (by omega) ⟨.bl _, H, I, rfl, q⟩
 | tup ys =>
  obtain ⟨⟨lx, ly, ld⟩, _, e, q⟩ := q
  cases e
  obtain ⟨as, qa⟩ := hx.reads hK I gh x ra lx
  obtain ⟨bs, qb⟩ := hy.reads hK I gh (.tup ys) rb (by unfold layD; exact ly)
  unfold toPy at qb
  exact SeqAt.in_tuple_reads qb qa (lay_cans ys ly) (lay_can x lx) (by omega) ⟨.bl _, H, I, rfl, q⟩
 | _ => exact q.elim
theorem m_in (neg : Bool) : F2Mono (inD neg) := fun x y Q Q' k q => by
 cases y <;> first | exact ⟨q.1, k _ q.2⟩ | exact q
theorem od_in (neg : Bool) : OpD c (inD neg) (rInD c neg) := fun H G x y u v Q gh bx h0 rx ry q => ⟨G, x, y, gh, rx, ry, by
 cases y with
 | lst n ys => exact ⟨q.1, _, rfl, q.2 _ H G (Stp.refl gh bx) rfl⟩
 | tup ys => exact ⟨q.1, _, rfl, q.2 _ H G (Stp.refl gh bx) rfl⟩
 | _ => exact q.elim⟩
section
variable {c : Bk} {a b : Expr} {A B : WE} {pos : Pos}
theorem d_eq (hA : DE X c a A) (hB : DE X c b B) (hK : c.K = X.K := by rfl) (hu : X.A.units + 64 < cLine := by decreasing_trivial) : DE X c (.Compare a [.Eq] [b] pos) (binW eqD A B) := d_cmp m_eq (op_eqD hK hu) od_eq hA hB (nomark _)
theorem d_ne (hA : DE X c a A) (hB : DE X c b B) (hK : c.K = X.K := by rfl) (hu : X.A.units + 64 < cLine := by decreasing_trivial) : DE X c (.Compare a [.NotEq] [b] pos) (binW neD A B) := d_cmp m_ne (op_neD hK hu) od_ne hA hB (nomark _)
theorem t_eq (hA : DE X c a A) (hB : DE X c b B) (hK : c.K = X.K := by rfl) (hu : X.A.units + 64 < cLine := by decreasing_trivial) : DT X c (.Compare a [.Eq] [b] pos) (blW (binW eqD A B)) := d_cmpT m_eq (op_eqD hK hu) od_eq hA hB (nomark _)
theorem t_ne (hA : DE X c a A) (hB : DE X c b B) (hK : c.K = X.K := by rfl) (hu : X.A.units + 64 < cLine := by decreasing_trivial) : DT X c (.Compare a [.NotEq] [b] pos) (blW (binW neD A B)) := d_cmpT m_ne (op_neD hK hu) od_ne hA hB (nomark _)
def truB : D -> Option Bool
 | .non => some false
 | .bl b => some b
 | .int i => some (i != 0)
 | .lst _ xs => some (!xs.isEmpty)
 | .tup xs => some (!xs.isEmpty)
 | _ => none
def truD (d : D) (Q : Bool -> Prop) : Prop := match truB d with | some b => Q b | none => False
@[reducible] def truW (A : WE) : WT := fun ρ Q => A ρ fun d => truD d Q
theorem tru_rep   (gh : Same G H) (h : Rep c G d v) (e : truB d = some k) : TruV c.K v H k := by
 cases d with
 | non => cases h; cases e; rfl
 | bl b => cases h; cases e; rfl
 | int i => cases h; cases e; rfl
 | lst n xs =>
  obtain ⟨a, vs, rfl, h1, _, h2⟩ := h
  cases e
  refine .inl ⟨vs, .inl (.inl (gh _ _ h1)), ?_⟩
  have := h2.length
  cases xs <;> cases vs <;> first | rfl | simp at this
 | tup xs =>
  obtain ⟨a, vs, rfl, h1, h2⟩ := h
  cases e
  refine .inr (.inl ⟨vs, sqT_same gh h1, ?_⟩)
  have := h2.length
  cases xs <;> cases vs <;> first | rfl | simp at this
 | str x => cases e
 | box => cases e
theorem truD_mono (d : D) (k : ∀ b, Q b -> Q' b) (q : truD d Q) : truD d Q' := by
 unfold truD at q ⊢
 split at q
 ·exact k _ q
 ·exact q.elim
theorem t_tru (hA : DE X c a A) (he : ∀ whole, isTrue a X.env whole = (do let v <- whole; standAt a.pos; holding [v] (truthy v)) := by intro _; rfl) (hK : c.K = X.K := by rfl) : DT X c a (truW A) where
 mono := fun ρ Q Q' k q => hA.mono ρ _ _ (fun d z => truD_mono d k z) q
 pt := pt_imp (pt_truth hA.pe he) fun σ H Q ⟨ρ, G, r, q⟩ => ⟨ρ, G, r, hA.mono ρ _ _ (fun d z v H' G' t e => by
  unfold truD at z
  split at z
  ·rename_i k hk
   exact ⟨k, hK ▸ tru_rep t.gh e hk, z H' G' t⟩
  ·exact z.elim) q⟩
@[reducible] def notT (A : WT) : WT := fun ρ Q => A ρ fun b => Q (!b)
theorem t_not {A : WT} (hA : DT X c a A) : DT X c (.UnaryOp .Not a pos) (notT A) where
 mono := fun ρ Q Q' k q => hA.mono ρ _ _ (fun d z => k _ z) q
 pt := pt_imp (pt_not hA.pt) fun σ H Q ⟨ρ, G, r, q⟩ => ⟨ρ, G, r, q⟩
@[reducible] def andT (A B : WT) : WT := fun ρ Q => A ρ fun b => if b = true then B ρ Q else Q false
@[reducible] def orT (A B : WT) : WT := fun ρ Q => A ρ fun b => if b = true then Q true else B ρ Q
structure DW (X : Cx) (c : Bk) (e : Expr) (W : WT) : Prop where
 mono : TMono W
 pw : PW X e (tDt c W)
theorem DW.dt (h : DW X c a W) : DT X c a W := ⟨h.mono, h.pw.pt⟩
theorem pw_imp  (h : PW X e t) (k : ∀ σ H Q, t' σ H Q -> t σ H Q) : PW X e t' := fun wh pins s σ H Q I q => h wh pins s σ H Q I (k σ H Q q)
theorem w_and1 {A : WT} (hA : DT X c a A) : DW X c (.BoolOp .And [a] pos) A := ⟨hA.mono, pw_and1 hA.pt⟩
theorem w_or1 {A : WT} (hA : DT X c a A) : DW X c (.BoolOp .Or [a] pos) A := ⟨hA.mono, pw_or1 hA.pt⟩
theorem w_and {A B : WT} {rest : List Expr} (hA : DT X c a A) (hB : DW X c (.BoolOp .And (b :: rest) pos) B) : DW X c (.BoolOp .And (a :: b :: rest) pos) (andT A B) where
 mono := fun ρ Q Q' k q => hA.mono ρ _ _ (fun d z => by
  cases d
  ·exact k _ z
  ·exact hB.mono ρ _ _ k z) q
 pw := pw_imp (pw_and hA.pt hB.pw) fun σ H Q ⟨ρ, G, r, q⟩ => ⟨ρ, G, r, hA.mono ρ _ _ (fun d z H' G' t => by
  cases d
  ·exact z H' G' t
  ·exact ⟨ρ, G', r.step t, hB.mono ρ _ _ (fun b' z' H2 G2 t2 => z' H2 G2 (t.trans t2)) z⟩) q⟩
theorem w_or {A B : WT} {rest : List Expr} (hA : DT X c a A) (hB : DW X c (.BoolOp .Or (b :: rest) pos) B) : DW X c (.BoolOp .Or (a :: b :: rest) pos) (orT A B) where
 mono := fun ρ Q Q' k q => hA.mono ρ _ _ (fun d z => by
  cases d
  ·exact hB.mono ρ _ _ k z
  ·exact k _ z) q
 pw := pw_imp (pw_or hA.pt hB.pw) fun σ H Q ⟨ρ, G, r, q⟩ => ⟨ρ, G, r, hA.mono ρ _ _ (fun d z H' G' t => by
  cases d
  ·exact ⟨ρ, G', r.step t, hB.mono ρ _ _ (fun b' z' H2 G2 t2 => z' H2 G2 (t.trans t2)) z⟩
  ·exact z H' G' t) q⟩
def blD (d : D) (Q : Bool -> Prop) : Prop := match d with | .bl b => Q b | _ => False
theorem blD_mono (d : D) (k : ∀ b, Q b -> Q' b) (q : blD d Q) : blD d Q' := by
 cases d <;> first | exact k _ q | exact q
@[reducible] def andW (A B : WE) : WE := fun ρ Q => A ρ fun x => blD x fun k => if k = true then B ρ Q else Q (.bl false)
@[reducible] def orW (A B : WE) : WE := fun ρ Q => A ρ fun x => blD x fun k => if k = true then Q (.bl true) else B ρ Q
@[reducible] def notW (A : WE) : WE := fun ρ Q => A ρ fun x => blD x fun k => Q (.bl (!k))
theorem d_one (hA : DE X c a A) : DE X c (.BoolOp op [a] pos) A := ⟨hA.mono, pe_one hA.pe⟩
theorem d_and {rest : List Expr} (hA : DE X c a A) (hB : DE X c (.BoolOp .And (b :: rest) pos) B) : DE X c (.BoolOp .And (a :: b :: rest) pos) (andW A B) where
 mono := fun ρ Q Q' k q => hA.mono ρ _ _ (fun d z => blD_mono d (fun b z => by
  cases b
  ·exact k _ z
  ·exact hB.mono ρ _ _ k z) z) q
 pe := pe_imp (pe_and hA.pe hB.pe) fun σ H Q ⟨ρ, G, r, q⟩ => ⟨ρ, G, r, hA.mono ρ _ _ (fun d z v H' G' t e => by
  cases d with
  | bl k =>
   refine ⟨k, e, ?_⟩
   cases k
   ·exact z _ H' G' t rfl
   ·exact ⟨ρ, G', r.step t, hB.mono ρ _ _ (fun b' z' v2 H2 G2 t2 => z' v2 H2 G2 (t.trans t2)) z⟩
  | _ => exact z.elim) q⟩
theorem d_or {rest : List Expr} (hA : DE X c a A) (hB : DE X c (.BoolOp .Or (b :: rest) pos) B) : DE X c (.BoolOp .Or (a :: b :: rest) pos) (orW A B) where
 mono := fun ρ Q Q' k q => hA.mono ρ _ _ (fun d z => blD_mono d (fun b z => by
  cases b
  ·exact hB.mono ρ _ _ k z
  ·exact k _ z) z) q
 pe := pe_imp (pe_or hA.pe hB.pe) fun σ H Q ⟨ρ, G, r, q⟩ => ⟨ρ, G, r, hA.mono ρ _ _ (fun d z v H' G' t e => by
  cases d with
  | bl k =>
   refine ⟨k, e, ?_⟩
   cases k
   ·exact ⟨ρ, G', r.step t, hB.mono ρ _ _ (fun b' z' v2 H2 G2 t2 => z' v2 H2 G2 (t.trans t2)) z⟩
   ·exact z _ H' G' t rfl
  | _ => exact z.elim) q⟩
theorem d_not (hA : DE X c a A) : DE X c (.UnaryOp .Not a pos) (notW A) where
 mono := fun ρ Q Q' k q => hA.mono ρ _ _ (fun d z => blD_mono d (fun b z => k _ z) z) q
 pe := pe_imp (pe_not hA.pe) fun σ H Q ⟨ρ, G, r, q⟩ => ⟨ρ, G, r, hA.mono ρ _ _ (fun d z v H' G' t e => by
  cases d with
  | bl k => exact ⟨k, e, z _ H' G' t rfl⟩
  | _ => exact z.elim) q⟩
@[reducible] def ifW (C : WT) (A B : WE) : WE := fun ρ Q => C ρ fun k => if k = true then A ρ Q else B ρ Q
theorem d_if  (hC : DT X c ce C) (hA : DE X c a A) (hB : DE X c b B) : DE X c (.IfExp ce a b pos) (ifW C A B) where
 mono := fun ρ Q Q' k q => hC.mono ρ _ _ (fun d z => by
  cases d
  ·exact hB.mono ρ _ _ k z
  ·exact hA.mono ρ _ _ k z) q
 pe := pe_imp (pe_ifExp hC.pt hA.pe hB.pe) fun σ H Q ⟨ρ, G, r, q⟩ => ⟨ρ, G, r, hC.mono ρ _ _ (fun d z H' G' t => by
  cases d
  ·exact ⟨ρ, G', r.step t, hB.mono ρ _ _ (fun b' z' v2 H2 G2 t2 => z' v2 H2 G2 (t.trans t2)) z⟩
  ·exact ⟨ρ, G', r.step t, hA.mono ρ _ _ (fun b' z' v2 H2 G2 t2 => z' v2 H2 G2 (t.trans t2)) z⟩) q⟩
@[reducible] def chainW (f g : F2) (A B C : WE) : WE := fun ρ Q => A ρ fun x => B ρ fun y => f x y fun z => blD z fun k => if k = true then C ρ fun w => g y w Q else Q (.bl false)
end
end
section
variable {X : Cx} {c : Bk} {a b e : Expr} {A B : WE} {pos p : Pos} {es : List Expr}
@[reducible] def nilA : WL := fun _ Q => Q []
@[reducible] def consA (A : WE) (R : WL) : WL := fun ρ Q => A ρ fun d => R ρ fun ds => Q (d :: ds)
theorem a_nil : DA X c [] nilA := ⟨fun _ _ _ k q => k _ q, pa_imp pa_nil fun σ H Q ⟨ρ, G, r, q⟩ => q [] H G r.refl rfl⟩
theorem a_cons (hA : DE X c e A) (hR : DA X c es R) (hs : starEach (e :: es) X.env = (false, eval e X.env) :: starEach es X.env := by rfl) : DA X c (e :: es) (consA A R) where
 mono := fun ρ Q Q' k q => hA.mono ρ _ _ (fun d z => hR.mono ρ _ _ (fun ds y => k _ y) z) q
 pa := pa_imp (pa_cons hA.pe hR.pa hs) fun σ H Q ⟨ρ, G, r, q⟩ => ⟨ρ, G, r, hA.mono ρ _ _ (fun d z v H1 G1 t1 e1 => ⟨ρ, G1, r.step t1, hR.mono ρ _ _ (fun ds y vs H2 G2 t2 e2 =>
  y (v :: vs) H2 G2 (t1.trans t2) ⟨v, vs, rfl, e1.mono t2.gg, e2⟩) z⟩) q⟩
@[reducible] def tupW (R : WL) : WE := fun ρ Q => R ρ fun ds => ds.length <= 100000 /\ Q (.tup ds)
theorem d_tup  (hR : DA X c es R) : DE X c (.Tuple es x1 pos) (tupW R) where
 mono := fun ρ Q Q' k q => hR.mono ρ _ _ (fun ds z => ⟨z.1, k _ z.2⟩) q
 pe := pe_imp (pe_tup hR.pa) fun σ H Q ⟨ρ, G, r, q⟩ => ⟨ρ, G, r, hR.mono ρ _ _ (fun ds z vs H' G' t e => ⟨by rw [<- e.length]; exact small5 z.1, fun p hp =>
  z.2 (.ref p) _ _ (t.trans (Stp.new t.gh t.bx hp)) ⟨p, vs, rfl, SqT.of upd_same, e.mono (same_g (none_of_same t.gh hp))⟩⟩) q⟩
@[reducible] def lstW (R : WL) : WL := fun ρ Q => R ρ fun ds => ds.length <= 100000 /\ Q ds
theorem f_lst (hR : DA X c es R) : DF X c (.List es pos) (lstW R) where
 mono := fun ρ Q Q' k q => hR.mono ρ _ _ (fun ds z => ⟨z.1, k _ z.2⟩) q
 pe := pe_imp (pe_lst hR.pa) fun σ H Q ⟨ρ, G, r, q⟩ => ⟨ρ, G, r, hR.mono ρ _ _ (fun ds z vs H' G' t e => ⟨by rw [<- e.length]; exact small5 z.1, fun p hp =>
  z.2 p vs _ _ (t.trans (Stp.own t.gh t.bx hp)) upd_same (none_of_same t.gh hp) (t.free hp) e⟩) q⟩
theorem atI_rep   (h : Reps c G ds vs) (e : atI ds i = some d) : ∃ v, atI vs i = some v /\ Rep c G d v := by
 unfold atI at e ⊢
 rw [h.length] at e
 cases z : ixN vs.length i with
 | none => rw [z] at e; cases e
 | some j => rw [z] at e; exact h.get e
def itD (xs : List D) (y : D) (Q : D -> Prop) : Prop := match y with | .int i => (match atI xs i with | some d => Q d | none => False) | _ => False
def ixD : F2
 | .lst _ xs, y, Q => itD xs y Q
 | .tup xs, y, Q => itD xs y Q
 | _, _, _ => False
theorem itD_mono  (k : ∀ d, Q d -> Q' d) (q : itD xs y Q) : itD xs y Q' := by
 cases y with
 | int i =>
  unfold itD at q ⊢
  simp only at q ⊢
  split at q
  ·exact k _ q
  ·exact q.elim
 | _ => exact q
theorem m_ix : F2Mono ixD := fun x y Q Q' k q => by
 cases x <;> first | exact itD_mono k q | exact q
theorem od_ix : OpD c ixD (rIx c.K) := by
 intro H G x y u v Q gh bx h0 rx ry q
 cases x with
 | lst n xs =>
  obtain ⟨a, vs, rfl, ha, _, rv⟩ := rx
  cases y with
  | int i =>
   cases ry
   have q : (match atI xs i with | some d => _ | none => False) := q
   split at q
   ·rename_i d e
    obtain ⟨w, e', rw'⟩ := atI_rep rv e
    exact .inl ⟨a, vs, i, w, rfl, rfl, SqL.of (gh _ _ ha), e', q w H G (Stp.refl gh bx) rw'⟩
   ·exact q.elim
  | _ => exact q.elim
 | tup xs =>
  obtain ⟨a, vs, rfl, ha, rv⟩ := rx
  cases y with
  | int i =>
   cases ry
   have q : (match atI xs i with | some d => _ | none => False) := q
   split at q
   ·rename_i d e
    obtain ⟨w, e', rw'⟩ := atI_rep rv e
    exact .inr (.inl ⟨a, vs, i, w, rfl, rfl, sqT_same gh ha, e', q w H G (Stp.refl gh bx) rw'⟩)
   ·exact q.elim
  | _ => exact q.elim
 | _ => exact q.elim
def cutD {α : Type} (xs : List α) (lo hi : Option Int) : List α := (xs.drop (HT.sIx xs.length 0 lo)).take (HT.sIx xs.length xs.length hi - HT.sIx xs.length 0 lo)
theorem Reps.cut  (h : Reps c G ds vs) (lo hi : Option Int) : Reps c G (cutD ds lo hi) (cutV vs lo hi) := by
 unfold cutD cutV
 rw [h.length]
 exact (h.drop _).take _
abbrev WO := Env -> (Option Int -> Prop) -> Prop
structure DO (X : Cx) (c : Bk) (e : Option Expr) (W : WO) : Prop where
 mono : ∀ ρ Q Q', (∀ d, Q d -> Q' d) -> W ρ Q -> W ρ Q'
 po : PO X e fun σ H Q => ∃ ρ G, Rel c ρ σ H G /\ W ρ fun o => ∀ H' G', Stp c.β H G H' G' -> Q o H'
@[reducible] def noO : WO := fun _ Q => Q none
def someO (A : WE) : WO := fun ρ Q => A ρ fun d => match d with | .int i => Q (some i) | _ => False
theorem o_none : DO X c none noO := ⟨fun _ _ _ k q => k _ q, fun pins s σ H Q I ⟨ρ, G, r, q⟩ => po_none pins s σ H Q I (q H G r.refl)⟩
theorem o_some (hA : DE X c a A) : DO X c (some a) (someO A) where
 mono := fun ρ Q Q' k q => hA.mono ρ _ _ (fun d z => by cases d <;> first | exact k _ z | exact z) q
 po := fun pins s σ H Q I ⟨ρ, G, r, q⟩ => po_some hA.pe pins s σ H Q I ⟨ρ, G, r, hA.mono ρ _ _ (fun d z v H' G' t e => by
  cases d with
  | int i => exact ⟨i, e, z H' G' t⟩
  | _ => exact z.elim) q⟩
def slD (x : D) (lo hi : Option Int) (Q : D -> Prop) : Prop := match x with
 | .lst _ xs => Q (.lst true (cutD xs lo hi))
 | .tup xs => Q (.tup (cutD xs lo hi))
 | _ => False
theorem chain_mono  (fm : F2Mono f) (gm : F2Mono g) (mA : EMono A) (mB : EMono B) (mC : EMono C) : EMono (chainW f g A B C) := fun ρ Q Q' k q => mA ρ _ _ (fun x q1 => mB ρ _ _ (fun y q2 => fm x y _ _ (fun z q3 => blD_mono z (fun b q4 => by
 cases b
 ·exact k _ q4
 ·exact mC ρ _ _ (fun w q5 => gm y w _ _ k q5) q4) q3) q2) q1) q
theorem chain_read  (fm : F2Mono f) (gm : F2Mono g) (mA : EMono A) (mB : EMono B) (mC : EMono C) (hr : OpD c f r) (hr' : OpD c g r') (σ : St) (H : Hp) (Q : VK) (h : tD c (chainW f g A B C) σ H Q) : tChain r r' (tD c A) (tD c B) (tD c C) σ H Q := by
 obtain ⟨ρ, G, R, q⟩ := h
 refine ⟨ρ, G, R, mA ρ _ _ (fun x q1 u H1 G1 t1 e1 => ⟨ρ, G1, R.step t1, mB ρ _ _ (fun y q2 v H2 G2 t2 e2 => ?_) q1⟩) q⟩
 refine hr H2 G2 x y u v _ t2.gh t2.bx (fun a z => R.new0 (t1.free (t2.free z))) (e1.mono t2.gg) e2 (fm x y _ _ (fun z q3 w H3 G3 t3 e3 => ?_) q2)
 cases z with
 | bl k =>
  refine ⟨k, e3, ?_⟩
  cases k
  ·exact q3 _ H3 G3 ((t1.trans t2).trans t3) rfl
  ·refine ⟨ρ, G3, ((R.step t1).step t2).step t3, mC ρ _ _ (fun w' q5 v' H4 G4 t4 e4 => ?_) q3⟩
   exact hr' H4 G4 y w' v v' Q t4.gh t4.bx (fun a z => R.new0 (t1.free (t2.free (t3.free (t4.free z))))) ((e2.mono t3.gg).mono t4.gg) e4 (gm y w' _ _ (fun d z w2 H5 G5 t5 e5 => z w2 H5 G5 ((((t1.trans t2).trans t3).trans t4).trans t5) e5) q5)
 | _ => exact q3.elim
end
end Fd
namespace L2
open PySem PySem.Spec PyProof.Rows
end L2
namespace Fd
open PySem L2
section
variable {X : Cx} {c : Bk} {a b e : Expr} {A B : WE} {pos p p' : Pos} {es : List Expr}
abbrev FL := List D -> (D -> Prop) -> Prop
def FLMono (f : FL) : Prop := ∀ ds Q Q', (∀ d, Q d -> Q' d) -> f ds Q -> f ds Q'
@[reducible] def cbW (f : FL) (R : WL) : WE := fun ρ Q => R ρ fun ds => f ds Q
def CallD (c : Bk) (f : FL) (r : List V -> Hp -> VK -> Prop) : Prop := ∀ (H G : Hp) (ds : List D) (vs : List V) (Q : VK), Same G H -> BoxD c.β H G -> (∀ a, H a = none -> c.H0 a = none) -> Reps c G ds vs ->
 f ds (fun d => ∀ v H' G', Stp c.β H G H' G' -> Rep c G' d v -> Q v H') -> r vs H Q
theorem cb_read  (fm : FLMono f) (mR : LMono R) (hr : CallD c f r) (σ : St) (H : Hp) (Q : VK) (h : tD c (cbW f R) σ H Q) : tCB r (tDs c R) σ H Q := by
 obtain ⟨ρ, G, r', q⟩ := h
 exact ⟨ρ, G, r', mR ρ _ _ (fun ds z vs H' G' t e => hr H' G' ds vs Q t.gh t.bx (fun a z => r'.new0 (t.free z)) e (fm ds _ _ (fun d y v H2 G2 t2 e2 => y v H2 G2 (t.trans t2) e2) z)) q⟩
theorem d_callB {f : FL} {R : WL} {r : List V -> Hp -> VK -> Prop} {id : String} {x : Str} (fm : FLMono f) (hc : CallR X (.builtin id) r) (hr : CallD c f r) (hm : X.mg x = none) (hv : bootBuiltins x = some (.builtin id)) (hR : DA X c (e :: es) R) (hg : Gl X x := by rfl) (hn : x ≠ "__name__" := by decide) (hdb : (x == ("__debug__" : Str)) = false := by decide)
  (he : starEach (e :: es) X.env = (false, eval e X.env) :: starEach es X.env := by rfl) (hpl : (backTo pos (starEach es X.env)).any (·.1) = false := by rfl) : DE X c (.Call (.Name x p) (e :: es) [] pos) (cbW f R) :=
 ⟨fun ρ Q Q' k q => hR.mono ρ _ _ (fun ds z => fm ds _ _ k z) q, pe_imp (pe_callB hc hg hm hv hR.pa hn hdb he hpl) (cb_read fm hR.mono hr)⟩
theorem d_callTy   (fm : FLMono f) (hc : CallR X (.type T) r) (hr : CallD c f r) (hm : X.mg x = none) (hv : bootBuiltins x = some (.type T)) (hR : DA X c (e :: es) R) (hg : Gl X x := by rfl) (hn : x ≠ "__name__" := by decide) (hdb : (x == ("__debug__" : Str)) = false := by decide)
  (he : starEach (e :: es) X.env = (false, eval e X.env) :: starEach es X.env := by rfl) (hpl : (backTo pos (starEach es X.env)).any (·.1) = false := by rfl) : DE X c (.Call (.Name x p) (e :: es) [] pos) (cbW f R) :=
 ⟨fun ρ Q Q' k q => hR.mono ρ _ _ (fun ds z => fm ds _ _ k z) q, pe_imp (pe_callTy hc hg hm hv hR.pa hn hdb he hpl) (cb_read fm hR.mono hr)⟩
theorem reps1  (h : Reps c G [d] vs) : ∃ v, vs = [v] /\ Rep c G d v := by
 obtain ⟨v, ws, rfl, h1, h2⟩ := h
 cases h2
 exact ⟨v, rfl, h1⟩
theorem reps2  (h : Reps c G [d, f] vs) : ∃ v w, vs = [v, w] /\ Rep c G d v /\ Rep c G f w := by
 obtain ⟨v, ws, rfl, h1, w, ws', rfl, h2, h3⟩ := h
 cases h3
 exact ⟨v, w, rfl, h1, h2⟩
def lenF : FL
 | [.lst _ xs], Q => Q (.int xs.length)
 | [.tup xs], Q => Q (.int xs.length)
 | _, _ => False
theorem m_len : FLMono lenF := fun ds Q Q' k q => by
 unfold lenF at q ⊢
 split at q <;> first | exact k _ q | exact q.elim
theorem cd_len : CallD c lenF (fun xs H Q => ∃ p ys, xs = [.ref p] /\ (SqL c.K H p ys \/ SqT c.K H p ys) /\ Q (.int ys.length) H) := by
 intro H G ds vs Q gh bx h0 rv q
 unfold lenF at q
 split at q
 ·obtain ⟨v, rfl, a, ws, rfl, ha, _, hw⟩ := reps1 rv
  exact ⟨a, ws, rfl, .inl (SqL.of (gh _ _ ha)), by rw [<- hw.length]; exact q _ H G (Stp.refl gh bx) rfl⟩
 ·obtain ⟨v, rfl, a, ws, rfl, ha, hw⟩ := reps1 rv
  exact ⟨a, ws, rfl, .inr (sqT_same gh ha), by rw [<- hw.length]; exact q _ H G (Stp.refl gh bx) rfl⟩
 ·exact q.elim
def seqD (d : D) (Q : List D -> Prop) : Prop := match d with | .lst _ xs => Q xs | .tup xs => Q xs | _ => False
theorem seqD_mono  (k : ∀ xs, Q xs -> Q' xs) (q : seqD d Q) : seqD d Q' := by
 cases d <;> first | exact k _ q | exact q
@[reducible] def listW (A : WE) : WL := fun ρ Q => A ρ fun d => seqD d Q
theorem f_list (hA : DE X c e A) (hg : Gl X "list" := by rfl) (he : starEach [e] X.env = (false, eval e X.env) :: starEach [] X.env := by rfl) (hK : c.K = X.K := by rfl) (hm : X.mg "list" = none := by decreasing_trivial) : DF X c (.Call (.Name "list" p) [e] [] pos) (listW A) where
 mono := fun ρ Q Q' k q => hA.mono ρ _ _ (fun d z => seqD_mono k z) q
 pe := pe_imp (pe_callTy call_list_of hg hm PyProof.Rows.boot_list (pa_cons hA.pe pa_nil he) (by decide) (by decide) he rfl) fun σ H Q ⟨ρ, G, r, q⟩ => ⟨ρ, G, r, hA.mono ρ _ _ (fun d z v H' G' t e => by
  cases d with
  | lst n xs =>
   obtain ⟨a, vs, rfl, ha, _, rv⟩ := e
   exact ⟨a, vs, rfl, .inl (SqL.of (t.gh _ _ ha)), fun l hl => z l vs _ _ (t.trans (Stp.own t.gh t.bx hl)) upd_same (none_of_same t.gh hl) (t.free hl) rv⟩
  | tup xs =>
   obtain ⟨a, vs, rfl, ha, rv⟩ := e
   exact ⟨a, vs, rfl, .inr (hK ▸ sqT_same t.gh ha), fun l hl => z l vs _ _ (t.trans (Stp.own t.gh t.bx hl)) upd_same (none_of_same t.gh hl) (t.free hl) rv⟩
  | _ => exact z.elim) q⟩
def tupOfF : FL
 | [.lst _ xs], Q => Q (.tup xs)
 | [.tup xs], Q => Q (.tup xs)
 | _, _ => False
theorem m_tupOf : FLMono tupOfF := fun ds Q Q' k q => by
 unfold tupOfF at q ⊢
 split at q <;> first | exact k _ q | exact q.elim
theorem cd_tupOf : CallD c tupOfF (fun xs H Q => ∃ p ys, xs = [.ref p] /\ ((SqL c.K H p ys /\ ∀ l, H l = none -> Q (.ref l) (upd H l (.tup ys))) \/ (SqT c.K H p ys /\ Q (.ref p) H))) := by
 intro H G ds vs Q gh bx h0 rv q
 unfold tupOfF at q
 split at q
 ·obtain ⟨v, rfl, a, ws, rfl, ha, _, hw⟩ := reps1 rv
  exact ⟨a, ws, rfl, .inl ⟨SqL.of (gh _ _ ha), fun l hl => q (.ref l) _ _ (Stp.new gh bx hl) ⟨l, ws, rfl, SqT.of upd_same, hw.mono (same_g (none_of_same gh hl))⟩⟩⟩
 ·obtain ⟨v, rfl, a, ws, rfl, ha, hw⟩ := reps1 rv
  exact ⟨a, ws, rfl, .inr ⟨sqT_same gh ha, q (.ref a) H G (Stp.refl gh bx) ⟨a, ws, rfl, ha, hw⟩⟩⟩
 ·exact q.elim
theorem d_tupOf (hR : DA X c [e] R) (hg : Gl X "tuple" := by rfl) (he : starEach [e] X.env = (false, eval e X.env) :: starEach [] X.env := by rfl) (hK : c.K = X.K := by rfl) (hm : X.mg "tuple" = none := by decreasing_trivial) : DE X c (.Call (.Name "tuple" p) [e] [] pos) (cbW tupOfF R) :=
 d_callTy m_tupOf call_tuple_of (hK ▸ cd_tupOf) hm PyProof.Rows.boot_tuple hR hg (by decide) (by decide) he rfl
def intF : FL
 | [.int i], Q => Q (.int i)
 | [.bl k], Q => Q (.int (if k then 1 else 0))
 | _, _ => False
theorem m_int : FLMono intF := fun ds Q Q' k q => by
 unfold intF at q ⊢
 split at q <;> first | exact k _ q | exact q.elim
theorem cd_int : CallD c intF (fun xs H Q => (∃ i, xs = [.int i] /\ Q (.int i) H) \/ ∃ k, xs = [.bl k] /\ Q (.int (if k then 1 else 0)) H) := by
 intro H G ds vs Q gh bx h0 rv q
 unfold intF at q
 split at q
 ·obtain ⟨v, rfl, h⟩ := reps1 rv
  cases h
  exact .inl ⟨_, rfl, q _ H G (Stp.refl gh bx) rfl⟩
 ·obtain ⟨v, rfl, h⟩ := reps1 rv
  cases h
  exact .inr ⟨_, rfl, q _ H G (Stp.refl gh bx) rfl⟩
 ·exact q.elim
def allF : FL
 | [.lst _ xs], Q => ∃ bs : List Bool, xs = bs.map D.bl /\ Q (.bl (bs.all id))
 | _, _ => False
theorem m_all : FLMono allF := fun ds Q Q' k q => by
 unfold allF at q ⊢
 split at q
 ·obtain ⟨bs, e, q⟩ := q; exact ⟨bs, e, k _ q⟩
 ·exact q.elim
theorem cd_all : CallD c allF (fun vs H Q => ∃ (p : Addr) (bs : List Bool), vs = [.ref p] /\ SqL c.K H p (bs.map V.bl) /\ Q (.bl (bs.all id)) H) := by
 intro H G ds vs Q gh bx h0 rv q
 unfold allF at q
 split at q
 ·obtain ⟨bs, rfl, q⟩ := q
  obtain ⟨v, rfl, a, ws, rfl, ha, _, hw⟩ := reps1 rv
  rw [reps_bools.mp hw] at ha
  exact ⟨a, bs, rfl, SqL.of (gh _ _ ha), q _ H G (Stp.refl gh bx) rfl⟩
 ·exact q.elim
theorem d_all (hR : DA X c [e] R) (hg : Gl X "all" := by rfl) (he : starEach [e] X.env = (false, eval e X.env) :: starEach [] X.env := by rfl) (hK : c.K = X.K := by rfl) (hcalm : X.calm = true := by rfl) (hm : X.mg "all" = none := by decreasing_trivial) : DE X c (.Call (.Name "all" p) [e] [] pos) (cbW allF R) :=
 d_callB m_all (call_allL hcalm) (hK ▸ cd_all) hm PyProof.Rows.boot_all hR hg (by decide) (by decide) he rfl
def isiB (T : String) : D -> Option Bool
 | .non => some false
 | .bl _ => some (T == "bool" || T == "int")
 | .int _ => some (T == "int")
 | .str _ => some (T == "str")
 | .tup _ => some (T == "tuple")
 | .lst _ _ => some (T == "list")
 | .box => none
def isiW (T : String) (A : WE) : WE := fun ρ Q => A ρ fun d => match isiB T d with | some b => Q (.bl b) | none => False
theorem isi_rep   (hT : T = "list" \/ T = "tuple" \/ T = "int" \/ T = "bool" \/ T = "str") (gh : Same G H) (h : Rep c G d v) (e : isiB T d = some k) : IsI c.K H v T k := by
 cases d with
 | non => cases h; rcases hT with rfl | rfl | rfl | rfl | rfl <;> cases e <;> constructor
 | bl b => cases h; rcases hT with rfl | rfl | rfl | rfl | rfl <;> cases e <;> constructor
 | int b => cases h; rcases hT with rfl | rfl | rfl | rfl | rfl <;> cases e <;> constructor
 | str b => cases h; rcases hT with rfl | rfl | rfl | rfl | rfl <;> cases e <;> constructor
 | tup xs =>
  obtain ⟨a, vs, rfl, h1, _⟩ := h
  have q := sqT_same gh h1
  rcases hT with rfl | rfl | rfl | rfl | rfl <;> cases e
  ·exact .tuple_list _ _ q
  ·exact .tuple_tuple _ _ q
  ·exact .tuple_int _ _ q
  ·exact .tuple_bool _ _ q
  ·exact .tuple_str _ _ q
 | lst n xs =>
  obtain ⟨a, vs, rfl, h1, _⟩ := h
  have q : SqL c.K H a vs := SqL.of (gh _ _ h1)
  rcases hT with rfl | rfl | rfl | rfl | rfl <;> cases e
  ·exact .list_list _ _ q
  ·exact .list_tuple _ _ q
  ·exact .list_int _ _ q
  ·exact .list_bool _ _ q
  ·exact .list_str _ _ q
 | box => cases e
theorem d_isi  (hA : DE X c e A) (hg : Gl X "isinstance" := by rfl) (hg2 : Gl X x := by rfl) (hn : x ≠ "__name__" := by decide) (hd : (x == ("__debug__" : Str)) = false := by decide) (he : starEach [e, .Name x p'] X.env = (false, eval e X.env) :: starEach [.Name x p'] X.env := by rfl) (hK : c.K = X.K := by rfl) (hT : T = "list" \/ T = "tuple" \/ T = "int" \/ T = "bool" \/ T = "str" := by decreasing_trivial) (hm : X.mg "isinstance" = none := by decreasing_trivial) (hm2 : X.mg x = none := by decreasing_trivial) (hbt : bootBuiltins x = some (.type T) := by decreasing_trivial) :
  DE X c (.Call (.Name "isinstance" p) [e, .Name x p'] [] pos) (isiW T A) where
 mono := fun ρ Q Q' k q => hA.mono ρ _ _ (fun d z => by
  revert z
  cases isiB T d with
  | none => exact id
  | some b => exact k _) q
 pe := pe_imp (pe_callB call_isi hg hm PyProof.Rows.boot_isinstance (pa_cons hA.pe (pa_cons (pe_bltn (v := .ty T) hg2 hm2 hbt rfl hn hd) pa_nil) he) (by decide) (by decide) he rfl) fun σ H Q ⟨ρ, G, r, q⟩ => ⟨ρ, G, r, hA.mono ρ _ _ (fun d z v H' G' t e => by
  revert z
  cases hk : isiB T d with
  | none => exact False.elim
  | some b => exact fun z => ⟨v, T, b, rfl, hK ▸ isi_rep hT t.gh e hk, z _ H' G' t rfl⟩) q⟩
abbrev Fn := List D -> (D -> Prop) -> Prop
def up (F : Fn) : Fn := fun ds Q => ∃ P : D -> Prop, F ds P /\ ∀ d, P d -> Q d
theorem up_mono (F : Fn) : FLMono (up F) := fun ds Q Q' k ⟨P, h1, h2⟩ => ⟨P, h1, fun d z => k d (h2 d z)⟩
def spD (K : PySem.W.Frag) (n : Nat) (F : Fn) : Sp := fun vs H Q _ => ∃ β G ds, Same G H /\ BoxD β H G /\ Reps ⟨K, β, fun _ => none, G⟩ G ds vs /\ vs.length = n /\ up F ds fun d => ∀ v H' G', Stp β H G H' G' -> Rep ⟨K, β, H, G⟩ G' d v -> Q v H'
structure Cal (P : Program) (w : World) (K : PySem.W.Frag) (mg : Str -> Option Value) (base : Heap) (x : Str) (k : Nat) (ps : List Str) (sp : Sp) : Prop where
 ex : ∃ f fd, FnOk P w K mg base CX0 k f fd ps sp /\ mg x = some (.ref f) /\ PySem.W.keepIn K (.ref f) = true /\ Binds K fd ps []
theorem Cal.of       (F : Fun K x qual st f fd) (G : FnOk P w K mg base CX0 k f fd ps sp) (hm : mg x = some (.ref f)) (hb : Binds K fd ps []) : Cal P w K mg base x k ps sp :=
 ⟨f, fd, G, hm, F.kp, hb⟩
@[reducible] def callW (n : Nat) (F : Fn) (R : WL) : WE := fun ρ Q => R ρ fun ds => ds.length = n /\ up F ds Q
theorem d_call   (C : Cal X.prog X.w X.K X.mg X.base x k ps (spD X.K n F)) (hR : DA X c (e :: es) R) (hg : Gl X x := by rfl)
  (hdb : (x == ("__debug__" : Str)) = false := by decide) (he : starEach (e :: es) X.env = (false, eval e X.env) :: starEach es X.env := by rfl) (hpl : (backTo pos (starEach es X.env)).any (·.1) = false := by rfl) (hK : c.K = X.K := by rfl) (hr : Room k X.A := by decreasing_trivial) :
  DE X c (.Call (.Name x p) (e :: es) [] pos) (callW n F R) where
 mono := fun ρ Q Q' k q => hR.mono ρ _ _ (fun ds z => ⟨z.1, up_mono F ds _ _ k z.2⟩) q
 pe := by
  obtain ⟨f, fd, FO, hm, hk, hb⟩ := C.ex
  refine pe_imp (pe_call FO hr hg hm hk hb .nil pass0 hR.pa hdb he hpl) fun σ H Q ⟨ρ, G, r, q⟩ => ⟨ρ, G, r, hR.mono ρ _ _ (fun ds z vs H' G' t e => ?_) q⟩
  show spD X.K n F (vs ++ []) H' Q E0
  rw [List.append_nil]
  exact ⟨c.β, G', ds, t.gh, t.bx, Reps.back (c' := c) (c := ⟨X.K, c.β, fun _ => none, G'⟩) hK rfl (fun _ _ => rfl) e, by rw [<- e.length]; exact z.1,
   up_mono F ds _ _ (fun d z v H2 G2 t2 e2 => z v H2 G2 (t.trans t2) (Rep.back (c' := ⟨X.K, c.β, H', G'⟩) (c := c) hK.symm rfl (fun a h => r.new0 (t.free h)) e2)) z.2⟩
end
mutual
inductive Tg where
 | nm (i : Nat)
 | tp (n : Nat) (ts : Tgs)
inductive Tgs where
 | nil
 | cons (t : Tg) (ts : Tgs)
end
mutual
def gOf (K : PySem.W.Frag) : Tg -> TG
 | .nm i => gName i
 | .tp n ts => gSeq K n (gsOf K ts)
def gsOf (K : PySem.W.Frag) : Tgs -> TGs
 | .nil => gNil
 | .cons t ts => gCons (gOf K t) (gsOf K ts)
end
mutual
def gD : Tg -> D -> Env -> (Env -> Prop) -> Prop
 | .nm i, d, ρ, Q => Q (ρ.set i (.val d))
 | .tp n ts, .tup ds, ρ, Q => ds.length = n /\ gDs ts ds ρ Q
 | .tp n ts, .lst _ ds, ρ, Q => ds.length = n /\ gDs ts ds ρ Q
 | .tp _ _, _, _, _ => False
def gDs : Tgs -> List D -> Env -> (Env -> Prop) -> Prop
 | .nil, [], ρ, Q => Q ρ
 | .cons t ts, d :: ds, ρ, Q => gD t d ρ fun ρ' => gDs ts ds ρ' Q
 | _, _, _, _ => False
end
mutual
theorem gD_mono : ∀ (t : Tg) (d : D) (ρ : Env) {Q Q' : Env -> Prop}, (∀ ρ, Q ρ -> Q' ρ) -> gD t d ρ Q -> gD t d ρ Q'
 | .nm i, d, ρ, Q, Q', k, q => by unfold gD at q ⊢; exact k _ q
 | .tp n ts, .tup ds, ρ, Q, Q', k, q => by unfold gD at q ⊢; exact ⟨q.1, gDs_mono ts ds ρ k q.2⟩
 | .tp _ _, .non, _, _, _, _, q => by unfold gD at q; exact q.elim
 | .tp _ _, .bl _, _, _, _, _, q => by unfold gD at q; exact q.elim
 | .tp _ _, .int _, _, _, _, _, q => by unfold gD at q; exact q.elim
 | .tp _ _, .str _, _, _, _, _, q => by unfold gD at q; exact q.elim
 | .tp n ts, .lst _ ds, ρ, Q, Q', k, q => by unfold gD at q ⊢; exact ⟨q.1, gDs_mono ts ds ρ k q.2⟩
 | .tp _ _, .box, _, _, _, _, q => by unfold gD at q; exact q.elim
theorem gDs_mono : ∀ (ts : Tgs) (ds : List D) (ρ : Env) {Q Q' : Env -> Prop}, (∀ ρ, Q ρ -> Q' ρ) -> gDs ts ds ρ Q -> gDs ts ds ρ Q'
 | .nil, [], ρ, Q, Q', k, q => by unfold gDs at q ⊢; exact k _ q
 | .cons t ts, d :: ds, ρ, Q, Q', k, q => by unfold gDs at q ⊢; exact gD_mono t d ρ (fun ρ' z => gDs_mono ts ds ρ' k z) q
 | .nil, _ :: _, _, _, _, _, q => by unfold gDs at q; exact q.elim
 | .cons _ _, [], _, _, _, _, q => by unfold gDs at q; exact q.elim
end
mutual
theorem gD_read  : ∀ (t : Tg) (d : D) (v : V) (ρ : Env) (σ : St) {Q : St -> Hp -> Prop}, Rel c ρ σ H G -> Rep c G d v -> gD t d ρ (fun ρ' => ∀ σ', Rel c ρ' σ' H G -> Q σ' H) -> gOf c.K t v σ H Q
 | .nm i, d, v, ρ, σ, Q, r, e, q => by unfold gD at q; unfold gOf; exact q _ (r.put e)
 | .tp n ts, .tup ds, v, ρ, σ, Q, r, e, q => by
  unfold gD at q; unfold gOf
  obtain ⟨a, vs, rfl, ha, hv⟩ := e
  exact ⟨a, vs, rfl, .inl (sqT_same r.gh ha), by rw [<- hv.length]; exact q.1, gDs_read ts ds vs ρ σ r hv q.2⟩
 | .tp _ _, .non, _, _, _, _, _, _, q => by unfold gD at q; exact q.elim
 | .tp _ _, .bl _, _, _, _, _, _, _, q => by unfold gD at q; exact q.elim
 | .tp _ _, .int _, _, _, _, _, _, _, q => by unfold gD at q; exact q.elim
 | .tp _ _, .str _, _, _, _, _, _, _, q => by unfold gD at q; exact q.elim
 | .tp n ts, .lst m ds, v, ρ, σ, Q, r, e, q => by
  unfold gD at q; unfold gOf
  obtain ⟨a, vs, rfl, ha, _, hv⟩ := e
  exact ⟨a, vs, rfl, .inr (SqL.of (r.gh _ _ ha)), by rw [<- hv.length]; exact q.1, gDs_read ts ds vs ρ σ r hv q.2⟩
 | .tp _ _, .box, _, _, _, _, _, _, q => by unfold gD at q; exact q.elim
theorem gDs_read  : ∀ (ts : Tgs) (ds : List D) (vs : List V) (ρ : Env) (σ : St) {Q : St -> Hp -> Prop}, Rel c ρ σ H G -> Reps c G ds vs -> gDs ts ds ρ (fun ρ' => ∀ σ', Rel c ρ' σ' H G -> Q σ' H) -> gsOf c.K ts vs σ H Q
 | .nil, [], vs, ρ, σ, Q, r, e, q => by unfold gDs at q; unfold gsOf; exact ⟨e, q _ r⟩
 | .cons t ts, d :: ds, vs, ρ, σ, Q, r, e, q => by
  unfold gDs at q; unfold gsOf
  obtain ⟨v, ws, rfl, e1, e2⟩ := e
  exact ⟨v, ws, rfl, gD_read t d v ρ σ r e1 (gD_mono t d ρ (fun ρ' z σ' r' => gDs_read ts ds ws ρ' σ' r' e2 z) q)⟩
 | .nil, _ :: _, _, _, _, _, _, _, q => by unfold gDs at q; exact q.elim
 | .cons _ _, [], _, _, _, _, _, _, q => by unfold gDs at q; exact q.elim
end
structure En where
 nx : Env -> Prop
 rt : D -> Prop
 bk : Env -> Prop
 ct : Env -> Prop
abbrev WS := En -> Env -> Prop
structure En.Le (E E' : En) : Prop where
 nx : ∀ ρ, E.nx ρ -> E'.nx ρ
 rt : ∀ d, E.rt d -> E'.rt d
 bk : ∀ ρ, E.bk ρ -> E'.bk ρ
 ct : ∀ ρ, E.ct ρ -> E'.ct ρ
def SMono (W : WS) : Prop := ∀ E E' ρ, En.Le E E' -> W E ρ -> W E' ρ
def ends (c : Bk) (G : Hp) (Ds : Ends) : En where
 nx := fun ρ => ∀ σ H' G', Rel c ρ σ H' G' -> Same G G' -> Ds.nx σ H'
 rt := fun d => ∀ v H' G', Stp c.β c.H0 c.G0 H' G' -> Rep c G' d v -> Ds.rt v H'
 bk := fun ρ => ∀ σ H' G', Rel c ρ σ H' G' -> Same G G' -> Ds.bk σ H'
 ct := fun ρ => ∀ σ H' G', Rel c ρ σ H' G' -> Same G G' -> Ds.ct σ H'
theorem ends_le  (s : Same G G1) : En.Le (ends c G Ds) (ends c G1 Ds) :=
 ⟨fun ρ h σ H' G' r s' => h σ H' G' r (s.trans s'), fun d h => h, fun ρ h σ H' G' r s' => h σ H' G' r (s.trans s'), fun ρ h σ H' G' r s' => h σ H' G' r (s.trans s')⟩
def tDS (c : Bk) (W : WS) : TS := fun Ds σ H => ∃ ρ G, Rel c ρ σ H G /\ W (ends c G Ds) ρ
structure DS (X : Cx) (c : Bk) (st : Stmt) (W : WS) : Prop where
 mono : SMono W
 ps : PS X st (tDS c W)
structure DSs (X : Cx) (c : Bk) (sts : List Stmt) (W : WS) : Prop where
 mono : SMono W
 pss : PSs X sts (tDS c W)
section
variable {X : Cx} {c : Bk} {st : Stmt} {rest : List Stmt} {pos p p' : Pos} {e : Expr}
theorem ps_imp (h : PS X st t) (k : ∀ D σ H, t' D σ H -> t D σ H) : PS X st t' := fun pins s σ H D I q => h pins s σ H D I (k D σ H q)
theorem pss_imp (h : PSs X rest t) (k : ∀ D σ H, t' D σ H -> t D σ H) : PSs X rest t' := fun pins s σ H D I q => h pins s σ H D I (k D σ H q)
@[reducible] def nilS : WS := fun E ρ => E.nx ρ
@[reducible] def seqW (A B : WS) : WS := fun E ρ => A { E with nx := B E } ρ
theorem s_nil : DSs X c [] nilS := ⟨fun E E' ρ l q => l.nx _ q, pss_imp pss_nil fun D σ H ⟨ρ, G, r, q⟩ => q σ H G r (Same.refl _)⟩
theorem s_cons (h1 : DS X c st A) (h2 : DSs X c rest B) : DSs X c (st :: rest) (seqW A B) where
 mono := fun E E' ρ l q => h1.mono { E with nx := B E } _ ρ ⟨fun ρ' z => h2.mono _ _ ρ' l z, l.rt, l.bk, l.ct⟩ q
 pss := pss_imp (pss_cons h1.ps h2.pss) fun D σ H ⟨ρ, G, r, q⟩ => ⟨ρ, G, r, h1.mono { ends c G D with nx := B (ends c G D) } _ ρ ⟨fun ρ' z σ' H' G' r' s' => ⟨ρ', G', r', h2.mono _ _ ρ' (ends_le s') z⟩, fun d z => z, fun ρ' z => z, fun ρ' z => z⟩ q⟩
theorem s_one (h1 : DS X c st A) : DSs X c [st] A := ⟨h1.mono, pss_one h1.ps⟩
def frz (i : Nat) (ρ : Env) : Env := match ρ[i]? with | some (.own xs) => ρ.set i (.val (.lst true xs)) | _ => ρ
@[reducible] def frzW (i : Nat) (A : WS) : WS := fun E ρ => A E (frz i ρ)
theorem frz_rel  (r : Rel c ρ σ H G) (i : Nat) : ∃ G', Same G G' /\ Rel c (frz i ρ) σ H G' := by
 unfold frz
 split
 ·rename_i xs e; exact r.freeze e
 ·exact ⟨G, Same.refl _, r⟩
theorem s_frz (i : Nat) (h : DS X c st A) : DS X c st (frzW i A) where
 mono := fun E E' ρ l q => h.mono E E' _ l q
 ps := ps_imp h.ps fun D σ H ⟨ρ, G, r, q⟩ => by
  obtain ⟨G', s', r'⟩ := frz_rel r i
  exact ⟨frz i ρ, G', r', h.mono _ _ _ (ends_le s') q⟩
@[reducible] def ifS (C : WT) (A B : WS) : WS := fun E ρ => C ρ fun b => if b = true then A E ρ else B E ρ
theorem s_if  (hC : DT X c e C) (hA : DSs X c a A) (hB : DSs X c b B) : DS X c (.If e a b pos) (ifS C A B) where
 mono := fun E E' ρ l q => hC.mono ρ _ _ (fun b z => by
  cases b
  ·exact hB.mono _ _ ρ l z
  ·exact hA.mono _ _ ρ l z) q
 ps := ps_imp (ps_if hC.pt hA.pss hB.pss) fun D σ H ⟨ρ, G, r, q⟩ => ⟨ρ, G, r, hC.mono ρ _ _ (fun b z H' G' t => by
  cases b
  ·exact ⟨ρ, G', r.step t, hB.mono _ _ ρ (ends_le t.gg) z⟩
  ·exact ⟨ρ, G', r.step t, hA.mono _ _ ρ (ends_le t.gg) z⟩) q⟩
@[reducible] def retW (A : WE) : WS := fun E ρ => A ρ E.rt
theorem s_ret (hA : DE X c e A) : DS X c (.Return (some e) pos) (retW A) where
 mono := fun E E' ρ l q => hA.mono ρ _ _ l.rt q
 ps := ps_imp (ps_ret hA.pe) fun D σ H ⟨ρ, G, r, q⟩ => ⟨ρ, G, r, hA.mono ρ _ _ (fun d z v H' G' t e => z v H' G' (r.stp.trans t) e) q⟩
@[reducible] def asgW (t : Tg) (A : WE) : WS := fun E ρ => A ρ fun d => gD t d ρ E.nx
theorem asg_read  (mA : EMono A) (D : Ends) (σ : St) (H : Hp) (h : tDS c (asgW t A) D σ H) : tAsg (tD c A) (gOf c.K t) D σ H := by
 obtain ⟨ρ, G, r, q⟩ := h
 exact ⟨ρ, G, r, mA ρ _ _ (fun d z v H' G' t1 e1 => gD_read t d v ρ σ (r.step t1) e1 (gD_mono t d ρ (fun ρ' y σ' r' => y σ' H' G' r' t1.gg) z)) q⟩
theorem asg_mono  (mA : EMono A) : SMono (asgW t A) := fun E E' ρ l q => mA ρ _ _ (fun d z => gD_mono t d ρ l.nx z) q
theorem gn (i : Nat)  (hi : X.N[i]? = some x := by rfl) (hx : Loc X.env.scope x := by first | exact Or.inl rfl | exact Or.inr rfl) (hf : X.fn x = true \/ X.env.scope.names.lookup x = some .local := by first | exact .inl rfl | exact .inr rfl | assumption) (hN : X.N.Nodup := by decreasing_trivial) : PG X (.Name x p) (gName i) := pg_name hN hi hx hf
def ndB : List Str -> Bool
 | [] => true
 | x :: l => !l.elem x && ndB l
theorem ndB_of : ∀ {l : List Str}, ndB l = true -> l.Nodup
 | [], _ => List.nodup_nil
 | x :: l, h => by
  unfold ndB at h
  have := Bool.and_eq_true_iff.mp h
  refine List.nodup_cons.mpr ⟨fun m => ?_, ndB_of this.2⟩
  rw [List.elem_iff.mpr m] at this
  exact absurd this.1 (by decide)
theorem s_set (i : Nat)  (hA : DE X c e A) (hi : X.N[i]? = some x := by rfl) (hx : Loc X.env.scope x := by first | exact Or.inl rfl | exact Or.inr rfl) (hs : swapsWith e (some (.Name x p)) pos.line X.env = pure false := by rfl) (hf : X.fn x = true \/ X.env.scope.names.lookup x = some .local := by first | exact .inl rfl | exact .inr rfl | assumption) (hN : X.N.Nodup := by decreasing_trivial) : DS X c (.Assign [.Name x p] e pos) (asgW (.nm i) A) :=
 ⟨asg_mono hA.mono, ps_imp (ps_set hN hi hx hA.pe hs hf) fun D σ H h => asg_read (t := .nm i) hA.mono D σ H h⟩
@[reducible] def ownW (i : Nat) (F : WL) : WS := fun E ρ => F ρ fun xs => E.nx (ρ.set i (.own xs))
theorem own_mono  (mF : LMono F) : SMono (ownW i F) := fun E E' ρ l q => mF ρ _ _ (fun d z => l.nx _ z) q
theorem own_read  (mF : LMono F) (D : Ends) (σ : St) (H : Hp) (h : tDS c (ownW i F) D σ H) : tAsg (tDf c F) (gName i) D σ H := by
 obtain ⟨ρ, G, r, q⟩ := h
 refine ⟨ρ, G, r, mF ρ _ _ (fun xs z l vs H' G' t hl hg h0 hv => ?_) q⟩
 refine z _ H' G' ((r.step t).putOwn hl hg (r.new0 h0) (r.neβ h0) hv fun j ys e1 e2 => ?_) t.gg
 obtain ⟨a, vs', f1, f2, _⟩ := r.slot j _ e1
 rw [e2] at f1
 cases f1
 rw [h0] at f2; cases f2
theorem s_own (i : Nat)  (hF : DF X c e F) (hi : X.N[i]? = some x := by rfl) (hx : Loc X.env.scope x := by first | exact Or.inl rfl | exact Or.inr rfl) (hs : swapsWith e (some (.Name x p)) pos.line X.env = pure false := by rfl) (hf : X.fn x = true \/ X.env.scope.names.lookup x = some .local := by first | exact .inl rfl | exact .inr rfl | assumption) (hN : X.N.Nodup := by decreasing_trivial) : DS X c (.Assign [.Name x p] e pos) (ownW i F) :=
 ⟨own_mono hF.mono, ps_imp (ps_set hN hi hx hF.pe hs hf) fun D σ H h => own_read hF.mono D σ H h⟩
def appW (i : Nat) (A : WE) : WS := fun E ρ => match ρ[i]? with
 | some (.own xs) => A ρ fun d => xs.length < 100000 /\ E.nx (ρ.set i (.own (xs ++ [d])))
 | _ => False
theorem s_app (i : Nat)  (hA : DE X c e A) (hN : X.N[i]? = some x := by rfl) (hv : Vis X.env.scope x := by first | exact Or.inl rfl | exact Or.inr (Or.inl rfl) | exact Or.inr (Or.inr rfl))
  (hd : (x == ("__debug__" : Str)) = false := by decide) (hcd : (x == ("__classdict__" : Str)) = false := by decide)
  (hbase : attributeBase (.Name x p) "append" X.env (eval (.Name x p) X.env) = eval (.Name x p) X.env := by rfl)
  (hfew : ((backTo cpos (starEach [e] X.env)).all (fun x => !x.1) && (backToKw cpos (keywordEach [] X.env)).all (fun x => x.1.isSome)
   && decide (([e] : List Expr).length + ([] : List Keyword).length + (if ([] : List Keyword).isEmpty then 0 else 1) < 30)) = true := by rfl)
  (hline : (apos.endLine == cpos.line) = true := by rfl) (hs : starEach [e] X.env = (false, eval e X.env) :: starEach [] X.env := by rfl)
  (hsw : swapsWith (.Call (.Attribute (.Name x p) "append" apos) [e] [] cpos) none pos.line X.env = pure false := by rfl) : DS X c (.Expr (.Call (.Attribute (.Name x p) "append" apos) [e] [] cpos) pos) (appW i A) where
 mono := fun E E' ρ l q => by
  unfold appW at q ⊢
  split at q
  ·exact hA.mono ρ _ _ (fun d z => ⟨z.1, l.nx _ z.2⟩) q
  ·exact q.elim
 ps := ps_imp (ps_expr (pe_bm PySem.F.plainAttrs_list PySem.F.slot_list_append PySem.F.type_list_append mt_append (pe_var hN hv hd hcd) (pa_cons hA.pe pa_nil hs) hbase hfew hline hs rfl) hsw) fun D σ H ⟨ρ, G, r, q⟩ => by
  unfold appW at q
  split at q
  ·rename_i xs ek
   obtain ⟨a, vs, h1, h2, h3, h4, h5, h6⟩ := r.slot i _ ek
   refine ⟨.ref a, h1, .inl ⟨rfl, vs, SqL.of h2⟩, ρ, G, r, hA.mono ρ _ _ (fun d z w H' G' t e => ?_) q⟩
   refine ⟨a, vs, w, rfl, rfl, t.fr a _ h5 h2, ?_, ?_⟩
   ·rw [<- h6.length]; exact Nat.lt_of_lt_of_le z.1 (small5 (Nat.le_refl _))
   ·exact z.2 _ _ G' ((r.step t).write ek h1 ((h6.mono t.gg).append (.one e))) t.gg
  ·exact q.elim
def ixS (xs : List D) (k : D) (Q : Nat -> Prop) : Prop := match k with | .int j => (match ixN xs.length j with | some m => Q m | none => False) | _ => False
theorem ixS_mono  (f : ∀ m, Q m -> Q' m) (q : ixS xs k Q) : ixS xs k Q' := by
 unfold ixS at q ⊢
 split at q
 ·split at q
  ·exact f _ q
  ·exact q.elim
 ·exact q.elim
def putW (i : Nat) (I A : WE) : WS := fun E ρ => match ρ[i]? with
 | some (.own xs) => A ρ fun d => I ρ fun k => ixS xs k fun m => E.nx (ρ.set i (.own (xs.set m d)))
 | _ => False
theorem s_put (i : Nat)   (hA : DE X c e A) (hI : DE X c ie I) (hN : X.N[i]? = some x := by rfl) (hv : Vis X.env.scope x := by first | exact Or.inl rfl | exact Or.inr (Or.inl rfl) | exact Or.inr (Or.inr rfl))
  (hd : (x == ("__debug__" : Str)) = false := by decide) (hcd : (x == ("__classdict__" : Str)) = false := by decide)
  (ha : ∀ v, assign (.Subscript (.Name x p) ie tpos) X.env v = (do
   let ov <- holding [v] (eval (.Name x p) X.env)
   let iv <- holding [v, ov] (eval ie X.env)
   standAt tpos
   holding [v, ov, iv] (setItem ov iv v)
   release [v, ov, iv] []) := by intro _; rfl) (hs : swapsWithSole [.Subscript (.Name x p) ie tpos] e pos.line X.env = pure false := by rfl) (hw : swappedStores [.Subscript (.Name x p) ie tpos] e X.env = pure none := by rfl)
  (h1 : (assignEach [.Subscript (.Name x p) ie tpos] X.env).map (·.2) = [assign (.Subscript (.Name x p) ie tpos) X.env] := by rfl) : DS X c (.Assign [.Subscript (.Name x p) ie tpos] e pos) (putW i I A) where
 mono := fun E E' ρ l q => by
  unfold putW at q ⊢
  split at q
  ·exact hA.mono ρ _ _ (fun d z => hI.mono ρ _ _ (fun k y => ixS_mono (fun m => l.nx _) y) z) q
  ·exact q.elim
 ps := ps_imp (ps_asg hA.pe (pg_sub (pe_var hN hv hd hcd) hI.pe set_list ha) hs hw h1) fun D σ H ⟨ρ, G, r, q⟩ => by
  unfold putW at q
  split at q
  ·rename_i xs ek
   refine ⟨ρ, G, r, hA.mono ρ _ _ (fun d z v H1 G1 t1 e1 => ?_) q⟩
   obtain ⟨a, vs, h1, h2, h3, h4, h5, h6⟩ := (r.step t1).slot i _ ek
   refine ⟨.ref a, h1, ρ, G1, r.step t1, hI.mono ρ _ _ (fun k y w H2 G2 t2 e2 => ?_) z⟩
   unfold ixS at y
   split at y
   ·rename_i j
    split at y
    ·rename_i m em
     refine ⟨a, vs, j, m, rfl, e2, t2.fr a _ h5 h2, by rw [<- h6.length]; exact em, ?_⟩
     exact y σ _ G2 (((r.step t1).step t2).write ek h1 (Reps.set (e1.mono t2.gg) m (h6.mono t2.gg))) (t1.gg.trans t2.gg)
    ·exact y.elim
   ·exact y.elim
  ·exact q.elim
end
def ItOk (c : Bk) (J : It) (xs : List D) (G : Hp) : Prop := ∀ (i : Nat) (H2 G2 : Hp), Same G G2 -> Same G2 H2 -> BoxD c.β H2 G2 -> (∀ a, H2 a = none -> c.H0 a = none) ->
 (i = xs.length -> J.stop i H2) /\ ∀ d, xs[i]? = some d -> J.go i H2 /\ ∀ x H3, J.yld i H2 x H3 -> ∃ G3, Stp c.β H2 G2 H3 G3 /\ Rep c G3 d x
def tDI (c : Bk) (I : WL) : TI := fun σ H R => ∃ ρ G, Rel c ρ σ H G /\ I ρ fun xs => ∀ J H' G', Stp c.β H G H' G' -> ItOk c J xs G' -> R J H'
structure DI (X : Cx) (c : Bk) (tg iter : Expr) (I : WL) : Prop where
 mono : LMono I
 pi : PI X tg iter (tDI c I)
section
variable {X : Cx} {c : Bk} {tg e a b : Expr} {A B : WE} {pos p : Pos}
theorem pi_imp (h : PI X tg e wi) (k : ∀ σ H R, wi' σ H R -> wi σ H R) : PI X tg e wi' := fun pins s σ H R I q => h pins s σ H R I (k σ H R q)
theorem it_list   (hl : G l = some (.lst vs)) (h : Reps c G xs vs) : ItOk c (Itl c.K l) xs G := by
 intro i H2 G2 s1 s2 bx h0
 have q : SqL c.K H2 l vs := SqL.of (s2 _ _ (s1 _ _ hl))
 refine ⟨fun e => ⟨vs, q, by rw [e, h.length]; exact Nat.le_refl _⟩, fun d e => ?_⟩
 obtain ⟨v, e1, e2⟩ := h.get e
 refine ⟨⟨vs, v, q, e1⟩, fun x H3 y => ?_⟩
 obtain ⟨rfl, y⟩ := y
 have := y vs q
 rw [e1] at this; cases this
 exact ⟨G2, Stp.refl s2 bx, e2.mono s1⟩
theorem it_tup   (hl : SqT c.K G l vs) (h : Reps c G xs vs) : ItOk c (Itt c.K l) xs G := by
 intro i H2 G2 s1 s2 bx h0
 have q : SqT c.K H2 l vs := sqT_same (s1.trans s2) hl
 refine ⟨fun e => ⟨vs, q, by rw [e, h.length]; exact Nat.le_refl _⟩, fun d e => ?_⟩
 obtain ⟨v, e1, e2⟩ := h.get e
 refine ⟨⟨vs, v, q, e1⟩, fun x H3 y => ?_⟩
 obtain ⟨rfl, y⟩ := y
 have := y vs q
 rw [e1] at this; cases this
 exact ⟨G2, Stp.refl s2 bx, e2.mono s1⟩
def rngL (m : Int) (n : Nat) : List D := (List.range n).map fun (k : Nat) => D.int (m + (k : Int))
theorem it_rng (m : Int) (n : Nat) : ItOk c (Itr m n) (rngL m n) G := by
 intro i H2 G2 s1 s2 bx h0
 refine ⟨fun e => by show n <= i; unfold rngL at e; simp at e; omega, fun d e => ?_⟩
 unfold rngL at e
 rw [List.getElem?_map] at e
 have hi : i < n := by
  by_cases h : i < n
  ·exact h
  ·rw [List.getElem?_eq_none (by simp; omega)] at e; cases e
 rw [List.getElem?_range hi] at e
 cases e
 exact ⟨hi, fun x H3 ⟨y1, y2⟩ => ⟨G2, by rw [y1]; exact Stp.refl s2 bx, y2⟩⟩
def rng1I (A : WE) : WL := fun ρ Q => A ρ fun d => match d with | .int n => (-(2 ^ 62) <= n /\ n < 2 ^ 62) /\ Q (rngL 0 n.toNat) | _ => False
theorem i_rng1 (hA : DE X c a A) (hg : Gl X "range" := by rfl) (hs : starEach [a] X.env = [(false, eval a X.env)] := by rfl) (hm : X.mg "range" = none := by decreasing_trivial) : DI X c tg (.Call (.Name "range" p) [a] [] pos) (rng1I A) where
 mono := fun ρ Q Q' k q => hA.mono ρ _ _ (fun d z => by cases d <;> first | exact ⟨z.1, k _ z.2⟩ | exact z) q
 pi := pi_imp (pi_range1 hg hm (pa_cons hA.pe pa_nil hs) hs) fun σ H R ⟨ρ, G, r, q⟩ => ⟨ρ, G, r, hA.mono ρ _ _ (fun d z v H' G' t e => by
  cases d with
  | int n => exact ⟨n, by cases e; rfl, z.1.1, z.1.2, z.2 _ H' G' t (it_rng 0 _)⟩
  | _ => exact z.elim) q⟩
def zipL : List D -> List D -> List D
 | x :: xs, y :: ys => .tup [x, y] :: zipL xs ys
 | _, _ => []
theorem zipL_get : ∀ {xs ys : List D} {i : Nat} {d : D}, (zipL xs ys)[i]? = some d -> ∃ x y, xs[i]? = some x /\ ys[i]? = some y /\ d = .tup [x, y]
 | x :: xs, y :: ys, 0, d, e => by simp [zipL] at e; exact ⟨x, y, rfl, rfl, e.symm⟩
 | x :: xs, y :: ys, i + 1, d, e => by simp [zipL] at e; simpa using zipL_get e
 | [], _, _, _, e => by simp [zipL] at e
 | _ :: _, [], _, _, e => by simp [zipL] at e
theorem zipL_len : ∀ (xs ys : List D), (zipL xs ys).length = min xs.length ys.length
 | [], _ => by simp [zipL]
 | _ :: _, [] => by simp [zipL]
 | x :: xs, y :: ys => by simp [zipL, zipL_len xs ys]
end
def loopW (t : Tg) (B : WS) (E : En) : List D -> Env -> Prop
 | [], ρ => E.nx ρ
 | x :: xs, ρ => gD t x ρ fun ρ' => B { nx := loopW t B E xs, ct := loopW t B E xs, bk := E.nx, rt := E.rt } ρ'
@[reducible] def forW (I : WL) (t : Tg) (B : WS) : WS := fun E ρ => I ρ fun xs => loopW t B E xs ρ
theorem loop_mono  (mB : SMono B) (l : En.Le E E') : ∀ (xs : List D) (ρ : Env), loopW t B E xs ρ -> loopW t B E' xs ρ
 | [], ρ, q => l.nx ρ q
 | x :: xs, ρ, q => gD_mono t x ρ (fun ρ' z => mB { nx := loopW t B E xs, ct := loopW t B E xs, bk := E.nx, rt := E.rt } _ ρ' ⟨loop_mono mB l xs, l.rt, l.nx, loop_mono mB l xs⟩ z) q
section
variable {X : Cx} {c : Bk} {tg iter e : Expr} {body : List Stmt} {pos p : Pos}
theorem s_for (t : Tg) (hI : DI X c tg iter I) (hg : PG X tg (gOf c.K t)) (hB : DSs X c body B) (hp : PassesOwn (model X.prog X.w) X.A X.env X.xe := by exact PassesOwn.never) (hc : X.calm = true := by rfl) (hs : ∀ x, foldedSetIterable iter X.env x = pure x := by intro _; rfl) :
  DS X c (.For tg iter body [] pos) (forW I t B) where
 mono := fun E E' ρ l q => hI.mono ρ _ _ (fun xs z => loop_mono hB.mono l xs ρ z) q
 ps := ps_imp (ps_for hp hc hI.pi hg hB.pss hs) fun D σ H ⟨ρ, G, r, q⟩ => ⟨ρ, G, r, hI.mono ρ _ _ (fun xs z J H1 G1 t1 it => by
  refine ⟨fun i m σ H => m = xs.length - i /\ i <= xs.length /\ ∃ ρ' G', Rel c ρ' σ H G' /\ Same G1 G' /\ loopW t B (ends c G D) (xs.drop i) ρ', ⟨xs.length, rfl, Nat.zero_le _, ρ, G1, r.step t1, Same.refl _, z⟩, ?_⟩
  rintro i m σ' H' ⟨rfl, hi, ρ', G', r', s', q'⟩
  have ok := it i H' G' s' r'.gh r'.bx (fun a z => r'.new0 z)
  by_cases hlt : i < xs.length
  ·refine .inr ?_
   have ed : xs.drop i = xs[i] :: xs.drop (i + 1) := List.drop_eq_getElem_cons hlt
   rw [ed] at q'
   obtain ⟨go, yl⟩ := ok.2 xs[i] (List.getElem?_eq_getElem hlt)
   refine ⟨go, fun σ H => ∃ ρ' G', Rel c ρ' σ H G' /\ Same G1 G' /\ loopW t B (ends c G D) (xs.drop (i + 1)) ρ', fun σ2 H2 h => ⟨xs.length - (i + 1), by omega, rfl, by omega, h⟩, fun x H3 y => ?_⟩
   obtain ⟨G3, t3, e3⟩ := yl x H3 y
   refine gD_read t xs[i] x ρ' σ' (r'.step t3) e3 (gD_mono t xs[i] ρ' (fun ρ2 z2 σ2 r2 => ?_) q')
   refine ⟨ρ2, G3, r2, hB.mono { nx := loopW t B (ends c G D) (xs.drop (i + 1)), ct := loopW t B (ends c G D) (xs.drop (i + 1)), bk := (ends c G D).nx, rt := (ends c G D).rt } _ ρ2 ⟨fun ρ3 z3 σ3 H4 G4 r4 s4 => ⟨ρ3, G4, r4, (s'.trans t3.gg).trans s4, z3⟩, fun d z => z, fun ρ3 z3 σ3 H4 G4 r4 s4 => z3 σ3 H4 G4 r4 (((t1.gg.trans s').trans t3.gg).trans s4), fun ρ3 z3 σ3 H4 G4 r4 s4 => ⟨ρ3, G4, r4, (s'.trans t3.gg).trans s4, z3⟩⟩ z2⟩
  ·have e : i = xs.length := by omega
   subst e
   rw [List.drop_length] at q'
   exact .inl ⟨ok.1 rfl, q' σ' H' G' r' (t1.gg.trans s')⟩) q⟩
def startE (n : Nat) (ds : List D) : Env := ds.map (fun d => Sl.val d.old) ++ List.replicate (n - ds.length) .un
def fnW (n : Nat) (B : WS) : Fn := fun ds Q => B { nx := fun _ => Q .non, rt := Q, bk := fun _ => False, ct := fun _ => False } (startE n ds)
theorem startE_rel    (gh : Same G H) (bx : BoxD β H G) (h : Reps ⟨K, β, fun _ => none, G⟩ G ds vs) : Rel ⟨K, β, H, G⟩ (startE N.length ds) (L2.start N vs) H G := by
 have noOwn : ∀ (i : Nat) xs, (startE N.length ds)[i]? ≠ some (.own xs) := fun i xs e => by
  unfold startE at e
  by_cases hi : i < ds.length
  ·rw [List.getElem?_append_left (by simpa using hi), List.getElem?_map, List.getElem?_eq_getElem hi] at e; cases e
  ·rw [List.getElem?_append_right (by simpa using hi), List.getElem?_replicate] at e
   split at e <;> cases e
 refine ⟨by unfold startE L2.start; simp [h.length], Stp.refl gh bx, fun i s e => ?_, fun i j a xs ys e1 => absurd e1 (noOwn i xs)⟩
 unfold startE at e
 by_cases hi : i < ds.length
 ·rw [List.getElem?_append_left (by simpa using hi), List.getElem?_map] at e
  obtain ⟨v, e1, e2⟩ := h.get (List.getElem?_eq_getElem hi)
  rw [List.getElem?_eq_getElem hi] at e
  cases e
  refine ⟨v, ?_, Rep.hand (c := ⟨K, β, fun _ => none, G⟩) (c' := ⟨K, β, H, G⟩) rfl rfl e2⟩
  unfold L2.start
  rw [List.getElem?_append_left (by rw [List.length_map, <- h.length]; exact hi), List.getElem?_map, e1]; rfl
 ·rw [List.getElem?_append_right (by simpa using hi), List.getElem?_replicate] at e
  split at e <;> cases e
  trivial
theorem fn_ok       (F : Fun K x qual st f fd)
  (hB : ∀ {cdv : Value} {A : Around} {outer : List PySem.Env} {s : Shared} {H : Hp} {E : XK} {β : Addr} {G : Hp}, N.Nodup -> Room k (A.deeper (PyProof.Rows.envOfC qual (defScope st) s.heap.objs.size f cdv)) ->
   DSs (cxOf CX0 P w K mg base N qual (defScope st) f cdv A outer s H E).nox ⟨K, β, H, G⟩ (defBody st) B) (S : FnScope N ps (defScope st) := by exact ⟨rfl, rfl, rfl, by decide +kernel, rfl, by decide +kernel, by decide +kernel⟩) : FnOk P w K mg base CX0 (k + 1) f fd ps (spD K ps.length (fnW N.length B)) := by
 refine F.ok S (fun vs H Q E ⟨β, G, ds, _, _, _, h, _⟩ => h) (fun cdv A outer s H vs Q E hr ⟨β, G, ds, gh, bx, hv, hl, P', q, hP⟩ => ?_)
 have h := @hB cdv A outer s H E β G S.nd hr
 refine ⟨_, h.pss, startE N.length ds, G, startE_rel gh bx hv, h.mono { nx := fun _ => P' .non, rt := P', bk := fun _ => False, ct := fun _ => False } _ _ ⟨fun ρ z σ H' G' r s' => hP _ z .non H' G' r.stp rfl, fun d z v H' G' t e => hP _ z v H' G' t e, fun ρ z => z.elim, fun ρ z => z.elim⟩ q⟩
end
section
variable {X : Cx} {c : Bk} {a b : Expr} {A B : WE} {pos p tpos : Pos} {es : List Expr}
end
def subE (sub : List (Option Nat)) (ρ : Env) : Env := sub.map fun o => match o with
 | some j => (match ρ[j]? with | some (.val d) => .val d | _ => .un)
 | none => .un
theorem subE_rel   (sub : List (Option Nat)) (r : Rel c ρ σ H G) : Rel c (subE sub ρ) (subSt sub σ) H G := by
 have noOwn : ∀ (i : Nat) xs, (subE sub ρ)[i]? ≠ some (.own xs) := fun i xs e => by
  unfold subE at e
  rw [List.getElem?_map] at e
  cases h : sub[i]? with
  | none => rw [h] at e; cases e
  | some o =>
   rw [h] at e
   cases o with
   | none => cases e
   | some j =>
    simp only [Option.map_some, Option.some.injEq] at e
    split at e <;> cases e
 refine ⟨by unfold subE subSt; simp, r.stp, fun i s e => ?_, fun i j a xs ys e1 => absurd e1 (noOwn i xs)⟩
 unfold subE at e
 rw [List.getElem?_map] at e
 cases h : sub[i]? with
 | none => rw [h] at e; cases e
 | some o =>
  rw [h] at e
  cases o with
  | none => cases e; trivial
  | some j =>
   simp only [Option.map_some, Option.some.injEq] at e
   split at e
   ·rename_i d hd
    subst e
    obtain ⟨v, h1, h2⟩ := r.slot j _ hd
    refine ⟨v, ?_, h2⟩
    unfold subSt
    rw [List.getElem?_map, h]
    show some ((σ[j]?).join) = _
    rw [h1]; rfl
   ·subst e; trivial
mutual
def okT (sub : List (Option Nat)) : Tg -> Bool
 | .nm i => decide (sub[i]? = some none)
 | .tp _ ts => okTs sub ts
def okTs (sub : List (Option Nat)) : Tgs -> Bool
 | .nil => true
 | .cons t ts => okT sub t && okTs sub ts
end
mutual
theorem gMono (K : PySem.W.Frag) : ∀ t : Tg, GMono (gOf K t)
 | .nm i => by unfold gOf; exact gm_name
 | .tp n ts => by unfold gOf; exact gm_seq (gsMono K ts)
theorem gsMono (K : PySem.W.Frag) : ∀ t : Tgs, GsMono (gsOf K t)
 | .nil => by unfold gsOf; exact gms_nil
 | .cons t ts => by unfold gsOf; exact gms_cons (gMono K t) (gsMono K ts)
end
mutual
theorem gKeep (K : PySem.W.Frag) (sub : List (Option Nat)) : ∀ t : Tg, okT sub t = true -> GKeep sub (gOf K t)
 | .nm i, h => by unfold gOf; unfold okT at h; exact gk_name (of_decide_eq_true h)
 | .tp n ts, h => by unfold gOf; unfold okT at h; exact gk_seq (gsKeep K sub ts h)
theorem gsKeep (K : PySem.W.Frag) (sub : List (Option Nat)) : ∀ t : Tgs, okTs sub t = true -> GKeeps sub (gsOf K t)
 | .nil, _ => by unfold gsOf; exact gks_nil
 | .cons t ts, h => by
  unfold gsOf
  unfold okTs at h
  have h' := (Bool.and_eq_true _ _ ▸ h : okT sub t = true /\ okTs sub ts = true)
  exact gks_cons (gKeep K sub t h'.1) (gMono K t) (gsKeep K sub ts h'.2) (gsMono K ts)
end
def compL (t : Tg) (C : WT) (E : WE) (ρc : Env) (Q : List D -> Prop) : List D -> List D -> Prop
 | [], acc => Q acc
 | x :: xs, acc => gD t x ρc fun ρ2 => C ρ2 fun b => if b = true then E ρ2 fun d => compL t C E ρc Q xs (acc ++ [d]) else compL t C E ρc Q xs acc
theorem compL_mono  (mC : TMono C) (mE : EMono E)  (k : ∀ xs, Q xs -> Q' xs) : ∀ xs acc, compL t C E ρc Q xs acc -> compL t C E ρc Q' xs acc
 | [], acc, q => k _ q
 | x :: xs, acc, q => gD_mono t x ρc (fun ρ2 z => mC ρ2 _ _ (fun b z => by
  cases b
  ·exact compL_mono mC mE k xs acc z
  ·exact mE ρ2 _ _ (fun d z => compL_mono mC mE k xs _ z) z) z) q
@[reducible] def lcompW (sub : List (Option Nat)) (I : WL) (t : Tg) (C : WT) (E : WE) : WL := fun ρ Q => I ρ fun xs => xs.length <= 100000 /\ compL t C E (subE sub ρ) Q xs []
theorem lcomp_mono   (mI : LMono I) (mC : TMono C) (mE : EMono E) : LMono (lcompW sub I t C E) := fun ρ Q Q' k q => mI ρ _ _ (fun xs z => ⟨z.1, compL_mono mC mE k xs [] z.2⟩) q
theorem Stp.wr  (s : Stp β H G H' G')  (h0 : H l = none) (hg : G' l = none) (hb : l ≠ β) : Stp β H G (upd H' l o) G' :=
 ⟨s.gg, fun a u e => by rw [upd_ne (fun z => by rw [z, hg] at e; cases e)]; exact s.gh a u e, fun a u n e => by rw [upd_ne (fun z => by rw [z, h0] at e; cases e)]; exact s.fr a u n e, s.nw,
 ⟨by obtain ⟨cc, p, r, d, ns, h, q⟩ := s.bx.ex; exact ⟨cc, p, r, d, ns, by rw [upd_ne (Ne.symm hb)]; exact h, q⟩, s.bx.still⟩, s.b0, fun cc p r d h => by
  obtain ⟨p', r', d', e⟩ := s.bc cc p r d h
  exact ⟨p', r', d', by rw [upd_ne (Ne.symm hb)]; exact e⟩⟩
theorem Stp.still_none  (s : Stp β H G H' G')  (h : H l = some o) (hg : G l = none) (hs : ¬ stillO o := by exact id) : G' l = none := by
 cases e : G' l with
 | none => rfl
 | some u =>
  rcases s.nw l (by rw [e]; simp) with z | z | ⟨o', z, st⟩
  ·exact absurd hg z
  ·rw [h] at z; cases z
  ·rw [h] at z; cases z; exact absurd st hs
theorem comp_read    (mI : LMono I) (mC : TMono C) (mE : EMono E) (σ : St) (H : Hp) (Q : VK) (h : tDf c (lcompW sub I t C E) σ H Q) :
  tLComp sub (tDI c I) (gOf c.K t) (tDt c C) (tD c E) σ H Q := by
 obtain ⟨ρ, G, r, q⟩ := h
 refine ⟨ρ, G, r, mI ρ _ _ (fun xs ⟨hz, z⟩ J H1 G1 t1 it l hl => ?_) q⟩
 have hb : l ≠ c.β := (r.step t1).neβ hl
 have hg1 : G1 l = none := none_of_same t1.gh hl
 refine ⟨fun i m ys H2 => m = xs.length - i /\ i <= xs.length /\ ys.length <= i /\ H2 l = some (.lst ys) /\ ∃ G2 acc, Stp c.β H1 G1 H2 G2 /\ G2 l = none /\ Reps c G2 acc ys /\
  compL t C E (subE sub ρ) (fun ds => ∀ l vs H' G', Stp c.β H G H' G' -> H' l = some (.lst vs) -> G' l = none -> H l = none -> Reps c G' ds vs -> Q (.ref l) H') (xs.drop i) acc,
  ⟨xs.length, rfl, Nat.zero_le _, Nat.le_refl _, upd_same, G1, [], Stp.own t1.gh t1.bx hl, hg1, rfl, z⟩, ?_⟩
 rintro i m ys H2 ⟨rfl, hi, hyl, h2, G2, acc, t2, hg2, hv, q2⟩
 refine ⟨h2, ?_⟩
 have r2 := (r.step t1).step t2
 have ok := it i H2 G2 t2.gg t2.gh t2.bx (fun a z => r2.new0 z)
 by_cases hlt : i < xs.length
 ·refine .inr ?_
  rw [List.drop_eq_getElem_cons hlt] at q2
  obtain ⟨go, yl⟩ := ok.2 xs[i] (List.getElem?_eq_getElem hlt)
  refine ⟨go, fun ys' H3 => ys'.length <= i + 1 /\ H3 l = some (.lst ys') /\ ∃ G3 acc', Stp c.β H1 G1 H3 G3 /\ G3 l = none /\ Reps c G3 acc' ys' /\ compL t C E (subE sub ρ) (fun ds => ∀ l vs H' G', Stp c.β H G H' G' -> H' l = some (.lst vs) -> G' l = none -> H l = none -> Reps c G' ds vs -> Q (.ref l) H') (xs.drop (i + 1)) acc',
   fun ys' H3 ⟨a1, a2, a3⟩ => ⟨xs.length - (i + 1), by omega, rfl, by omega, a1, a2, a3⟩, fun x H3 y => ?_⟩
  obtain ⟨G3, t3, e3⟩ := yl x H3 y
  have h3 : H3 l = some (.lst ys) := t3.fr l _ hb h2
  have hg3 : G3 l = none := t3.still_none h2 hg2
  have t13 := t2.trans t3
  refine gD_read t xs[i] x (subE sub ρ) (subSt sub σ) (subE_rel sub ((r.step t1).step t13)) e3 (gD_mono t xs[i] _ (fun ρ2 z2 σ2 rr => ?_) q2)
  refine ⟨ρ2, G3, rr, mC ρ2 _ _ (fun b z3 H4 G4 t4 => ?_) z2⟩
  have h4 : H4 l = some (.lst ys) := t4.fr l _ hb h3
  have hg4 : G4 l = none := t4.still_none h3 hg3
  have t14 := t13.trans t4
  cases b
  ·exact ⟨Nat.le_succ_of_le hyl, h4, G4, acc, t14, hg4, (hv.mono t3.gg).mono t4.gg, z3⟩
  ·refine ⟨ρ2, G4, rr.step t4, mE ρ2 _ _ (fun d z4 y H5 G5 t5 e5 => ?_) z3⟩
   have h5 : H5 l = some (.lst ys) := t5.fr l _ hb h4
   have hg5 : G5 l = none := t5.still_none h4 hg4
   refine ⟨h5, ?_, by rw [List.length_append]; exact Nat.add_le_add_right hyl 1, upd_same, G5, acc ++ [d], (t14.trans t5).wr hl hg5 hb, hg5, (((hv.mono t3.gg).mono t4.gg).mono t5.gg).append (.one e5), z4⟩
   have := small5 (Nat.le_refl 100000)
   omega
 ·have e : i = xs.length := by omega
  subst e
  rw [List.drop_length] at q2
  exact .inl ⟨ok.1 rfl, q2 l ys H2 G2 (t1.trans t2) h2 hg2 (t1.free hl) hv⟩
structure DIf (X : Cx) (c : Bk) (ifs : List Expr) (C : WT) : Prop where
 mono : TMono C
 pf : PIfs X ifs (tDt c C)
@[reducible] def noIf : WT := fun _ Q => Q true
section
variable {X : Cx} {c : Bk} {tg iter elt e : Expr} {ifs : List Expr} {scope : Scope} {pos p spos : Pos} {Nc : List Str} {sub : List (Option Nat)} {I : WL} {C : WT} {E : WE}
theorem if_none : DIf X c [] noIf := ⟨fun ρ Q Q' k q => k _ q, fun pins s σ H Q I ⟨ρ, G, r, q⟩ => pif0 pins s σ H Q I (q H G r.refl)⟩
theorem f_lcomp (t : Tg) (hI : DI X c tg iter I) (hg : ∀ {cl L s0 H0 ex}, PG (cxComp X Nc scope cl L s0 H0 ex) tg (gOf c.K t)) (hC : ∀ {cl L s0 H0 ex}, DIf (cxComp X Nc scope cl L s0 H0 ex) c ifs C) (hE : ∀ {cl L s0 H0 ex}, DE (cxComp X Nc scope cl L s0 H0 ex) c elt E)
  (hS : compOk X.N X.env.scope scope Nc sub = true := by kernel_rfl) (hok : okT sub t = true := by decide +kernel) (hc : X.calm = true := by rfl) (hs : ∀ x, foldedSetIterable iter X.env x = pure x := by intro _; rfl) :
  DF X c (.ListComp elt [⟨tg, iter, ifs, 0⟩] scope pos) (lcompW sub I t C E) :=
 have mC := (@hC [] 0 X.s₀ (fun _ => none) []).mono
 have mE := (@hE [] 0 X.s₀ (fun _ => none) []).mono
 ⟨lcomp_mono hI.mono mC mE, pe_imp (pe_lcomp hc (CompScope.of hS) hI.pi (fun cl L s0 H0 ex => @hg cl L s0 H0 ex) (gKeep c.K sub t hok) (gMono c.K t) (fun cl L s0 H0 ex => (@hC cl L s0 H0 ex).pf) (fun cl L s0 H0 ex => (@hE cl L s0 H0 ex).pe) hs) (comp_read hI.mono mC mE)⟩
theorem s_setL (i : Nat) (t : Tg) (hI : DI X c tg iter I) (hg : ∀ {cl L s0 H0 ex}, PG (cxComp X Nc scope cl L s0 H0 ex) tg (gOf c.K t)) (hC : ∀ {cl L s0 H0 ex}, DIf (cxComp X Nc scope cl L s0 H0 ex) c ifs C) (hE : ∀ {cl L s0 H0 ex}, DE (cxComp X Nc scope cl L s0 H0 ex) c elt E) (hi : X.N[i]? = some x := by rfl) (hy : X.env.scope.names.lookup x = some .local := by rfl) (hS : compOk X.N X.env.scope scope Nc sub = true := by kernel_rfl) (hok : okT sub t = true := by decide +kernel) (hc : X.calm = true := by rfl) (hsw : swapsWith (.ListComp elt [⟨tg, iter, ifs, 0⟩] scope pos) (some (.Name x p)) spos.line X.env = pure true := by rfl) (hs : ∀ x, foldedSetIterable iter X.env x = pure x := by intro _; rfl) (hN : X.N.Nodup := by decreasing_trivial) :
  DS X c (.Assign [.Name x p] (.ListComp elt [⟨tg, iter, ifs, 0⟩] scope pos) spos) (asgW (.nm i) (valW (lcompW sub I t C E))) := by
 have mC := (@hC [] 0 X.s₀ (fun _ => none) []).mono
 have mE := (@hE [] 0 X.s₀ (fun _ => none) []).mono
 have mL := lcomp_mono (sub := sub) (t := t) hI.mono mC mE
 have mV : EMono (valW (lcompW sub I t C E)) := fun ρ Q Q' k q => mL ρ _ _ (fun xs z => k _ z) q
 refine ⟨asg_mono mV, ps_imp (ps_setL hc hN hi hy (CompScope.of hS) hI.pi (fun cl L s0 H0 ex => @hg cl L s0 H0 ex) (gKeep c.K sub t hok) (gMono c.K t) (fun cl L s0 H0 ex => (@hC cl L s0 H0 ex).pf) (fun cl L s0 H0 ex => (@hE cl L s0 H0 ex).pe) hsw hs) fun D σ H ⟨ρ, G, r, q⟩ => ?_⟩
 refine comp_read hI.mono mC mE σ H _ ⟨ρ, G, r, mL ρ _ _ (fun xs z l vs H' G' t hl hg h0 hv => ?_) q⟩
 have hb := r.neβ h0
 exact z (σ.set i (some (.ref l))) H' (upd G' l (.lst vs)) ((r.step (t.still hl h0 hb hg)).put ⟨l, vs, rfl, upd_same, fun _ => r.new0 h0, hv.mono (same_g hg)⟩) (t.gg.trans (same_g hg))
theorem s_ownL (i : Nat) (t : Tg) (hI : DI X c tg iter I) (hg : ∀ {cl L s0 H0 ex}, PG (cxComp X Nc scope cl L s0 H0 ex) tg (gOf c.K t)) (hC : ∀ {cl L s0 H0 ex}, DIf (cxComp X Nc scope cl L s0 H0 ex) c ifs C) (hE : ∀ {cl L s0 H0 ex}, DE (cxComp X Nc scope cl L s0 H0 ex) c elt E) (hi : X.N[i]? = some x := by rfl) (hy : X.env.scope.names.lookup x = some .local := by rfl) (hS : compOk X.N X.env.scope scope Nc sub = true := by kernel_rfl) (hok : okT sub t = true := by decide +kernel) (hc : X.calm = true := by rfl) (hsw : swapsWith (.ListComp elt [⟨tg, iter, ifs, 0⟩] scope pos) (some (.Name x p)) spos.line X.env = pure true := by rfl) (hs : ∀ x, foldedSetIterable iter X.env x = pure x := by intro _; rfl) (hN : X.N.Nodup := by decreasing_trivial) :
  DS X c (.Assign [.Name x p] (.ListComp elt [⟨tg, iter, ifs, 0⟩] scope pos) spos) (ownW i (lcompW sub I t C E)) := by
 have mC := (@hC [] 0 X.s₀ (fun _ => none) []).mono
 have mE := (@hE [] 0 X.s₀ (fun _ => none) []).mono
 have mL := lcomp_mono (sub := sub) (t := t) hI.mono mC mE
 refine ⟨own_mono mL, ps_imp (ps_setL hc hN hi hy (CompScope.of hS) hI.pi (fun cl L s0 H0 ex => @hg cl L s0 H0 ex) (gKeep c.K sub t hok) (gMono c.K t) (fun cl L s0 H0 ex => (@hC cl L s0 H0 ex).pf) (fun cl L s0 H0 ex => (@hE cl L s0 H0 ex).pe) hsw hs) fun D σ H h => ?_⟩
 exact comp_read hI.mono mC mE σ H _ (own_read mL D σ H h)
end
section
variable {X : Cx} {c : Bk} {tg iter tg2 iter2 elt e : Expr} {ifs : List Expr} {scope : Scope} {pos p spos : Pos} {Nc : List Str} {sub : List (Option Nat)} {I I2 : WL} {C : WT} {E : WE}
end
structure Bt (mg : Str -> Option Value) : Prop where
 list : mg "list" = none
 len : mg "len" = none
 range : mg "range" = none
 all : mg "all" = none
 any : mg "any" = none
 isinstance : mg "isinstance" = none
 tuple : mg "tuple" = none
 bool : mg "bool" = none
 int : mg "int" = none
 str : mg "str" = none
 sorted : mg "sorted" = none
 set : mg "set" = none
 zip : mg "zip" = none
 enumerate : mg "enumerate" = none
 min : mg "min" = none
 max : mg "max" = none
def w__law_take : Fn
 | [.box, .int m], Q => (0 < m /\ m < 2 ^ 64) /\ ∀ x : Int, 0 <= x -> x < m -> Q (.int x)
 | _, _ => False
def lawW (n : Nat) (B : WS) : Prop := B { nx := fun _ => False, rt := fun d => d = .bl true, bk := fun _ => False, ct := fun _ => False } (.un :: .val .box :: List.replicate n .un)
end Fd
namespace L2
open PySem PySem.Spec PyProof.Rows
section
variable {X : Cx}
def rSw : V -> List V -> Hp -> VK -> Prop := fun x xs H Q => ∃ a b, x = .str a /\ xs = [.str b] /\ Q (.bl (Txt.startswith a b)) H
theorem mt_startswith : MtR X "str.startswith" rSw := by
 intro pins s σ H x xs v us Q I rx rv h
 obtain ⟨a, b, rfl, rfl, q⟩ := h
 obtain ⟨t, rfl⟩ := rx
 obtain ⟨u, rfl, t2, rfl⟩ := vals1 rv
 exact SC.startswith ⟨.bl _, H, I, rfl, q⟩
theorem vals_strs : ∀ l : List (Str × Tok), Vals ((l.map (·.1)).map V.str) (strValues l)
 | [] => .nil
 | p :: l => .cons ⟨p.2, rfl⟩ (vals_strs l)
theorem strs_vals : ∀ {ts : List Str} {us : List Value}, Vals (ts.map V.str) us -> ∃ l : List (Str × Tok), l.map (·.1) = ts /\ us = strValues l
 | [], _, .nil => ⟨[], rfl, rfl⟩
 | t :: ts, _, .cons ⟨k, e⟩ r => by
  subst e
  obtain ⟨l, h1, h2⟩ := strs_vals r
  exact ⟨(t, k) :: l, by simp [h1], by subst h2; rfl⟩
def rSplit : V -> List V -> Hp -> VK -> Prop := fun x xs H Q => ∃ a b, x = .str a /\ xs = [.str b] /\ b.length ≠ 0 /\ a.length <= 100000 /\ ∀ p, H p = none -> Q (.ref p) (upd H p (.lst ((Txt.split a b).map V.str)))
theorem mt_split : MtR X "str.split" rSplit := by
 intro pins s σ H x xs v us Q I rx rv h
 obtain ⟨a, b, rfl, rfl, hb, ha, q⟩ := h
 obtain ⟨t, rfl⟩ := rx
 obtain ⟨u, rfl, t2, rfl⟩ := vals1 rv
 have hz : (Txt.split a b).length <= sizeLine := by
  have := split_le a b
  rw [sizeLine_eq]; omega
 have ha' : a.length <= sizeLine := by rw [sizeLine_eq]; omega
 have hy : (b.length == 0) = false := by simp [hb]
 have fin : ∀ (l : List (Str × Tok)) (k : Nat), l.map (·.1) = Txt.split a b -> EP X pins σ Q (.ref s.heap.objs.size) { s with heap := s.heap.push { cls := .type "list", data := .seq (strValues l).toArray }, toks := k } := fun l k e =>
  ⟨.ref _, _, I.lnew (its := strValues l) (t' := k) (vals_strs l) (by rw [e, List.length_map]; exact hz), rfl, by rw [e]; exact q _ I.fresh⟩
 cases h1 : (decide (a.length < b.length) || decide (Builtin.Str.strKind a < Builtin.Str.strKind b))
 ·cases hf : (Builtin.Str.occurrences a b 0 a.length (a.length + 1)).isEmpty
  ·have e : Txt.split a b = Builtin.Str.partsBetween a (Builtin.Str.occurrences a b 0 a.length (a.length + 1)) b.length := (if_neg (ne_true_of_eq_false h1)).trans (if_neg (ne_true_of_eq_false hf))
   refine call_meets F.slot_str_split (typeIs_str _ _ _) F.entry_str_split (F.args_str_split_2 _ _) (meets_str_split_sep a b t t2 h1 hy hf ha' (by rw [<- e]; exact hz)) ?_
   rw [strsFrom_eq]
   exact fin _ _ ((numbered_texts _ _).trans e.symm)
  ·exact call_meets F.slot_str_split (typeIs_str _ _ _) F.entry_str_split (F.args_str_split_2 _ _) (meets_str_split_not_found a b t t2 h1 hy hf)
    (fin [(a, t)] s.toks ((if_neg (ne_true_of_eq_false h1)).trans (if_pos hf)).symm)
 ·exact call_meets F.slot_str_split (typeIs_str _ _ _) F.entry_str_split (F.args_str_split_2 _ _) (meets_str_split_cannot_occur a b t t2 h1)
   (fin [(a, t)] s.toks (if_pos h1).symm)
def rJoin (K : PySem.W.Frag) : V -> List V -> Hp -> VK -> Prop := fun x xs H Q => ∃ a p ts, x = .str a /\ xs = [.ref p] /\ SqL K H p (ts.map V.str) /\ (∀ t ∈ ts, t.length <= 2000) /\ ts.length <= 2000 /\ a.length <= 1000 /\ Q (.str (Str.join a ts)) H
theorem mt_join : MtR X "str.join" (rJoin X.K) := by
 intro pins s σ H x xs v us Q I rx rv h
 obtain ⟨a, p, ts, rfl, rfl, hl, h1, h2, h3, q⟩ := h
 obtain ⟨t, rfl⟩ := rx
 obtain ⟨u, rfl, ru⟩ := vals1 rv
 cases ru
 obtain ⟨its, rv, pl, _⟩ := I.list hl
 obtain ⟨l, e1, e2⟩ := strs_vals rv
 subst e2
 refine SC.join pl.isList e1 ?_ fun t' k => ?_
 ·have := Nat.mul_le_mul h2 (Nat.le_refl 2000)
  have := Nat.mul_le_mul h2 h3
  unfold JoinOk; rw [StrLaws.joinFits (B := 2000) h1 (by omega)]; rfl
 ·rw [show Txt.join a ts = Str.join a ts from StrLaws.glued_eq_join a ts]
  exact ⟨.str _, H, I.tok k, ⟨t', rfl⟩, q⟩
theorem call_int_txt : CallR X (.type "int") (fun xs H Q => ∃ x n, xs = [.str x] /\ x.length <= 640 /\ PySem.intText? x = some n /\ Q (.int n) H) := by
 intro pins s σ H xs us Q I r h
 obtain ⟨x, n, rfl, hz, hn, q⟩ := h
 obtain ⟨u, rfl, t, rfl⟩ := vals1 r
 exact PySem.W.KIN.call_text hn hz ⟨.int n, H, I.tok _, ⟨_, rfl⟩, q⟩
theorem call_str_txt : CallR X (.type "str") (fun xs H Q => ∃ x, xs = [.str x] /\ Q (.str x) H) := by
 intro pins s σ H xs us Q I r h
 obtain ⟨x, rfl, q⟩ := h
 obtain ⟨u, rfl, t, rfl⟩ := vals1 r
 exact PySem.P.str_of_str ⟨.str x, H, I, ⟨_, rfl⟩, q⟩
def Its (x : Str) : It := ⟨fun i _ => i < x.length, fun i H v H' => H' = H /\ ∃ c, x.cps[i]? = some c /\ v = .str ⟨#[c]⟩, fun i _ => x.length <= i⟩
theorem turn_str {P : Program} {w : World} {K : PySem.W.Frag} {tg : Expr} (x : Str) (t : Tok) (ty : String) (hty : ty = "str_ascii_iterator" \/ ty = "str_iterator") (it : Addr) : Turn P w K tg (Its x) [it] it (fun i h => h.IsStrIter it ty x t i) where
 mem := by simp
 obj := fun i h st b hb => by
  have e : b = it := by simpa using hb
  subst e
  obtain ⟨o, e, c, d⟩ := st
  exact ⟨o, e, fun v z => by rw [d] at z; cases z⟩
 keep := fun i h h' ⟨o, e, r⟩ k => ⟨o, k it (by simp) o e, r⟩
 item := by
  intro X hP hw hK hc i pins s σ H E I hf st hg
  subst hP hw hK
  have hg : i < x.length := hg
  obtain ⟨f0, f1, f2, f3, f4, f5⟩ := hf it (by simp)
  have hx : x.cps[i]? = some x.cps[i] := Array.getElem?_eq_getElem hg
  have fin : ∀ h', h'.IsStrIter it ty x t (i + 1) -> Heap.SameBut it s.heap h' -> ∃ u, some (Value.str ⟨#[x.cps[i]]⟩ s.toks) = some u /\
   wpAny (model X.prog X.w) X.A (letOwnedTupleGo tg (.ref it) u) (fun _ s2 => ∃ x' H', Inv X pins σ H' s2 /\ RelV x' u /\ (Its x).yld i H x' H' /\ s2.heap.IsStrIter it ty x t (i + 1) /\ ∀ b ∈ [it], H' b = none) E { s with heap := h', toks := s.toks + 1 } := fun h' st' sb => by
   have I1 : Inv X pins σ H { s with heap := h', toks := s.toks + 1 } := I.turned (t' := s.toks + 1) (fun b o hb e => (sb.2 b hb).trans e) f0 f1 f3 f4 f5
   obtain ⟨o, e, c, d⟩ := id st'
   exact ⟨_, rfl, go_of (s := { s with heap := h', toks := s.toks + 1 }) e c d (by rcases hty with rfl | rfl <;> decide) ⟨.str _, H, I1, ⟨_, rfl⟩, ⟨rfl, _, hx, rfl⟩, st', fun b hb => (hf b hb).1⟩⟩
  rcases hty with rfl | rfl
  ·exact wpAny_pyNext_ascii_item st hx fin
  ·exact wpAny_pyNext_wide_item st hx fin
 done := by
  intro X hP hw hK hc i pins s σ H E I hf st hg
  subst hP hw hK
  have hg : x.length <= i := hg
  obtain ⟨f0, f1, f2, f3, f4, f5⟩ := hf it (by simp)
  have hx : x.cps[i]? = none := Array.getElem?_eq_none hg
  rcases hty with rfl | rfl
  ·exact wpAny_pyNext_ascii_end (I.ok.hd hc) st hx fun h' eb => ⟨rfl, I.turned (t' := s.toks) (fun b o hb e => eb b o hb e) f0 f1 f3 f4 f5⟩
  ·exact wpAny_pyNext_wide_end (I.ok.hd hc) st hx fun h' eb => ⟨rfl, I.turned (t' := s.toks) (fun b o hb e => eb b o hb e) f0 f1 f3 f4 f5⟩
 self := fun _ _ _ _ _ st h => by
  rcases hty with rfl | rfl
  ·exact wpAny_pyIter_striter_ascii st h
  ·exact wpAny_pyIter_striter_wide st h
def cutS (z : Str) (lo hi : Option Int) : Str := ⟨((z.cps.toList.drop (HT.sIx z.length 0 lo)).take (HT.sIx z.length z.length hi - HT.sIx z.length 0 lo)).toArray⟩
theorem sIx_le (n : Nat) : ∀ (o : Option Int) (d : Nat), d <= n -> (∀ v, o = some v -> v <= n \/ 0 <= v) -> HT.sIx n d o <= n
 | none, _, h, _ => h
 | some v, _, _, _ => by
  show (if v < 0 then (v + (n : Int)).toNat else min v.toNat n) <= n
  split <;> omega
theorem clip_is (n d : Nat) (o : Option Int) (hd : d <= n) : (match o with | none => (d : Int) | some i => max 0 (min (if i < 0 then i + (n : Int) else i) (n : Int))) = (HT.sIx n d o : Int) := by
 cases o with
 | none => rfl
 | some v =>
  show max 0 (min (if v < 0 then v + (n : Int) else v) (n : Int)) = ((if v < 0 then (v + (n : Int)).toNat else min v.toNat n : Nat) : Int)
  split <;> omega
theorem idx_is (n : Nat) (lo hi : Option Int) : Builtin.Str.strSliceIndices lo hi 1 n = sliceRange (HT.sIx n 0 lo : Int) (HT.sIx n n hi : Int) 1 := by
 have a := clip_is n 0 lo (Nat.zero_le _)
 have b := clip_is n n hi (Nat.le_refl _)
 unfold Builtin.Str.strSliceIndices
 simp only [show (1 : Int) > 0 from by decide, if_true]
 rw [<- a, <- b]
 rfl
theorem slice_cut (z : Str) (lo hi : Option Int) : Txt.slice z lo hi = cutS z lo hi := by
 have ha : HT.sIx z.length 0 lo <= z.length := sIx_le _ _ _ (Nat.zero_le _) fun v _ => by omega
 have hb : HT.sIx z.length z.length hi <= z.length := sIx_le _ _ _ (Nat.le_refl _) fun v _ => by omega
 unfold cutS
 by_cases h : HT.sIx z.length 0 lo <= HT.sIx z.length z.length hi
 ·have q := StrLaws.sliceText_nat z h hb
  rw [<- q]
  have e : Builtin.Str.strSliceIndices lo hi 1 z.length = Builtin.Str.strSliceIndices (some (HT.sIx z.length 0 lo : Int)) (some (HT.sIx z.length z.length hi : Int)) 1 z.length := by
   rw [idx_is, idx_is, HT.sIx_nat, HT.sIx_nat, Nat.min_eq_left ha, Nat.min_eq_left hb]
  show StrLaws.sliceText z lo hi = _
  unfold StrLaws.sliceText
  rw [e]
 ·have e : Builtin.Str.strSliceIndices lo hi 1 z.length = [] := by
   rw [idx_is]
   unfold sliceRange
   simp only [show (1 : Int) > 0 from by decide, if_true]
   rw [if_neg (by omega)]
   rfl
  have t : (HT.sIx z.length z.length hi - HT.sIx z.length 0 lo) = 0 := by omega
  rw [t, List.take_zero]
  show StrLaws.sliceText z lo hi = _
  unfold StrLaws.sliceText
  rw [e]
  have nz : z.length ≠ 0 := by omega
  simp [Ne.symm nz]
def rSlS : V -> Option Int -> Option Int -> Hp -> VK -> Prop := fun x lo hi H Q => ∃ z, x = .str z /\ z.length <= 100000 /\ Q (.str (cutS z lo hi)) H
theorem part_of {v : Value} {o : Option Int} (h : IsPart v o) : ∃ l : Option (Int × Tok), v = partValue l /\ l.map (·.1) = o := by
 cases h with
 | none => exact ⟨none, rfl, rfl⟩
 | int i t => exact ⟨some (i, t), rfl, rfl⟩
theorem sl_str : SlR X rSlS := by
 intro pins s σ H x v vl vu lo hi sl Q I rx hs pl pu h
 obtain ⟨z, rfl, hz, q⟩ := h
 obtain ⟨t, rfl⟩ := rx
 obtain ⟨l, rfl, rfl⟩ := part_of pl
 obtain ⟨u, rfl, rfl⟩ := part_of pu
 refine ⟨"str", _, F.slot_str_getitem.lookup, typeIs_str _ _ _, wpAny_getItem_str_slice (l := l) (u := u) (st := none) hs rfl (post_val_or_str ⟨?_, fun t' k => ?_⟩)⟩
 ·exact Nat.le_trans (Txt.slice_le z _ _) (by rw [sizeLine_eq]; omega)
 ·exact ⟨.str _, H, I.tok k, ⟨t', rfl⟩, by rw [<- slice_cut] at q; exact q⟩
end
def Itx (tp tq : Bool) (K : PySem.W.Frag) (a b : Addr) : It :=
 ⟨fun i H => ∃ xs ys x y, SQ tp K H a xs /\ SQ tq K H b ys /\ xs[i]? = some x /\ ys[i]? = some y,
 fun i H v H' => ∃ t x y, H t = none /\ v = .ref t /\ H' = upd H t (.tup [x, y]) /\ (∀ xs, SQ tp K H a xs -> xs[i]? = some x) /\ ∀ ys, SQ tq K H b ys -> ys[i]? = some y,
 fun i H => ∃ xs ys, SQ tp K H a xs /\ SQ tq K H b ys /\ i = min xs.length ys.length⟩
def ZTx (tp tq : Bool) (z c d i j a b : Addr) (k : Nat) (h : Heap) : Prop := IsZip h z c d .none /\ IsPair h c (.ref i) (.ref j) /\ (∃ u v, IsPair h d u v) /\ SIt tp h i a k /\ SIt tq h j b k
theorem turn_zipX {P : Program} {w : World} {K : PySem.W.Frag} {es : List Expr} {x1 : _} {pos : Pos} {tp tq : Bool} {z c d i j a b : Addr} (Z : ZAp z c d i j [i, a] [j, b]) (na : a ≠ i) (nb : b ≠ j) :
  Turn P w K (.Tuple es x1 pos) (Itx tp tq K a b) [z, c, d, i, j] z (ZTx tp tq z c d i j a b) where
 mem := by simp
 obj := fun k h st e he => by
  obtain ⟨h1, h2, ⟨u, v, h3⟩, h4, h5⟩ := st
  simp only [List.mem_cons, List.not_mem_nil, or_false] at he
  rcases he with rfl | rfl | rfl | rfl | rfl
  ·exact ⟨_, h1, fun v q => by cases q⟩
  ·exact ⟨_, h2, fun v q => by cases q⟩
  ·exact ⟨_, h3, fun v q => by cases q⟩
  ·exact h4.obj
  ·exact h5.obj
 keep := fun k h h' st q => by
  obtain ⟨h1, h2, ⟨u, v, h3⟩, h4, h5⟩ := st
  exact ⟨q z (by simp) _ h1, q c (by simp) _ h2, ⟨u, v, q d (by simp) _ h3⟩, h4.keep fun o e => q i (by simp) o e, h5.keep fun o e => q j (by simp) o e⟩
 item := by
  intro X hP hw hK hc k pins s σ H E I hf st hg
  subst hP hw hK
  obtain ⟨xs, ys, x, y, qa, qb, ex, ey⟩ := hg
  obtain ⟨ia, ra, ca, za⟩ := I.sq qa
  obtain ⟨ib, rb, cb, zb⟩ := I.sq qb
  obtain ⟨h1, h2, ⟨u, v, h3⟩, h4, h5⟩ := st
  have hh : X.A.in1.handled = none := I.ok.hd hc
  obtain ⟨ux, eux, rux⟩ := ra.get ex
  obtain ⟨uy, euy, ruy⟩ := rb.get ey
  have k1 : k < ia.toArray.size := by simpa using (List.getElem?_eq_some_iff.mp eux).1
  have k2 : k < ib.toArray.size := by simpa using (List.getElem?_eq_some_iff.mp euy).1
  refine zip_pyNext_some Z (sdraws tp hh i a na ia.toArray) (sdraws tq hh j b nb ib.toArray) h1 h2 h3 ⟨h4, ca⟩ ⟨h5, cb⟩ k1 k2 fun vx vy h' tk t px py ht g1 g2 g3 g4 g5 kk => ⟨_, rfl, ?_⟩
  have ev : vx = ux := by rw [List.getElem?_toArray, eux] at px; exact (Option.some.inj px).symm
  have ew : vy = uy := by rw [List.getElem?_toArray, euy] at py; exact (Option.some.inj py).symm
  subst ev ew
  refine wpAny_letOwnedTupleGo_zip g1 fun h'' z' sb => ?_
  have tz : t ≠ z := fun q => by rw [q] at ht; exact absurd (Heap.lt_size h1) (by rw [ht]; exact Nat.lt_irrefl _)
  have hn : H t = none := I.hok.fresh (by rw [ht]; exact Nat.le_refl _)
  have kp : ∀ b u, b ∉ [z, c, d, i, j] -> s.heap.get? b = some u -> h''.get? b = some u := fun b u hb e => by
   simp only [List.mem_cons, List.not_mem_nil, or_false, not_or] at hb
   exact sb.extBut b u hb.1 (kk b u hb.1 hb.2.2.1 hb.2.2.2.1 hb.2.2.2.2 e)
  have I1 : Inv X pins σ (upd H t (.tup [x, y])) { s with heap := h'', toks := tk } := I.turnedLaid (ch := [z, c, d, i, j]) kp hf (by rw [ht]; exact Nat.le_refl _)
   ⟨by show 2 <= sizeLine; decide, [vx, vy], .cons rux (.cons ruy .nil), ⟨_, sb.extBut _ _ tz g5, rfl, _, rfl⟩⟩
  refine ⟨.ref t, _, I1, rfl, ⟨t, x, y, hn, rfl, rfl, fun xs' q => by rw [I.sq_inj q qa]; exact ex, fun ys' q => by rw [I.sq_inj q qb]; exact ey⟩, ?_, fun e he => ?_⟩
  ·exact ⟨z', sb.extBut _ _ Z.az (kk _ _ Z.az Z.ab Z.ai Z.aj h2), ⟨_, _, sb.extBut _ _ Z.bz g2⟩, g3.1.keep fun o e => sb.extBut _ _ Z.iz e, g4.1.keep fun o e => sb.extBut _ _ Z.jz e⟩
  ·have hlt : e < s.heap.objs.size := by
    simp only [List.mem_cons, List.not_mem_nil, or_false] at he
    rcases he with rfl | rfl | rfl | rfl | rfl
    ·exact Heap.lt_size h1
    ·exact Heap.lt_size h2
    ·exact Heap.lt_size h3
    ·obtain ⟨o, q, _⟩ := h4.obj; exact Heap.lt_size q
    ·obtain ⟨o, q, _⟩ := h5.obj; exact Heap.lt_size q
   rw [upd_ne (Nat.ne_of_lt (by rw [ht]; exact hlt))]
   exact (hf e he).1
 done := by
  intro X hP hw hK hc k pins s σ H E I hf st hg
  obtain ⟨xs, ys, qa, qb, hx⟩ := hg
  subst hP hw hK
  obtain ⟨ia, ra, ca, za⟩ := I.sq qa
  obtain ⟨ib, rb, cb, zb⟩ := I.sq qb
  obtain ⟨h1, h2, ⟨u, v, h3⟩, h4, h5⟩ := st
  have hh : X.A.in1.handled = none := I.ok.hd hc
  have l1 := ra.length
  have l2 := rb.length
  by_cases hle : xs.length <= ys.length
  ·have hk : k = ia.toArray.size := by simp; omega
   subst hk
   refine zip_pyNext_none Z (sdraws tp hh i a na ia.toArray) h1 h2 ⟨h4, ca⟩ fun h' kk => ⟨rfl, ?_⟩
   exact I.turnedAll (t' := s.toks) (ch := [z, c, d, i, j]) (fun b u hb e => by
    simp only [List.mem_cons, List.not_mem_nil, or_false, not_or] at hb
    exact kk b u hb.1 hb.2.2.1 hb.2.2.2.1 hb.2.2.2.2 e) hf
  ·have hk : k = ib.toArray.size := by simp; omega
   subst hk
   refine zip_pyNext_none2 Z (sdraws tp hh i a na ia.toArray) (sdraws tq hh j b nb ib.toArray) h1 h2 h3 ⟨h4, ca⟩ ⟨h5, cb⟩ (by simp; omega) fun h' tk kk => ⟨rfl, ?_⟩
   exact I.turnedAll (t' := tk) (ch := [z, c, d, i, j]) (fun b u hb e => by
    simp only [List.mem_cons, List.not_mem_nil, or_false, not_or] at hb
    exact kk b u hb.1 hb.2.2.1 hb.2.2.2.1 hb.2.2.2.2 e) hf
 self := fun _ _ _ _ _ st h => wpAny_pyIter_zip st.1 h
def itN (tp : Bool) : String := match tp with | true => "tuple_iterator" | false => "list_iterator"
abbrev xza (tp : Bool) (h : Heap) (l : Addr) : Heap := h.push { cls := .type (itN tp), data := .fields #[.ref l, .int 0 0] }
abbrev xzb (tp tq : Bool) (h : Heap) (l m : Addr) : Heap := xza tq (xza tp h l) m
abbrev xzc (tp tq : Bool) (h : Heap) (l m : Addr) : Heap := (xzb tp tq h l m).push { cls := .type "tuple", data := .seq #[.ref h.objs.size, .ref (xza tp h l).objs.size] }
abbrev xzd (tp tq : Bool) (h : Heap) (l m : Addr) : Heap := (xzc tp tq h l m).push { cls := .type "tuple", data := .seq #[.none, .none] }
abbrev xze (tp tq : Bool) (h : Heap) (l m : Addr) : Heap := (xzd tp tq h l m).push { cls := .type "zip", data := .fields #[.none, .bool false, .bool false, .ref (xzb tp tq h l m).objs.size, .ref (xzc tp tq h l m).objs.size] }
theorem iterS {P : Program} {w : World} {A : Around} {E : Value -> Shared -> Prop} {s : Shared} {tp : Bool} {l : Addr} {xs : Array Value} {Q : Value -> Shared -> Prop} (h : SCn tp s.heap l xs) (q : Q (.ref s.heap.objs.size) { s with heap := xza tp s.heap l }) : wpAny (model P w) A (pyIter (.ref l)) Q E s := by
 cases tp
 ·exact wpAny_pyIter_list h q
 ·exact wpAny_pyIter_tuple h q
theorem SCn.push {tp : Bool} {h : Heap} {l : Addr} {xs : Array Value} (x : SCn tp h l xs) (o : Obj) : SCn tp (h.push o) l xs := by
 cases tp
 ·exact Heap.IsList.push x o
 ·exact Heap.IsTuple.push x o
theorem meets_zipX (tp tq : Bool) (l m : Addr) (xs ys : Array Value) :
  Meets (Builtin.«zip.__new__» ⟨[.type "zip", .ref l, .ref m], []⟩) (fun _ R s => SCn tp s.heap l xs /\ SCn tq s.heap m ys /\ R (.ok (.ret (.ref (xzd tp tq s.heap l m).objs.size))) { s with heap := xze tp tq s.heap l m }) :=
 .of_wp fun prog w A R s h => by
  obtain ⟨hp, g, d, tk, os⟩ := s
  obtain ⟨hl, hm, h⟩ := h
  have hsub := sub_zip
  have h1 : SCn tp (Shared.heap ⟨hp, g, d, tk, os⟩) l xs := hl
  have h2 : SCn tq (Shared.heap ⟨xza tp hp l, g, d, tk, os⟩) m ys := SCn.push hm _
  wp_walk using iterS h1, iterS h2
  exact ⟨_, rfl, h⟩
theorem call_zipX {P : Program} {w : World} {A : Around} {E : Value -> Shared -> Prop} {s : Shared} {tp tq : Bool} {l m : Addr} {xs ys : Array Value} {Q : Value -> Shared -> Prop} (hl : SCn tp s.heap l xs) (hm : SCn tq s.heap m ys)
  (q : ∀ h', ZTx tp tq (s.heap.objs.size + 4) (s.heap.objs.size + 2) (s.heap.objs.size + 3) s.heap.objs.size (s.heap.objs.size + 1) l m 0 h' -> (∀ c o, s.heap.get? c = some o -> h'.get? c = some o) -> Q (.ref (s.heap.objs.size + 4)) { s with heap := h' }) :
  wpAny (model P w) A (call (.type "zip") [.ref l, .ref m]) Q E s := by
 refine callType_new F.called_zip (by decide) (F.typeCall_zip_2 _ _) (F.newCall_zip_2 _ _) (fun obj => F.args_object_init_3 obj _ _) F.entry_zip_new (meets_zipX tp tq l m xs ys) ⟨hl, hm, ?_⟩
 have y1 : (xza tp s.heap l).objs.size = s.heap.objs.size + 1 := Heap.size_push ..
 have y2 : (xzb tp tq s.heap l m).objs.size = s.heap.objs.size + 2 := by rw [Heap.size_push, y1]
 have y3 : (xzc tp tq s.heap l m).objs.size = s.heap.objs.size + 3 := by rw [Heap.size_push, y2]
 have y4 : (xzd tp tq s.heap l m).objs.size = s.heap.objs.size + 4 := by rw [Heap.size_push, y3]
 have g5 : (xze tp tq s.heap l m).get? (xzd tp tq s.heap l m).objs.size = some _ := Heap.get?_push_size _ rfl
 have g4 : (xze tp tq s.heap l m).get? (xzc tp tq s.heap l m).objs.size = some _ := Heap.get?_push_of_some _ (Heap.get?_push_size _ rfl)
 have g3 : (xze tp tq s.heap l m).get? (xzb tp tq s.heap l m).objs.size = some _ := Heap.get?_push_of_some _ (Heap.get?_push_of_some _ (Heap.get?_push_size _ rfl))
 have g2 : (xze tp tq s.heap l m).get? (xza tp s.heap l).objs.size = some _ := Heap.get?_push_of_some _ (Heap.get?_push_of_some _ (Heap.get?_push_of_some _ (Heap.get?_push_size _ rfl)))
 have g1 : (xze tp tq s.heap l m).get? s.heap.objs.size = some _ := Heap.get?_push_of_some _ (Heap.get?_push_of_some _ (Heap.get?_push_of_some _ (Heap.get?_push_of_some _ (Heap.get?_push_size _ rfl))))
 show _ /\ _
 rw [y2, y3, y4] at g5
 rw [y1, y2] at g3
 rw [y3] at g4
 rw [y1] at g2
 rw [y4]
 exact ⟨⟨_, g5, rfl⟩, q _ ⟨g5, g3, ⟨_, _, g4⟩, (by cases tp <;> exact ⟨_, g1, rfl, rfl⟩), (by cases tq <;> exact ⟨_, g2, rfl, rfl⟩)⟩ fun c o x => Heap.get?_push_of_some _ (Heap.get?_push_of_some _ (Heap.get?_push_of_some _ (Heap.get?_push_of_some _ (Heap.get?_push_of_some _ x))))⟩
def iZipX (K : PySem.W.Frag) (ta : TA) : TI := fun σ H R => ta σ H fun vs H1 => ∃ (tp tq : Bool) (a b : Addr) (xs ys : List V), vs = [.ref a, .ref b] /\ SQ tp K H1 a xs /\ SQ tq K H1 b ys /\ R (Itx tp tq K a b) H1
theorem pi_zipX {X : Cx} {es : List Expr} {x1 : _} {tpos : Pos} {a b : Expr} {ta : TA} {p pos : Pos} (hg : Gl X "zip") (hm : X.mg "zip" = none) (ha : PA X [a, b] ta) (hs : starEach [a, b] X.env = [(false, eval a X.env), (false, eval b X.env)] := by rfl) (hs2 : starEach [b] X.env = [(false, eval b X.env)] := by rfl) :
  PI X (.Tuple es x1 tpos) (.Call (.Name "zip" p) [a, b] [] pos) (iZipX X.K ta) := by
 intro pins s σ H R I h
 refine Call_ (ld_blt I hg hm boot_zip (PyProof.Rows.callWith_type1 (thn (ha pos pins s σ H _ I h) fun us s1 ⟨vs, H1, I1, r1, q1⟩ => ?_) (by rw [hs, hs2]) (by rw [hs2]; rfl)))
 obtain ⟨tp, tq, l, m, xs, ys, e, q1, q2, q⟩ := q1
 subst e
 obtain ⟨u, v, rfl, ru, rv⟩ := vals2 r1
 cases ru
 cases rv
 obtain ⟨ia, ra, ca, za⟩ := I1.sq q1
 obtain ⟨ib, rb, cb, zb⟩ := I1.sq q2
 have lt1 := ca.lt
 have lt2 := cb.lt
 refine call_zipX ca cb fun h' zt kk => ?_
 refine wpAny_pyIter_zip zt.1 ?_
 have I2 : Inv X pins σ H1 { s1 with heap := h' } := I1.kept (t' := s1.toks) kk
 refine ⟨_, [s1.heap.objs.size + 4, s1.heap.objs.size + 2, s1.heap.objs.size + 3, s1.heap.objs.size, s1.heap.objs.size + 1], _, _, H1, rfl, I2, turn_zipX (zap_of _ _ _ lt1 lt2) (Nat.ne_of_lt lt1) (Nat.ne_of_lt (Nat.lt_succ_of_lt lt2)), zt, fun c hc => ?_, q⟩
 have hle : s1.heap.objs.size <= c := by
  simp only [List.mem_cons, List.not_mem_nil, or_false] at hc
  rcases hc with rfl | rfl | rfl | rfl | rfl
  ·exact Nat.le_add_right _ _
  ·exact Nat.le_add_right _ _
  ·exact Nat.le_add_right _ _
  ·exact Nat.le_refl _
  ·exact Nat.le_add_right _ _
 exact I1.fpOk hle (I1.hok.fresh hle)
end L2
namespace Fd
open PySem L2
section
variable {X : Cx} {c : Bk} {a b : Expr} {A B : WE} {pos p tpos : Pos} {es : List Expr}
def zipXI (A B : WE) : WL := fun ρ Q => A ρ fun x => B ρ fun y => seqD x fun xs => seqD y fun ys => Q (zipL xs ys)
theorem sq_same {K : PySem.W.Frag} {tp : Bool} {G H2 : Hp} (e : Same G H2) {l : Addr} {vs : List V} (h : SQ tp K G l vs) : SQ tp K H2 l vs := by
 cases tp
 ·exact e.seq h
 ·exact sqT_same e h
theorem it_zipX {G : Hp} {tp tq : Bool} {l m : Addr} {xs ys : List D} {vs ws : List V} (hl : SQ tp c.K G l vs) (hm : SQ tq c.K G m ws) (hv : Reps c G xs vs) (hw : Reps c G ys ws) : ItOk c (Itx tp tq c.K l m) (zipL xs ys) G := by
 intro i H2 G2 s1 s2 bx h0
 have ql := sq_same (s1.trans s2) hl
 have qm := sq_same (s1.trans s2) hm
 refine ⟨fun e => ⟨vs, ws, ql, qm, by rw [e, zipL_len, hv.length, hw.length]⟩, fun d e => ?_⟩
 obtain ⟨x, y, ex, ey, rfl⟩ := zipL_get e
 obtain ⟨v, e1, r1⟩ := hv.get ex
 obtain ⟨w, e2, r2⟩ := hw.get ey
 refine ⟨⟨vs, ws, v, w, ql, qm, e1, e2⟩, fun z H3 yl => ?_⟩
 obtain ⟨t, x', y', ht, rfl, rfl, f1, f2⟩ := yl
 have g1 := f1 vs ql
 have g2 := f2 ws qm
 rw [e1] at g1; cases g1
 rw [e2] at g2; cases g2
 have sg : Same G2 (upd G2 t (.tup [v, w])) := same_g (none_of_same s2 ht)
 exact ⟨_, Stp.new s2 bx ht, t, [v, w], rfl, SqT.of upd_same, ⟨v, [w], rfl, (r1.mono s1).mono sg, w, [], rfl, (r2.mono s1).mono sg, rfl⟩⟩
theorem seqD_rep {G : Hp} {d : D} {v : V} {Q : List D -> Prop} (h : Rep c G d v) (q : seqD d Q) : ∃ tp l vs xs, v = .ref l /\ SQ tp c.K G l vs /\ Reps c G xs vs /\ Q xs := by
 cases d with
 | lst n xs => obtain ⟨l, vs, e, hl, _, hv⟩ := h; exact ⟨false, l, vs, xs, e, SqL.of hl, hv, q⟩
 | tup xs => obtain ⟨l, vs, e, hl, hv⟩ := h; exact ⟨true, l, vs, xs, e, hl, hv, q⟩
 | _ => exact q.elim
theorem i_zipX {x1 : _} (hA : DE X c a A) (hB : DE X c b B) (hg : Gl X "zip" := by rfl) (hs : starEach [a, b] X.env = [(false, eval a X.env), (false, eval b X.env)] := by rfl) (hs2 : starEach [b] X.env = [(false, eval b X.env)] := by rfl) (hK : c.K = X.K := by rfl) (hm : X.mg "zip" = none := by decreasing_trivial) :
  DI X c (.Tuple es x1 tpos) (.Call (.Name "zip" p) [a, b] [] pos) (zipXI A B) where
 mono := fun ρ Q Q' k q => hA.mono ρ _ _ (fun x z => hB.mono ρ _ _ (fun y z' => seqD_mono (fun xs => seqD_mono fun ys z => k _ z) z') z) q
 pi := pi_imp (pi_zipX hg hm (pa_cons hA.pe (pa_cons hB.pe pa_nil hs2) (by rw [hs, hs2])) hs hs2) fun σ H R ⟨ρ, G, r, q⟩ => ⟨ρ, G, r, hA.mono ρ _ _ (fun x z v H1 G1 t1 e1 => ⟨ρ, G1, r.step t1, hB.mono ρ _ _ (fun y z' w H2 G2 t2 e2 => by
  obtain ⟨tp, l, vs, xs, rfl, hl, hv, z'⟩ := seqD_rep (e1.mono t2.gg) z'
  obtain ⟨tq, m, ws, ys, rfl, hm, hw, z'⟩ := seqD_rep e2 z'
  exact ⟨tp, tq, l, m, vs, ws, rfl, hK ▸ sq_same t2.gh hl, hK ▸ sq_same t2.gh hm, z' _ H2 G2 (t1.trans t2) (hK ▸ it_zipX hl hm hv hw)⟩) z⟩) q⟩
end
end Fd
namespace L2
open PySem PySem.Spec PyProof.Rows
section
variable {prog : Program} {w : World} {A : Around} {E : Value -> Shared -> Prop} {s : Shared}
theorem unpackStar {t : Addr} {items : Array Value} {Q : List Value -> Shared -> Prop} (hh : A.handled = none) (ht : s.heap.IsList t items) (h1 : 1 <= items.size) (hz : items.size <= 16384)
  (hQ : ∀ (h' : Heap) (tk : Nat), (∀ b o, s.heap.get? b = some o -> h'.get? b = some o) -> Q (items.toList.take 1 ++ [.ref h'.objs.size]) { s with heap := h'.push { cls := .type "list", data := .seq (items.toList.drop 1).toArray }, toks := tk }) :
  wpAny (model prog w) A (unpackItems (.ref t) 2 (some 1)) Q E s := by
 have hlt : t ≠ s.heap.objs.size := by obtain ⟨o, ho, _⟩ := ht; exact Nat.ne_of_lt (Heap.lt_size ho)
 unfold unpackItems
 refine wpAny_bind ?_
 unfold notIterableAtAll
 refine wpAny_bind (wpAny_specialOf ht.typeIs slot_list_iter.lookup ?_)
 refine wpAny_pure ?_
 simp only [Bool.false_eq_true, if_false]
 refine wpAny_bind (wpAny_holding (wpAny_pyIter_list ht ?_))
 refine wpAny_bind (wpAny_holding (draw_list hlt 1 0 _ _ ⟨_, Heap.get?_push_size _ rfl, rfl, rfl⟩ (ht.push _) (by omega) fun h₁ hit₁ hs₁ => ?_))
 have hl₁ : h₁.IsList t items := (ht.push _).extBut hs₁.extBut hlt
 rw [Nat.zero_add] at hit₁
 obtain ⟨oi, hoi, _⟩ := id hit₁
 obtain ⟨ol, hol, _⟩ := id hl₁
 rw [List.drop_zero]
 have hfl : (items.toList.take 1).length = 1 := by rw [List.length_take, Array.length_toList]; omega
 rw [if_neg (show ¬ ((items.toList.take 1).length < 1) by rw [hfl]; omega)]
 refine wpAny_bind (wpAny_holding (PySem.W.kun_collect (s := { s with heap := h₁ }) (T := "list_iterator") (.inr (.inr (.inl rfl))) (Walks.list (A := A.in1) hh s.heap.objs.size t hlt items) (fun j u st => st.1.typeIs) (k := 1) (by omega) ⟨hit₁, hl₁⟩ (Heap.lt_size hoi) (Heap.lt_size hol) (fun h₂ tk hk => ?_) (by rw [sizeLine_eq]; omega)))
 have hrl : (items.toList.drop 1).length = items.size - 1 := by rw [List.length_drop, Array.length_toList]
 show wpAny _ _ (if (items.toList.drop 1).length < 2 - 1 - 1 then _ else _) _ _ _
 rw [if_neg (by omega)]
 show wpAny _ _ (newList ((items.toList.drop 1).take ((items.toList.drop 1).length - (2 - 1 - 1))) >>= fun d => pure (items.toList.take 1 ++ [d] ++ (items.toList.drop 1).drop ((items.toList.drop 1).length - (2 - 1 - 1)))) _ _ _
 have e1 : (items.toList.drop 1).take ((items.toList.drop 1).length - (2 - 1 - 1)) = items.toList.drop 1 := List.take_of_length_le (by omega)
 have e2 : (items.toList.drop 1).drop ((items.toList.drop 1).length - (2 - 1 - 1)) = [] := List.drop_of_length_le (by omega)
 rw [e1, e2]
 refine wpAny_bind (wpAny_newList (s := { s with heap := h₂, toks := tk }) (wpAny_pure ?_) (by rw [hrl, sizeLine_eq]; omega))
 rw [List.append_nil]
 exact hQ h₂ tk fun b o e => hk b o (Nat.ne_of_lt (Heap.lt_size e)) (hs₁.extBut b o (Nat.ne_of_lt (Heap.lt_size e)) (Heap.get?_push_of_some _ e))
end
def gStar (K : PySem.W.Frag) (i j : Nat) : TG := fun v σ H Q => ∃ a x xs, v = .ref a /\ SqL K H a (x :: xs) /\ xs.length <= 10000 /\ ∀ p, H p = none -> Q ((σ.set i (some x)).set j (some (.ref p))) (upd H p (.lst xs))
theorem pg_star {X : Cx} {i j : Nat} {x y : Str} {px py ps pos : Pos} {k : Nat} (hc : X.calm = true) (hN : X.N.Nodup) (hi : X.N[i]? = some x) (hj : X.N[j]? = some y) (hx : Loc X.env.scope x) (hy : Loc X.env.scope y)
  (hf : X.fn x = true \/ X.env.scope.names.lookup x = some .local) (hf' : X.fn y = true \/ X.env.scope.names.lookup y = some .local)
  (hn : (assignEach [.Name x px, .Starred (.Name y py) ps] X.env).length = 2 := by rfl) (hst : (assignEach [.Name x px, .Starred (.Name y py) ps] X.env).findIdx? (·.1) = some 1 := by rfl)
  (he : (assignEach [.Name x px, .Starred (.Name y py) ps] X.env).map (·.2) = [assign (.Name x px) X.env, assign (.Name y py) X.env] := by rfl) :
  PG X (.Tuple [.Name x px, .Starred (.Name y py) ps] k pos) (gStar X.K i j) := by
 intro pins s σ H v u Q I r hw
 obtain ⟨a, x1, xs, rfl, hq, hz, q⟩ := hw
 cases r
 obtain ⟨its, rv, ht, _⟩ := I.list hq
 cases rv with
 | cons r1 rr =>
  rename_i u1 us
  have hl := rr.length
  rw [assign_Tuple]
  refine wpAny_bind (wpAny_standAt ?_)
  unfold unpack
  rw [hn, hst]
  refine wpAny_bind (wpAny_holding (unpackStar (I.ok.hd hc) ht.isList (by simp) (by simp; omega) fun h' tk hk => ?_))
  have I1 : Inv X pins σ H { s with heap := h', toks := tk } := I.kept (t' := tk) hk
  have I2 : Inv X pins σ (upd H h'.objs.size (.lst xs)) { s with heap := h'.push { cls := .type "list", data := .seq us.toArray }, toks := tk } := I1.lnew (t' := tk) rr (by rw [sizeLine_eq]; omega)
  rw [he]
  show wpAny _ _ (assignInOrder [assign (.Name x px) X.env, assign (.Name y py) X.env] [u1, .ref h'.objs.size]) _ _ _
  refine assignInOrder_cons (thn (pg_name hN hi hx hf pins _ σ _ x1 u1 (fun σ' H' => σ' = σ.set i (some x1) /\ H' = upd H h'.objs.size (.lst xs)) I2 r1 ⟨rfl, rfl⟩) fun _ s1 ⟨σ1, H1, I3, e1, e2⟩ => ?_)
  subst e1 e2
  refine assignInOrder_cons (thn (pg_name hN hj hy hf' pins _ _ _ (.ref h'.objs.size) (.ref h'.objs.size) (fun σ' H' => Q σ' H') I3 rfl (q _ I1.fresh)) fun _ s2 ⟨σ2, H2, I4, q2⟩ => assignInOrder_nil ⟨σ2, H2, I4, q2⟩)
end L2
namespace Fd
open PySem L2
section
variable {X : Cx} {c : Bk} {a b e o : Expr} {A B : WE} {es : List Expr} {pos p p2 apos cpos px py ps : Pos}
theorem dg_str {x z : Str} {t : Tok} (hm : X.mg x = some (.str z t)) (hg : Gl X x := by rfl) (hd : (x == ("__debug__" : Str)) = false := by decide) : DE X c (.Name x pos) (kW (.str z)) := ⟨kMono _, pe_imp (pe_glob (v := .str z) hg hm ⟨t, rfl⟩ hd) fun σ H Q ⟨ρ, G, r, q⟩ => q _ H G r.refl rfl⟩
theorem dg_int {x : Str} {z : Int} {t : Tok} (hm : X.mg x = some (.int z t)) (hg : Gl X x := by rfl) (hd : (x == ("__debug__" : Str)) = false := by decide) : DE X c (.Name x pos) (kW (.int z)) := ⟨kMono _, pe_imp (pe_glob (v := .int z) hg hm ⟨t, rfl⟩ hd) fun σ H Q ⟨ρ, G, r, q⟩ => q _ H G r.refl rfl⟩
def lenXF : FL := fun ds Q => match ds with
 | [.str x] => x.length <= 100000 /\ Q (.int x.length)
 | ds => lenF ds Q
theorem m_lenX : FLMono lenXF := fun ds Q Q' k q => by
 unfold lenXF at q ⊢
 split at q
 ·exact ⟨q.1, k _ q.2⟩
 ·exact m_len _ _ _ k q
theorem cd_lenX : CallD c lenXF (fun xs H Q => (∃ p ys, xs = [.ref p] /\ (SqL c.K H p ys \/ SqT c.K H p ys) /\ Q (.int ys.length) H) \/ ∃ z, xs = [.str z] /\ z.length <= sizeLine /\ Q (.int z.length) H) := by
 intro H G ds vs Q gh bx h0 rv q
 unfold lenXF at q
 split at q
 ·obtain ⟨v, rfl, rfl⟩ := reps1 rv
  exact .inr ⟨_, rfl, small5 q.1, q.2 _ H G (Stp.refl gh bx) rfl⟩
 ·exact .inl (cd_len H G _ vs Q gh bx h0 rv q)
theorem d_lenX {R : WL} (hR : DA X c [e] R) (hg : Gl X "len" := by rfl) (he : starEach [e] X.env = (false, eval e X.env) :: starEach [] X.env := by rfl) (hK : c.K = X.K := by rfl) (hm : X.mg "len" = none := by decreasing_trivial) : DE X c (.Call (.Name "len" p) [e] [] pos) (cbW lenXF R) :=
 d_callB m_lenX (call_len_seq.or call_len_str) (hK ▸ cd_lenX) hm PySem.boot_len hR hg (by decide) (by decide) he rfl
def hasS (b a : Str) : Bool := !(Builtin.Str.occurrences b a 0 b.length 1).isEmpty
def inXD (neg : Bool) : F2 := fun x y Q => match x, y with
 | .str a, .str b => Q (.bl (if neg then !hasS b a else hasS b a))
 | x, y => inD neg x y Q
theorem m_inX (neg : Bool) : F2Mono (inXD neg) := fun x y Q Q' k q => by
 unfold inXD at q ⊢
 split at q
 ·exact k _ q
 ·exact m_in neg _ _ _ _ k q
def rInX (c : Bk) (neg : Bool) : R2 := fun u v H Q => rInD c neg u v H Q \/ ∃ i j, u = .str i /\ v = .str j /\ Q (.bl (if neg then !hasS j i else hasS j i)) H
theorem od_inX (neg : Bool) : OpD c (inXD neg) (rInX c neg) := fun H G x y u v Q gh bx h0 rx ry q => by
 unfold inXD at q
 split at q
 ·cases rx; cases ry
  exact .inr ⟨_, _, rfl, rfl, q _ H G (Stp.refl gh bx) rfl⟩
 ·exact .inl (od_in neg H G _ _ u v Q gh bx h0 rx ry q)
theorem op_inX (hK : c.K = X.K) (hu : X.A.units + 64 < cLine) : OpR X (compareOp .In) (rInX c false) := (op_inD hK hu).or op_in_str
theorem d_inX (hA : DE X c a A) (hB : DE X c b B) (hm : behindInMarks .In b = false := by with_unfolding_all rfl) (hK : c.K = X.K := by rfl) (hu : X.A.units + 64 < cLine := by decreasing_trivial) : DE X c (.Compare a [.In] [b] pos) (binW (inXD false) A B) := d_cmp (m_inX _) (op_inX hK hu) (od_inX _) hA hB hm
theorem t_inX (hA : DE X c a A) (hB : DE X c b B) (hm : behindInMarks .In b = false := by with_unfolding_all rfl) (hK : c.K = X.K := by rfl) (hu : X.A.units + 64 < cLine := by decreasing_trivial) : DT X c (.Compare a [.In] [b] pos) (blW (binW (inXD false) A B)) := d_cmpT (m_inX _) (op_inX hK hu) (od_inX _) hA hB hm
def ixXD : F2 := fun x y Q => match x, y with
 | .str z, .int i => z.length <= 100000 /\ (match atI z.cps.toList i with | some ch => Q (.str ⟨#[ch]⟩) | none => False)
 | x, y => ixD x y Q
theorem m_ixX : F2Mono ixXD := fun x y Q Q' k q => by
 unfold ixXD at q ⊢
 split at q
 ·refine ⟨q.1, ?_⟩
  have q := q.2
  split at q
  ·exact k _ q
  ·exact q.elim
 ·exact m_ix _ _ _ _ k q
theorem od_ixX : OpD c ixXD (rIx c.K) := fun H G x y u v Q gh bx h0 rx ry q => by
 unfold ixXD at q
 split at q
 ·cases rx; cases ry
  have q2 := q.2
  split at q2
  ·rename_i ch e
   exact .inr (.inr ⟨_, _, ch, rfl, rfl, small5 q.1, e, q2 _ H G (Stp.refl gh bx) rfl⟩)
  ·exact q2.elim
 ·exact od_ix H G _ _ u v Q gh bx h0 rx ry q
theorem d_ixX (hA : DE X c a A) (hB : DE X c b B) (hs : PlainIx b := by intro _ _; rfl) (hK : c.K = X.K := by rfl) : DE X c (.Subscript a b pos) (binW ixXD A B) :=
 ⟨bin_mono m_ixX hA.mono hB.mono, pe_imp (pe_ix (hK ▸ ix_seq) hA.pe hB.pe hs) fun σ H Q h => bin_read m_ixX hA.mono hB.mono od_ixX σ H Q h⟩
def slXD (x : D) (lo hi : Option Int) (Q : D -> Prop) : Prop := match x with
 | .str z => z.length <= 100000 /\ Q (.str (cutS z lo hi))
 | x => slD x lo hi Q
theorem slXD_mono {x : D} {lo hi : Option Int} {Q Q' : D -> Prop} (k : ∀ d, Q d -> Q' d) (q : slXD x lo hi Q) : slXD x lo hi Q' := by
 cases x with
 | str z => exact ⟨q.1, k _ q.2⟩
 | lst n xs => exact k _ q
 | tup xs => exact k _ q
 | _ => exact q.elim
@[reducible] def slXW (A : WE) (L U : WO) : WE := fun ρ Q => A ρ fun x => L ρ fun l => U ρ fun u => slXD x l u Q
theorem d_slX {lo hi : Option Expr} {L U : WO} (hA : DE X c a A) (hL : DO X c lo L) (hU : DO X c hi U) (hK : c.K = X.K := by rfl) : DE X c (.Subscript a (.Slice lo hi none p2) pos) (slXW A L U) where
 mono := fun ρ Q Q' k q => hA.mono ρ _ _ (fun d z => hL.mono ρ _ _ (fun l y => hU.mono ρ _ _ (fun u x => slXD_mono k x) y) z) q
 pe := pe_imp (pe_slice ((sl_list.or sl_tup3).or sl_str) hA.pe hL.po hU.po) fun σ H Q ⟨ρ, G, r, q⟩ => ⟨ρ, G, r, hA.mono ρ _ _ (fun d z v H1 G1 t1 e1 => ⟨ρ, G1, r.step t1, hL.mono ρ _ _ (fun l y H2 G2 t2 => ⟨ρ, G2, (r.step t1).step t2, hU.mono ρ _ _ (fun u x H3 G3 t3 => by
  have t := (t1.trans t2).trans t3
  have e3 := (e1.mono t2.gg).mono t3.gg
  cases d with
  | lst n xs =>
   obtain ⟨p, vs, rfl, hp, _, rv⟩ := e3
   exact .inl (.inl ⟨p, vs, rfl, SqL.of (t3.gh _ _ hp), fun l hl => x (.ref l) _ _ (t.trans (Stp.new t3.gh t3.bx hl)) ⟨l, _, rfl, upd_same, fun _ => r.new0 (t.free hl), (rv.cut _ _).mono (same_g (none_of_same t3.gh hl))⟩⟩)
  | tup xs =>
   obtain ⟨p, vs, rfl, hp, rv⟩ := e3
   exact .inl (.inr ⟨p, vs, rfl, hK ▸ sqT_same t3.gh hp, fun e => x (.ref p) H3 G3 t ⟨p, vs, rfl, hp, by have := rv.cut l u; rw [e] at this; exact this⟩, fun l hl => x (.ref l) _ _ (t.trans (Stp.new t3.gh t3.bx hl)) ⟨l, _, rfl, SqT.of upd_same, (rv.cut _ _).mono (same_g (none_of_same t3.gh hl))⟩⟩)
  | str zz => cases e3; exact .inr ⟨zz, rfl, x.1, x.2 _ H3 G3 t rfl⟩
  | _ => exact x.elim) y⟩) z⟩) q⟩
theorem d_leLe {ce : Expr} {C : WE} (hA : DE X c a A) (hB : DE X c b B) (hC : DE X c ce C) (hm : lastMarks [.LtE, .LtE] [b, ce] = false := by with_unfolding_all rfl) : DE X c (.Compare a [.LtE, .LtE] [b, ce] pos) (chainW leD leD A B C) :=
 ⟨chain_mono (m_cmp _) (m_cmp _) hA.mono hB.mono hC.mono, pe_imp (pe_chain op_le op_le hA.pe hB.pe hC.pe hm) fun σ H Q h => chain_read (m_cmp _) (m_cmp _) hA.mono hB.mono hC.mono (od_cmp _) (od_cmp _) σ H Q h⟩
theorem t_leLe {ce : Expr} {C : WE} (hA : DE X c a A) (hB : DE X c b B) (hC : DE X c ce C) (hm : lastMarks [.LtE, .LtE] [b, ce] = false := by with_unfolding_all rfl) : DT X c (.Compare a [.LtE, .LtE] [b, ce] pos) (blW (chainW leD leD A B C)) :=
 ⟨bl_mono (chain_mono (m_cmp _) (m_cmp _) hA.mono hB.mono hC.mono), pt_imp (pt_chain op_le op_le hA.pe hB.pe hC.pe hm) fun σ H Q h => by
  obtain ⟨ρ, G, R, q⟩ := bl_read (chain_mono (m_cmp _) (m_cmp _) hA.mono hB.mono hC.mono) σ H Q h
  exact chain_read (m_cmp _) (m_cmp _) hA.mono hB.mono hC.mono (od_cmp _) (od_cmp _) σ H _ ⟨ρ, G, R, q⟩⟩
def strD (d : D) (Q : Str -> Prop) : Prop := match d with | .str z => Q z | _ => False
theorem strD_mono {d : D} {Q Q' : Str -> Prop} (k : ∀ z, Q z -> Q' z) (q : strD d Q) : strD d Q' := by
 cases d <;> first | exact k _ q | exact q
abbrev FS := Str -> D -> (D -> Prop) -> Prop
def FSMono (f : FS) : Prop := ∀ x y Q Q', (∀ d, Q d -> Q' d) -> f x y Q -> f x y Q'
@[reducible] def smW (f : FS) (A B : WE) : WE := fun ρ Q => A ρ fun x => strD x fun z => B ρ fun y => f z y Q
def SmD (c : Bk) (f : FS) (r : V -> List V -> Hp -> VK -> Prop) : Prop := ∀ (H G : Hp) (z : Str) (y : D) (v : V) (Q : VK), Same G H -> BoxD c.β H G -> (∀ a, H a = none -> c.H0 a = none) -> Rep c G y v -> f z y (fun d => ∀ v H' G', Stp c.β H G H' G' -> Rep c G' d v -> Q v H') -> r (.str z) [v] H Q
theorem d_sm {f : FS} {r : V -> List V -> Hp -> VK -> Prop} {name : Str} {id : String} (fm : FSMono f) (slot : Slot "str" name id) (hty : typeOf (.builtin id) = pure (.type "method_descriptor")) (hm : MtR X id r) (hr : SmD c f r) (hA : DE X c o A) (hB : DE X c e B)
  (hbase : attributeBase o name X.env (eval o X.env) = eval o X.env := by rfl)
  (hfew : ((backTo cpos (starEach [e] X.env)).all (fun x => !x.1) && (backToKw cpos (keywordEach [] X.env)).all (fun x => x.1.isSome)
   && decide ([e].length + ([] : List Keyword).length + (if ([] : List Keyword).isEmpty then 0 else 1) < 30)) = true := by rfl)
  (hline : (apos.endLine == cpos.line) = true := by rfl) (hs : starEach [e] X.env = (false, eval e X.env) :: starEach [] X.env := by rfl) :
  DE X c (.Call (.Attribute o name apos) [e] [] cpos) (smW f A B) where
 mono := fun ρ Q Q' k q => hA.mono ρ _ _ (fun x z => strD_mono (fun t y => hB.mono ρ _ _ (fun y w => fm _ _ _ _ k w) y) z) q
 pe := pe_imp (pe_bm PySem.F.plainAttrs_str slot hty hm hA.pe (pa_cons hB.pe pa_nil hs) hbase hfew hline hs rfl) fun σ H Q ⟨ρ, G, R, q⟩ => ⟨ρ, G, R, hA.mono ρ _ _ (fun x z v H1 G1 t1 e1 => by
  cases x with
  | str z' =>
   cases e1
   exact ⟨rfl, ρ, G1, R.step t1, hB.mono ρ _ _ (fun y w v H2 G2 t2 e2 => hr H2 G2 z' y v Q t2.gh t2.bx (fun a z => R.new0 (t1.free (t2.free z))) e2 (fm _ _ _ _ (fun d u v' H3 G3 t3 e3 => u v' H3 G3 ((t1.trans t2).trans t3) e3) w)) z⟩
  | _ => exact z.elim) q⟩
def swF : FS := fun z y Q => match y with | .str b => Q (.bl (Txt.startswith z b)) | _ => False
theorem m_sw : FSMono swF := fun x y Q Q' k q => by cases y <;> first | exact k _ q | exact q
theorem sd_sw : SmD c swF rSw := fun H G z y v Q gh bx h0 ry q => by
 cases y with
 | str b => cases ry; exact ⟨z, b, rfl, rfl, q _ H G (Stp.refl gh bx) rfl⟩
 | _ => exact q.elim
def spF : FS := fun z y Q => match y with | .str b => (b.length ≠ 0 /\ z.length <= 100000) /\ Q (.lst true ((Txt.split z b).map D.str)) | _ => False
theorem m_sp : FSMono spF := fun x y Q Q' k q => by cases y <;> first | exact ⟨q.1, k _ q.2⟩ | exact q
theorem reps_strs {G : Hp} : ∀ {ns : List Str} {vs : List V}, Reps c G (ns.map D.str) vs ↔ vs = ns.map V.str
 | [], _ => Iff.rfl
 | n :: ns, vs => by
  constructor
  ·rintro ⟨v, ws, h1, h2, h3⟩
   rw [h1, reps_strs.mp h3]
   have : v = V.str n := h2
   rw [this]; rfl
  ·rintro rfl
   exact ⟨V.str n, ns.map V.str, rfl, rfl, reps_strs.mpr rfl⟩
theorem sd_sp : SmD c spF rSplit := fun H G z y v Q gh bx h0 ry q => by
 cases y with
 | str b => cases ry; exact ⟨z, b, rfl, rfl, q.1.1, q.1.2, fun p hp => q.2 (.ref p) _ _ (Stp.new gh bx hp) ⟨p, _, rfl, upd_same, fun _ => h0 p hp, reps_strs.mpr rfl⟩⟩
 | _ => exact q.elim
def joF : FS := fun z y Q => match y with | .lst _ xs => ∃ ts : List Str, xs = ts.map D.str /\ (∀ t ∈ ts, t.length <= 2000) /\ ts.length <= 2000 /\ z.length <= 1000 /\ Q (.str (Str.join z ts)) | _ => False
theorem m_jo : FSMono joF := fun x y Q Q' k q => by
 cases y with
 | lst n xs => obtain ⟨ts, h1, h2, h3, h4, q⟩ := q; exact ⟨ts, h1, h2, h3, h4, k _ q⟩
 | _ => exact q.elim
theorem sd_jo : SmD c joF (rJoin c.K) := fun H G z y v Q gh bx h0 ry q => by
 cases y with
 | lst n xs =>
  obtain ⟨ts, rfl, h2, h3, h4, q⟩ := q
  obtain ⟨a, vs, rfl, ha, _, hv⟩ := ry
  rw [reps_strs.mp hv] at ha
  exact ⟨z, a, ts, rfl, rfl, SqL.of (gh _ _ ha), h2, h3, h4, q _ H G (Stp.refl gh bx) rfl⟩
 | _ => exact q.elim
def intXF : FL := fun ds Q => match ds with
 | [.str x] => x.length <= 640 /\ (match PySem.intText? x with | some n => Q (.int n) | none => False)
 | ds => intF ds Q
theorem m_intX : FLMono intXF := fun ds Q Q' k q => by
 unfold intXF at q ⊢
 split at q
 ·refine ⟨q.1, ?_⟩
  have q := q.2
  split at q
  ·exact k _ q
  ·exact q.elim
 ·exact m_int _ _ _ k q
theorem cd_intX : CallD c intXF (fun xs H Q => ((∃ i, xs = [.int i] /\ Q (.int i) H) \/ ∃ k, xs = [.bl k] /\ Q (.int (if k then 1 else 0)) H) \/ ∃ x n, xs = [.str x] /\ x.length <= 640 /\ PySem.intText? x = some n /\ Q (.int n) H) := by
 intro H G ds vs Q gh bx h0 rv q
 unfold intXF at q
 split at q
 ·obtain ⟨v, rfl, rfl⟩ := reps1 rv
  have q2 := q.2
  split at q2
  ·rename_i n e
   exact .inr ⟨_, n, rfl, q.1, e, q2 _ H G (Stp.refl gh bx) rfl⟩
  ·exact q2.elim
 ·exact .inl (cd_int H G _ vs Q gh bx h0 rv q)
theorem d_intX {R : WL} (hR : DA X c [e] R) (hg : Gl X "int" := by rfl) (he : starEach [e] X.env = (false, eval e X.env) :: starEach [] X.env := by rfl) (hm : X.mg "int" = none := by decreasing_trivial) : DE X c (.Call (.Name "int" p) [e] [] pos) (cbW intXF R) :=
 d_callTy m_intX (call_int1.or call_int_txt) cd_intX hm PyProof.Rows.boot_int hR hg (by decide) (by decide) he rfl
def strF : FL
 | [.str x], Q => Q (.str x)
 | [.int i], Q => i.natAbs.log2 < 1920 /\ Q (.str (toString i))
 | _, _ => False
theorem m_str : FLMono strF := fun ds Q Q' k q => by
 unfold strF at q ⊢
 split at q <;> first | exact k _ q | exact ⟨q.1, k _ q.2⟩ | exact q.elim
theorem cd_str : CallD c strF (fun xs H Q => (∃ i, xs = [.int i] /\ i.natAbs.log2 < 1920 /\ Q (.str (toString i)) H) \/ ∃ x, xs = [.str x] /\ Q (.str x) H) := by
 intro H G ds vs Q gh bx h0 rv q
 unfold strF at q
 split at q
 ·obtain ⟨v, rfl, rfl⟩ := reps1 rv
  exact .inr ⟨_, rfl, q _ H G (Stp.refl gh bx) rfl⟩
 ·obtain ⟨v, rfl, rfl⟩ := reps1 rv
  exact .inl ⟨_, rfl, q.1, q.2 _ H G (Stp.refl gh bx) rfl⟩
 ·exact q.elim
theorem d_str {R : WL} (hR : DA X c [e] R) (hg : Gl X "str" := by rfl) (he : starEach [e] X.env = (false, eval e X.env) :: starEach [] X.env := by rfl) (hm : X.mg "str" = none := by decreasing_trivial) : DE X c (.Call (.Name "str" p) [e] [] pos) (cbW strF R) :=
 d_callTy m_str (call_str_int.or call_str_txt) cd_str hm PyProof.Rows.boot_str hR hg (by decide) (by decide) he rfl
theorem d_sw (hA : DE X c o A) (hB : DE X c e B) (hbase : attributeBase o "startswith" X.env (eval o X.env) = eval o X.env := by rfl)
  (hfew : ((backTo cpos (starEach [e] X.env)).all (fun x => !x.1) && (backToKw cpos (keywordEach [] X.env)).all (fun x => x.1.isSome)
   && decide ([e].length + ([] : List Keyword).length + (if ([] : List Keyword).isEmpty then 0 else 1) < 30)) = true := by rfl)
  (hline : (apos.endLine == cpos.line) = true := by rfl) (hs : starEach [e] X.env = (false, eval e X.env) :: starEach [] X.env := by rfl) :
  DE X c (.Call (.Attribute o "startswith" apos) [e] [] cpos) (smW swF A B) := d_sm m_sw PySem.F.slot_str_startswith PySem.F.type_str_startswith mt_startswith sd_sw hA hB hbase hfew hline hs
theorem d_split (hA : DE X c o A) (hB : DE X c e B) (hbase : attributeBase o "split" X.env (eval o X.env) = eval o X.env := by rfl)
  (hfew : ((backTo cpos (starEach [e] X.env)).all (fun x => !x.1) && (backToKw cpos (keywordEach [] X.env)).all (fun x => x.1.isSome)
   && decide ([e].length + ([] : List Keyword).length + (if ([] : List Keyword).isEmpty then 0 else 1) < 30)) = true := by rfl)
  (hline : (apos.endLine == cpos.line) = true := by rfl) (hs : starEach [e] X.env = (false, eval e X.env) :: starEach [] X.env := by rfl) :
  DE X c (.Call (.Attribute o "split" apos) [e] [] cpos) (smW spF A B) := d_sm m_sp PySem.F.slot_str_split PySem.F.type_str_split mt_split sd_sp hA hB hbase hfew hline hs
theorem d_join (hA : DE X c o A) (hB : DE X c e B) (hbase : attributeBase o "join" X.env (eval o X.env) = eval o X.env := by rfl)
  (hfew : ((backTo cpos (starEach [e] X.env)).all (fun x => !x.1) && (backToKw cpos (keywordEach [] X.env)).all (fun x => x.1.isSome)
   && decide ([e].length + ([] : List Keyword).length + (if ([] : List Keyword).isEmpty then 0 else 1) < 30)) = true := by rfl)
  (hline : (apos.endLine == cpos.line) = true := by rfl) (hs : starEach [e] X.env = (false, eval e X.env) :: starEach [] X.env := by rfl) (hK : c.K = X.K := by rfl) :
  DE X c (.Call (.Attribute o "join" apos) [e] [] cpos) (smW joF A B) := d_sm m_jo PySem.F.slot_str_join PySem.F.type_str_join (hK ▸ mt_join) sd_jo hA hB hbase hfew hline hs
def chs (z : Str) : List D := z.cps.toList.map fun ch => D.str ⟨#[ch]⟩
def seqXD (d : D) (Q : List D -> Prop) : Prop := match d with | .str z => Q (chs z) | d => seqD d Q
theorem seqXD_mono {d : D} {Q Q' : List D -> Prop} (k : ∀ xs, Q xs -> Q' xs) (q : seqXD d Q) : seqXD d Q' := by
 cases d <;> first | exact k _ q | exact q.elim
@[reducible] def seqXI (A : WE) : WL := fun ρ Q => A ρ fun d => seqXD d Q
theorem it_str {G : Hp} (z : Str) : ItOk c (Its z) (chs z) G := by
 intro i H2 G2 s1 s2 bx h0
 refine ⟨fun e => ?_, fun d e => ?_⟩
 ·show z.length <= i
  subst e
  unfold chs Str.length
  simp
 ·unfold chs at e
  rw [List.getElem?_map] at e
  cases e1 : z.cps.toList[i]? with
  | none => rw [e1] at e; cases e
  | some ch =>
   rw [e1] at e
   cases e
   have lt : i < z.cps.size := by simpa using (List.getElem?_eq_some_iff.mp e1).1
   refine ⟨lt, fun v H3 y => ?_⟩
   obtain ⟨rfl, c', h1, rfl⟩ := y
   rw [<- Array.getElem?_toList, e1] at h1
   cases h1
   exact ⟨G2, Stp.refl s2 bx, rfl⟩
def iX (K : PySem.W.Frag) (tl : TE) : TI := fun σ H R => tl σ H fun x H1 => (∃ z, x = .str z /\ R (Its z) H1) \/ ∃ a, x = .ref a /\ (((∃ xs, SqL K H1 a xs) /\ R (Itl K a) H1) \/ ((∃ xs, SqT K H1 a xs) /\ R (Itt K a) H1))
theorem pi_X {tg l : Expr} {tl : TE} (hl : PE X l tl) : PI X tg l (iX X.K tl) := by
 intro pins s σ H R I h
 refine thn (hl pins s σ H _ I h) fun v s1 ⟨x, H1, I1, r1, q1⟩ => ?_
 have fp : ∀ b ∈ [s1.heap.objs.size], FpOk X pins H1 b := fun b hb => by
  have e : b = s1.heap.objs.size := by simpa using hb
  subst e
  exact I1.fpOk (Nat.le_refl _) (I1.hok.fresh (Nat.le_refl _))
 rcases q1 with ⟨z, rfl, q⟩ | ⟨a, rfl, ⟨⟨xs, hq⟩, q⟩ | ⟨⟨xs, hq⟩, q⟩⟩
 ·obtain ⟨t, rfl⟩ := r1
  have fin : ∀ ty, (ty = "str_ascii_iterator" \/ ty = "str_iterator") -> PIE X pins σ tg R (.ref s1.heap.objs.size) { s1 with heap := s1.heap.push { cls := .type ty, data := .fields #[.str z t, .int 0 0] } } := fun ty hty =>
   ⟨s1.heap.objs.size, [s1.heap.objs.size], _, _, H1, rfl, I1.kept (t' := s1.toks) fun b o e => Heap.get?_push_of_some _ e, turn_str z t ty hty _, ⟨_, Heap.get?_push_size _ rfl, rfl, rfl⟩, fp, q⟩
  cases ha : z.cps.all (· < 128)
  ·exact wpAny_pyIter_wide ha (fin _ (.inr rfl))
  ·exact wpAny_pyIter_ascii ha (fin _ (.inl rfl))
 ·cases r1
  obtain ⟨its, rv, p, hz⟩ := I1.list hq
  exact wpAny_pyIter_list p.isList ⟨s1.heap.objs.size, [s1.heap.objs.size], _, _, H1, rfl, I1.kept (t' := s1.toks) fun b o e => Heap.get?_push_of_some _ e, turn_list a _, ⟨_, Heap.get?_push_size _ rfl, rfl, rfl⟩, fp, q⟩
 ·cases r1
  obtain ⟨its, rv, p, hz⟩ := I1.tuple hq
  exact wpAny_pyIter_tuple (show s1.heap.IsTuple a its.toArray from p) ⟨s1.heap.objs.size, [s1.heap.objs.size], _, _, H1, rfl, I1.kept (t' := s1.toks) fun b o e => Heap.get?_push_of_some _ e, turn_tuple a _, ⟨_, Heap.get?_push_size _ rfl, rfl, rfl⟩, fp, q⟩
theorem i_seqX {tg : Expr} (hA : DE X c e A) (hK : c.K = X.K := by rfl) : DI X c tg e (seqXI A) where
 mono := fun ρ Q Q' k q => hA.mono ρ _ _ (fun d z => seqXD_mono k z) q
 pi := pi_imp (pi_X hA.pe) fun σ H R ⟨ρ, G, r, q⟩ => ⟨ρ, G, r, hA.mono ρ _ _ (fun d z v H' G' t e => by
  cases d with
  | str x => cases e; exact .inl ⟨x, rfl, z _ H' G' t (it_str x)⟩
  | lst n xs =>
   obtain ⟨l, vs, rfl, hl, _, hv⟩ := e
   exact .inr ⟨l, rfl, .inl ⟨⟨vs, SqL.of (t.gh _ _ hl)⟩, z _ H' G' t (hK ▸ it_list hl hv)⟩⟩
  | tup xs =>
   obtain ⟨l, vs, rfl, hl, hv⟩ := e
   exact .inr ⟨l, rfl, .inr ⟨⟨vs, hK ▸ sqT_same t.gh hl⟩, z _ H' G' t (hK ▸ it_tup hl hv)⟩⟩
  | _ => exact z.elim) q⟩
def stD (d : D) (Q : D -> List D -> Prop) : Prop := match d with | .lst _ (x :: xs) => xs.length <= 10000 /\ Q x xs | _ => False
theorem stD_mono {d : D} {Q Q' : D -> List D -> Prop} (k : ∀ x xs, Q x xs -> Q' x xs) (q : stD d Q) : stD d Q' := by
 unfold stD at q ⊢
 split at q
 ·exact ⟨q.1, k _ _ q.2⟩
 ·exact q.elim
@[reducible] def starW (i j : Nat) (A : WE) : WS := fun E ρ => A ρ fun d => stD d fun x xs => E.nx ((ρ.set i (.val x)).set j (.val (.lst true xs)))
theorem s_star (i j : Nat) {x y : Str} {k : Nat} {pt : Pos} (hA : DE X c e A) (hi : X.N[i]? = some x := by rfl) (hj : X.N[j]? = some y := by rfl) (hx : Loc X.env.scope x := by first | exact Or.inl rfl | exact Or.inr rfl) (hy : Loc X.env.scope y := by first | exact Or.inl rfl | exact Or.inr rfl)
  (hf : X.fn x = true \/ X.env.scope.names.lookup x = some .local := by first | exact .inl rfl | exact .inr rfl | assumption) (hf' : X.fn y = true \/ X.env.scope.names.lookup y = some .local := by first | exact .inl rfl | exact .inr rfl | assumption)
  (hn : (assignEach [.Name x px, .Starred (.Name y py) ps] X.env).length = 2 := by rfl) (hst : (assignEach [.Name x px, .Starred (.Name y py) ps] X.env).findIdx? (·.1) = some 1 := by rfl)
  (he : (assignEach [.Name x px, .Starred (.Name y py) ps] X.env).map (·.2) = [assign (.Name x px) X.env, assign (.Name y py) X.env] := by rfl)
  (hs : swapsWithSole [.Tuple [.Name x px, .Starred (.Name y py) ps] k pt] e pos.line X.env = pure false := by rfl) (hw : swappedStores [.Tuple [.Name x px, .Starred (.Name y py) ps] k pt] e X.env = pure none := by rfl)
  (h1 : (assignEach [.Tuple [.Name x px, .Starred (.Name y py) ps] k pt] X.env).map (·.2) = [assign (.Tuple [.Name x px, .Starred (.Name y py) ps] k pt) X.env] := by rfl)
  (hc : X.calm = true := by rfl) (hK : c.K = X.K := by rfl) (hN : X.N.Nodup := by decreasing_trivial) : DS X c (.Assign [.Tuple [.Name x px, .Starred (.Name y py) ps] k pt] e pos) (starW i j A) where
 mono := fun E E' ρ l q => hA.mono ρ _ _ (fun d z => stD_mono (fun _ _ w => l.nx _ w) z) q
 ps := ps_imp (ps_asg hA.pe (pg_star hc hN hi hj hx hy hf hf' hn hst he) hs hw h1) fun D σ H ⟨ρ, G, r, q⟩ => ⟨ρ, G, r, hA.mono ρ _ _ (fun d z v H' G' t1 e1 => by
  unfold stD at z
  split at z
  ·rename_i n x1 xs
   obtain ⟨a, vs, rfl, ha, _, v1, ws, rfl, r1, rr⟩ := e1
   refine ⟨a, v1, ws, rfl, SqL.of (t1.gh _ _ ha), by rw [<- rr.length]; exact z.1, fun p hp => ?_⟩
   have hg := none_of_same t1.gh hp
   have tn := Stp.new (o := .lst ws) t1.gh t1.bx hp
   have sg : Same G' (upd G' p (.lst ws)) := same_g hg
   have R2 := (((r.step t1).step tn).put (i := i) (r1.mono sg)).put (i := j) (d := .lst true xs) (v := .ref p) ⟨p, ws, rfl, upd_same, fun _ => r.new0 (t1.free hp), rr.mono sg⟩
   exact z.2 _ _ _ R2 (t1.gg.trans sg)
  ·exact z.elim) q⟩
structure GDict (P : Program) (w : PySem.World) (K : PySem.W.Frag) (mg : Str -> Option Value) (x : Str) (kvs : List (Str × D)) : Prop where
 ex : ∃ (a : Addr) (vvs : List (Key × V)), mg x = some (.ref a) /\ (∀ h : Heap, K.In h -> (a == sysModules) = false /\ ∃ vs, KV vvs vs /\ h.DictOf (mixKind P w) a vs) /\
  ∀ z : Str, (valV vvs (.inr z) = none /\ kvs.lookup z = none) \/ ∃ v d, valV vvs (.inr z) = some v /\ kvs.lookup z = some d /\ ∀ (c : Bk) (G : Hp), c.K = K -> Rep c G d v
def lkD (kvs : List (Str × D)) (d : D) (Q : Option D -> Prop) : Prop := match d with | .str z => Q (kvs.lookup z) | _ => False
theorem lkD_mono {kvs : List (Str × D)} {d : D} {Q Q' : Option D -> Prop} (k : ∀ z, Q z -> Q' z) (q : lkD kvs d Q) : lkD kvs d Q' := by
 cases d <;> first | exact k _ q | exact q
theorem lkD_at {kvs : List (Str × D)} {zz : Str} {o : Option D} {Q : Option D -> Prop} (q : lkD kvs (.str zz) Q) (e : kvs.lookup zz = o) : Q o := e ▸ q
@[reducible] def inGW (neg : Bool) (kvs : List (Str × D)) (A : WE) : WE := fun ρ Q => A ρ fun d => lkD kvs d fun o => Q (.bl (if neg then !o.isSome else o.isSome))
def opD (o : Option D) (Q : D -> Prop) : Prop := match o with | some d => Q d | none => False
theorem opD_mono {o : Option D} {Q Q' : D -> Prop} (k : ∀ z, Q z -> Q' z) (q : opD o Q) : opD o Q' := by
 cases o <;> first | exact k _ q | exact q
@[reducible] def ixGW (kvs : List (Str × D)) (A : WE) : WE := fun ρ Q => A ρ fun d => lkD kvs d fun o => opD o Q
def tInG (vvs : List (Key × V)) (neg : Bool) (ty : TE) : TE := fun σ H Q => ty σ H fun y H1 => ∃ z, y = .str z /\ Q (.bl (if neg then !(valV vvs (.inr z)).isSome else (valV vvs (.inr z)).isSome)) H1
section
variable {x : Str} {ax : Addr} {vvs : List (Key × V)} {ty : TE}
theorem pc_notInG (hm : X.mg x = some (.ref ax)) (hk : ∀ h : Heap, X.K.In h -> (ax == sysModules) = false /\ ∃ vs, KV vvs vs /\ h.DictOf (mixKind X.prog X.w) ax vs) (hg : Gl X x) (hdb : (x == ("__debug__" : Str)) = false) (hi : PE X a ty) : PC X .NotIn a (.Name x p) (tInG vvs true ty) := by
 intro pins s σ H Q I h
 refine thn (hi pins s σ H _ I h) fun iv s1 ⟨y, H1, I1, ry, z, ey, q⟩ => ld_glob I1 hg hm ?_ hdb
 subst ey
 obtain ⟨hd, vs, rel, dd⟩ := hk s1.heap I1.kIn
 refine wpAny_notIn_of (kV_is (k := .inr z) ry) hd dd.mapOf ?_
 rw [<- (rel.val (.inr z)).isSome_eq]
 exact ⟨.bl _, H1, I1.tok _, rfl, q⟩
def tIxG (vvs : List (Key × V)) (ty : TE) : TE := fun σ H Q => ty σ H fun y H1 => ∃ z v, y = .str z /\ valV vvs (.inr z) = some v /\ Q v H1
theorem pe_ixG (hm : X.mg x = some (.ref ax)) (hk : ∀ h : Heap, X.K.In h -> (ax == sysModules) = false /\ ∃ vs, KV vvs vs /\ h.DictOf (mixKind X.prog X.w) ax vs) (hg : Gl X x) (hdb : (x == ("__debug__" : Str)) = false) (hi : PE X b ty) (hs : NoSl b) : PE X (.Subscript (.Name x p) b pos) (tIxG vvs ty) := by
 intro pins s σ H Q I h
 refine subD_of PySem.F.slot_dict_getitem.lookup hs (ld_glob I hg hm (thn (hi pins s σ H _ I h) fun iv s2 ⟨y, H2, I2, ry, z, v, ey, l, q2⟩ => ?_) hdb)
 subst ey
 obtain ⟨hd, vs, rel, dd⟩ := hk s2.heap I2.kIn
 obtain ⟨w', hw, rw'⟩ := RelO.some_of (v := v) (o := valueAt vs (.inr z)) (by rw [<- l]; exact rel.val (.inr z))
 exact ⟨dd.typeIs, wpAny_getItem_of (kV_is (k := .inr z) ry) dd.mapOf hw ⟨v, H2, I2.tok _, rw', q2⟩⟩
end
theorem t_notInG {x : Str} {kvs : List (Str × D)} (g : GDict X.prog X.w X.K X.mg x kvs) (hA : DE X c a A) (hg : Gl X x := by rfl) (hdb : (x == ("__debug__" : Str)) = false := by decide) (hb : behindInMarks .NotIn (.Name x p) = false := by rfl) : DT X c (.Compare a [.NotIn] [.Name x p] pos) (blW (inGW true kvs A)) where
 mono := bl_mono fun ρ Q Q' k q => hA.mono ρ _ _ (fun d z => lkD_mono (fun o y => k _ y) z) q
 pt := by
  obtain ⟨ax, vvs, hm, hk, hv⟩ := g.ex
  exact pt_imp (pt_cmp (pc_notInG hm hk hg hdb hA.pe) hb) fun σ H Q ⟨ρ, G, r, q⟩ => ⟨ρ, G, r, hA.mono ρ _ _ (fun d z v H' G' t e => by
   cases d with
   | str zz =>
    cases e
    refine ⟨zz, rfl, _, rfl, ?_⟩
    rcases hv zz with ⟨e1, e2⟩ | ⟨v, d, e1, e2, _⟩
    ·have z := lkD_at z e2; rw [e1]; exact z H' G' t
    ·have z := lkD_at z e2; rw [e1]; exact z H' G' t
   | _ => exact z.elim) q⟩
theorem d_ixG {x : Str} {kvs : List (Str × D)} (g : GDict X.prog X.w X.K X.mg x kvs) (hB : DE X c b B) (hK : c.K = X.K := by rfl) (hg : Gl X x := by rfl) (hdb : (x == ("__debug__" : Str)) = false := by decide) (hs : NoSl b := by intro _ _; rfl) : DE X c (.Subscript (.Name x p) b pos) (ixGW kvs B) where
 mono := fun ρ Q Q' k q => hB.mono ρ _ _ (fun d z => lkD_mono (fun o y => opD_mono k y) z) q
 pe := by
  obtain ⟨ax, vvs, hm, hk, hv⟩ := g.ex
  exact pe_imp (pe_ixG hm hk hg hdb hB.pe hs) fun σ H Q ⟨ρ, G, r, q⟩ => ⟨ρ, G, r, hB.mono ρ _ _ (fun d z v H' G' t e => by
   cases d with
   | str zz =>
    cases e
    rcases hv zz with ⟨e1, e2⟩ | ⟨v, d, e1, e2, e3⟩
    ·have z := lkD_at z e2; exact z.elim
    ·have z := lkD_at z e2; exact ⟨zz, v, rfl, e1, z v H' G' t (e3 c G' hK)⟩
   | _ => exact z.elim) q⟩
end
def dEn (P : Params) (p : Str × Tok × Value) : DictEntry := ⟨PyData.keyHash P p.1, .str p.1 p.2.1, p.2.2⟩
theorem pairs_of {P : Program} {w : PySem.World} : ∀ ps : List (Str × Tok × Value), Pairs (mixKind P w) (ps.map (dEn w.params)) (ps.map fun p => ((Sum.inr p.1 : Key), p.2.2))
 | [] => .nil
 | p :: ps => .cons (keyIs_str p.1 p.2.1) rfl (pairs_of ps)
theorem dict_of {P : Program} {w : PySem.World} {K : PySem.W.Frag} {a : Addr} {n : Nat} {ps : List (Str × Tok × Value)} (hl : K.lookup a = some ⟨.type "dict", none, .dict (ps.map (dEn w.params)).toArray n, #[]⟩) (hn : (ps.map fun p => (Sum.inr p.1 : Key)).Nodup) (h : Heap) (hk : K.In h) :
  h.DictOf (mixKind P w) a (ps.map fun p => ((Sum.inr p.1 : Key), p.2.2)) := by
 refine ⟨_, _, _, hk a _ hl, ⟨rfl, rfl, rfl⟩, rfl, fun e he => ?_, by simpa using pairs_of ps, by rw [List.map_map]; exact hn⟩
 have he : e ∈ ps.map (dEn w.params) := by simpa using he
 obtain ⟨p, hp, rfl⟩ := List.mem_map.mp he
 exact ⟨.inr p.1, keyIs_str p.1 p.2.1, rfl⟩
structure GRow (K : PySem.W.Frag) (p : Str × Tok × Value) (q : Str × D) : Prop where
 key : p.1 = q.1
 val : ∃ v : V, RelV v p.2.2 /\ ∀ (c : Bk) (G : Hp), c.K = K -> Rep c G q.2 v
theorem grow_strs {K : PySem.W.Frag} {x : Str} {t : Tok} {a : Addr} {n : Nat} {its : List (Str × Tok)} {sl : Array (Option Value)} {od : Option Addr} (hl : K.lookup a = some ⟨.type "tuple", od, .seq (its.map fun p => Value.str p.1 p.2).toArray n, sl⟩) (hz : its.length <= 1000 := by simp) : GRow K (x, t, .ref a) (x, .tup ((its.map (·.1)).map D.str)) :=
 ⟨rfl, .ref a, rfl, fun c G hK => ⟨a, (its.map (·.1)).map V.str, rfl, .inr ⟨_, _, n, hK ▸ hl, rfl, rfl, by simp; rw [sizeLine_eq]; omega, by simpa [strValues] using vals_strs its⟩, reps_strs.mpr rfl⟩⟩
inductive GRows (K : PySem.W.Frag) : List (Str × Tok × Value) -> List (Str × D) -> Prop
 | nil : GRows K [] []
 | cons {p : Str × Tok × Value} {q : Str × D} {ps : List (Str × Tok × Value)} {qs : List (Str × D)} (h : GRow K p q) (r : GRows K ps qs) : GRows K (p :: ps) (q :: qs)
theorem grows_kv {K : PySem.W.Frag} : ∀ {ps : List (Str × Tok × Value)} {kvs : List (Str × D)}, GRows K ps kvs -> ∃ vvs : List (Key × V), KV vvs (ps.map fun p => ((Sum.inr p.1 : Key), p.2.2)) /\
  ∀ z : Str, (valV vvs (.inr z) = none /\ kvs.lookup z = none) \/ ∃ v d, valV vvs (.inr z) = some v /\ kvs.lookup z = some d /\ ∀ (c : Bk) (G : Hp), c.K = K -> Rep c G d v
 | _, _, .nil => ⟨[], .nil, fun z => .inl ⟨rfl, rfl⟩⟩
 | _, _, @GRows.cons _ p q ps kvs h r => by
  obtain ⟨vvs, h1, h2⟩ := grows_kv r
  obtain ⟨v, rv, hv⟩ := h.val
  refine ⟨(Sum.inr p.1, v) :: vvs, .cons ⟨rfl, rv⟩ h1, fun z => ?_⟩
  by_cases e : z = p.1
  ·subst e
   refine .inr ⟨v, q.2, valV_pos rfl, ?_, hv⟩
   rw [show q = (q.1, q.2) from rfl, <- h.key, List.lookup_cons_self]
  ·have n1 : ¬ (Sum.inr p.1 : Key) = Sum.inr z := fun k => e (Sum.inr.inj k).symm
   have n2 : kvs.lookup z = (q :: kvs).lookup z := by
    rw [show q = (q.1, q.2) from rfl, <- h.key, List.lookup_cons, show (z == p.1) = false from by simp [e]]
   rw [valV_neg n1, <- n2]
   exact h2 z
theorem gdict {P : Program} {w : PySem.World} {K : PySem.W.Frag} {mg : Str -> Option Value} {h : Heap} (X : K.In h) (G : h.Ns mainGlobals mg) {x : Str} {a : Addr} {n : Nat} {ps : List (Str × Tok × Value)} {kvs : List (Str × D)} (hn : PySem.W.nsIn K mainGlobals x = some (some (.ref a)))
  (hl : K.lookup a = some ⟨.type "dict", none, .dict (ps.map (dEn w.params)).toArray n, #[]⟩) (hr : GRows K ps kvs) (ha : (a == sysModules) = false) (hd : (ps.map fun p => (Sum.inr p.1 : Key)).Nodup) : GDict P w K mg x kvs := by
 obtain ⟨vvs, h1, h2⟩ := grows_kv hr
 exact ⟨a, vvs, PySem.W.mg_of X G hn, fun h hk => ⟨ha, _, h1, dict_of hl hd h hk⟩, h2⟩
end Fd
namespace L2
open PySem PySem.Spec PySem.Calls PyProof.Rows PySem.W Builtin Builtin.ObjectAttr Builtin.Getset_descriptor
section
variable {prog : Program} {w : World} {A : Around} {E : Value -> Shared -> Prop} {s : Shared} {K : PySem.W.Frag} {x D : Addr} {ox : Obj}
structure ExK (K : PySem.W.Frag) (D : Addr) : Prop where
 cls : (clsIn K D).isSome = true
 ga : findIn K (.ref D) "__getattribute__" = some (some (.builtin "BaseException.__getattribute__"))
 noga : findIn K (.ref D) "__getattr__" = some none
 fc : findIn K (.ref D) "__class__" = some (some (.builtin "object.__class__"))
 sp : specialIn K (.builtin "object.__class__") "__get__" = some (some (.builtin "getset_descriptor.__get__"))
 tk : takesIn K (.builtin "object.__class__") = some true
 ob : mroIn K D (.type "object") = some true
 be : subIn K (.ref D) (.type "BaseException") = some true
def ExAt (h : Heap) (x : Addr) (D : Addr) : Prop := ∃ o, h.get? x = some o /\ o.cls = .ref D
theorem ExAt.type {M : Model} {h : Heap} (I : ExAt h x D) : Looks M h (typeOf (.ref x)) (.ref D) := by
 obtain ⟨o, h1, h2⟩ := I
 exact h2 ▸ (Looks.ld h1).andThen .now
theorem ExK.find (k : ExK K D) {M : Model} {h : Heap} (X : K.In h) : Looks M h (Builtin.ObjectAttr.find (.ref x) (.ref D) "__class__") (.bind (.builtin "getset_descriptor.__get__") (.builtin "object.__class__")) := by
 refine (looks_findIn (M := M) X k.fc).andThen ((looks_specialIn (M := M) X k.sp).andThen ?_)
 exact (show Looks M h (Builtin.ObjectAttr.dataDescriptor? (some (.builtin "object.__class__")) (some (.builtin "getset_descriptor.__get__"))) (some (.builtin "getset_descriptor.__get__", .builtin "object.__class__")) from (looks_takesIn (M := M) X k.tk).andThen .now).andThen (Looks.tag .now)
theorem exq_get {tp : Value} {R : Result -> Shared -> Prop} (k : ExK K D) (X : K.In s.heap) (I : ExAt s.heap x D)
  (h : R (.ok (.ret (.ref D))) s) : codeAny (model prog w) A (.call (.builtin "getset_descriptor.__get__") ⟨[.builtin "object.__class__", .ref x, tp], []⟩) R s := by
 obtain ⟨hh, g, dr, t, os⟩ := s
 have L0 := I.type (M := model prog w)
 have L1 := looks_mroIn (M := model prog w) X k.ob
 refine codeAny_call_builtin KF.slot_gs.plain KF.entry_gs (KF.slot_gs.check _ _ _ _ _ _ _ _ KF.type_class (KF.args_gs _ _ _) ?_)
 unfold Builtin.«getset_descriptor.__get__» descrGet
 rw [dga_obj]
 refine wpAny_bind (wpAny_pure ?_)
 unfold descrGetter descrCheckInstance descrNameAndClass isInstance
 simp only [KF.owner_class]
 repeat lk
 refine ⟨Code.quiet_builtin _ (by decide +kernel), codeAny_builtin KF.entry_class ?_⟩
 unfold Builtin.«object.__class__» shownTypeOf
 repeat lk
 exact h
theorem exq_entry {tk : Tok} {P : Value -> Shared -> Prop} (k : ExK K D) (X : K.In s.heap) (I : ExAt s.heap x D) (h : P (.ref D) s) :
  wpAny (model prog w) A (Builtin.«object.__getattribute__» ⟨[.ref x, .str "__class__" tk], []⟩) (fun fin s' => match fin with | .done (.ret v) => P v s' | _ => False) E s := by
 obtain ⟨hh, g, d, t, os⟩ := s
 have L0 := I.type (M := model prog w)
 have L1 := k.find (x := x) (M := model prog w) X
 refine wpAny_bind (wpAny_pure ?_)
 refine wpAny_bind (wpAny_pure ?_)
 refine wpAny_bind (L0.at ?_)
 refine wpAny_bind (L1.at ?_)
 show wpAny _ _ (holding [Value.builtin "object.__class__"] (call (Value.builtin "getset_descriptor.__get__") [Value.builtin "object.__class__", .ref x, .ref D]) >>= ret) _ _ _
 refine wpAny_bind (wpAny_holding (wpAny_call (exq_get k X I ?_)))
 exact wpAny_pure h
theorem exq_check {M : Model} {nv : Value} {Q : Unit -> Shared -> Prop} (k : ExK K D) (X : K.In s.heap) (I : ExAt s.heap x D) (hq : Q () s) : wpAny M A (checkBuiltinCall "BaseException.__getattribute__" ⟨[.ref x, nv], []⟩) Q E s := by
 obtain ⟨hh, g, d, t, os⟩ := s
 have LI : Looks M hh (isInstance (.ref x) (.type "BaseException")) true := (I.type (M := M)).andThen (looks_subIn (M := M) X k.be)
 have hk : builtinKind "BaseException.__getattribute__" = some .slot := by decide +kernel
 have hsplit : splitId "BaseException.__getattribute__" = some ("BaseException", "__getattribute__") := by decide +kernel
 have ha := F.args_bexc_ga (.ref x) nv
 simp only [checkBuiltinCall, hk, hsplit]
 refine wpAny_bind (LI.at ?_)
 repeat (first | exact hq | wp_step)
theorem exq_class {Q : Option Value -> Shared -> Prop} (k : ExK K D) (X : K.In s.heap) (I : ExAt s.heap x D) (h : Q (some (.ref D)) { s with toks := s.toks + 1 }) : wpAny (model prog w) A (getAttr? (.ref x) "__class__") Q E s := by
 obtain ⟨hh, g, d, t, os⟩ := s
 have L0 := I.type (M := model prog w)
 have L1 := looks_findIn (M := model prog w) X k.ga
 have L2 := looks_findIn (M := model prog w) X k.noga
 unfold getAttr? getAttrBy? getAttrBy
 refine wpAny_bind (wpAny_mkText (wpAny_bind (wpAny_attempt (wpAny_holding (wpAny_bind (L0.at (wpAny_bind (L1.at ?_))))))))
 show wpAny _ _ (getAttrByItsOwn _ _ _ _ _ _) _ _ _
 unfold getAttrByItsOwn hookBefore callGetattribute
 refine wpAny_bind (L2.at ?_)
 refine wpAny_bind (wpAny_attempt (wpAny_holding ?_))
 show wpAny _ _ (boundAndCalled _ _ _) _ _ _
 unfold boundAndCalled
 rw [F.excAttr_ValueError.ga.bind]
 refine wpAny_bind (wpAny_pure ?_)
 refine wpAny_call (codeAny_call_builtin F.excAttr_ValueError.ga.plain F.entry_bexc_ga ?_)
 refine exq_check k X I ?_
 refine wpAny_mono (exq_entry (E := fun _ _ => False) (P := fun v s' => v = .ref D /\ s' = ⟨hh, g, d, t + 1, os⟩) k X I ⟨rfl, rfl⟩) (fun fin s' z => ?_) fun _ _ z => z.elim
 rcases fin with (_ | _ | _ | v) | _
 ·exact z.elim
 ·exact z.elim
 ·exact z.elim
 ·obtain ⟨rfl, rfl⟩ := z
  exact handed_on rfl (wpAny_pure h)
 ·exact z.elim
theorem ExK.it (k : ExK K D) {M : Model} {h : Heap} (X : K.In h) : Looks M h (isType (.ref D)) true := by
 obtain ⟨cdD, hcD⟩ := Option.isSome_iff_exists.mp k.cls
 unfold clsIn at hcD
 split at hcD
 ·rename_i c' d' cd' sl' ho
  intro A' Q' E' s' k q
  unfold isType loadHead
  exact wpAny_bind (wpAny_loadPart (k _ _ (X _ _ ho)) (wpAny_pure q))
 ·cases hcD
theorem kitx_exc (k : ExK K D) : KitX K (.ref x) (.ref D) (fun h => ExAt h x D) where
 ty := fun _ _ _ I => I.type
 it := fun _ _ X _ => k.it X
 ne := fun h tp dd its n sl X htp => by
  obtain ⟨cdD, hcD⟩ := Option.isSome_iff_exists.mp k.cls
  refine Bool.eq_false_iff.mpr fun q => ?_
  have e : D = tp := Value.ref.inj (beq_iff_eq.mp q)
  subst e
  unfold clsIn at hcD
  split at hcD
  ·rename_i c' d' cd' sl' ho
   have z := (X _ _ ho).symm.trans htp
   cases z
  ·cases hcD
 ca := fun X I q => exq_class k X I q
theorem isi_exc {c : Value} {b : Bool} {Q : Value -> Shared -> Prop} (k : ExK K D) (X : K.In s.heap) (I : ExAt s.heap x D) (e : kitOne K (.ref D) c = some b) (h : ∀ tk, Q (.bool b) { s with toks := tk }) :
  wpAny (model prog w) A (call (.builtin "isinstance") [.ref x, c]) Q E s :=
 kia_one (kitx_exc k) X I e (by intro z; cases z) h
end
end L2
namespace L2
open PySem PySem.Spec PyProof.Rows PySem.W
section
variable {X : Cx} {pins : List (Addr × Obj)} {σ : St} {H : Hp} {s : Shared}
theorem goes_ok {M : Model} {A : Around} {E : Value -> Shared -> Prop} {i : Nat} {x : Str} {pos : Pos} {Q : Unit -> Shared -> Prop} (I : Inv X pins σ H s) (hN : X.N.Nodup) (hi : X.N[i]? = some x) (hk : X.env.scope.names.lookup x = some .local) (h : ∀ s', Inv X pins (σ.set i none) H s' -> Q () s') :
  wpAny M A (do bindName X.env x .none; unbindBehindTheSuite X.env x pos) Q E s := by
 obtain ⟨m, hn, hl⟩ := id I.loc
 have hcls : (X.env.scope.kind == .class || (X.env.scope.kind == .module && X.env.locals != X.env.globals)) = false := by rw [I.ok.kind]; rfl
 have hiσ : i < σ.length := by rw [I.len]; exact (List.getElem?_eq_some_iff.mp hi).1
 refine wpAny_nameGoes_keeps hk hn hcls fun h' v hn' hs => ?_
 obtain ⟨oL, _, _, hoL, _⟩ := id hn
 have neL : ∀ {b o}, X.s₀.heap.get? b = some o -> b ≠ X.env.locals := fun e => Nat.ne_of_lt (Nat.lt_of_lt_of_le (Heap.lt_size e) I.ok.above)
 refine h _ ⟨I.ok, I.os, I.bare, ⟨fun b o e n hb hx => (hs.2 b (neL e)).trans (I.base.keep b o e n hb hx), fun b o e n hb hx => ?_, I.base.free, fun b o e hx => ?_, I.base.tups, I.base.frzs, I.base.tbls⟩, ⟨_, hn', fun j y v' e1 e2 e3 => ?_⟩, fun y c e => ?_, I.free, I.freeC, fun p hp => ?_, fun b ob e => (I.hok b ob e).stay (fun c w' hc q => (hs.2 c ?_).trans q) (fun _ q => q) fun _ _ q => q, by simpa using I.len⟩
 ·obtain ⟨sl, e1⟩ := I.base.slot b o e n hb hx
  exact ⟨sl, (hs.2 b (neL e)).trans e1⟩
 ·obtain ⟨o', e1⟩ := I.base.there b o e hx
  exact ⟨o', (hs.2 b (neL e)).trans e1⟩
 ·by_cases hj : j = i
  ·subst hj
   rw [List.getElem?_set_self hiσ] at e2
   cases e2
  ·rw [List.getElem?_set_ne (Ne.symm hj)] at e2
   obtain ⟨u', r', q⟩ := hl j y v' e1 e2 e3
   refine ⟨u', r', ?_⟩
   rcases q with ⟨k, e⟩ | ⟨k, c, e, z⟩
   ·refine .inl ⟨k, ?_⟩
    have : y ≠ x := fun e => hj (nodup_ix hN e1 (e ▸ hi))
    simp [this, e]
   ·exact .inr ⟨k, c, e, z.sameBut hs (I.cne y c e)⟩
 ·obtain ⟨w', z⟩ := I.cell y c e
  exact ⟨w', z.sameBut hs (I.cne y c e)⟩
 ·obtain ⟨e, n, ne, nf, d⟩ := I.pin p hp
  exact ⟨(hs.2 p.1 ne).trans e, n, ne, nf, d⟩
 ·rintro rfl
  rcases hc with z | z
  ·rw [<- z, I.free] at e; cases e
  ·rw [I.free] at z; cases z
end
theorem ObjOk.ex {P : Program} {w : World} {H : Hp} {h : Heap} {a : Addr} {o : HO} (x : ObjOk P w H h a o) : ∃ u, h.get? a = some u := by
 cases o with
 | lst xs => obtain ⟨_, _, _, _, e⟩ := x; exact ⟨_, e⟩
 | tup xs => obtain ⟨_, _, _, _, e, _⟩ := x; exact ⟨_, e⟩
 | dK kvs => obtain ⟨_, _, _, _, o, _, _, e, _⟩ := x; exact ⟨_, e⟩
 | dT kvs => obtain ⟨_, _, _, _, o, _, _, e, _⟩ := x; exact ⟨_, e⟩
 | set S n => obtain ⟨o, _, _, _, e, _⟩ := x; exact ⟨_, e⟩
 | ins C dx fs => obtain ⟨_, _, _, e, _⟩ := x; exact ⟨_, e⟩
 | own y => obtain ⟨_, e⟩ := x; exact ⟨_, e⟩
 | xd fs => obtain ⟨_, ⟨_, _, _, e, _⟩, _⟩ := x; exact ⟨_, e⟩
 | rng lo hi => obtain ⟨_, _, _, e⟩ := x; exact ⟨_, e⟩
 | frz ob u => obtain ⟨e, _⟩ := x; exact ⟨_, e⟩
 | tbl ps => exact ⟨_, show h.get? a = some _ from x⟩
 | met f y => exact ⟨_, show h.get? a = some _ from x⟩
 | ext φ => obtain ⟨_, ⟨_, e⟩, _⟩ := x; exact ⟨_, e⟩
structure ExN (P : Program) (w : World) (outer : List Env) (H : Hp) (s : Shared) (ea C : Addr) (H' : Hp) (s' : Shared) : Prop where
 os : s'.os = s.os
 bare : AllBare s'.gens
 un : Un (frs outer) [] H H' s.heap s'.heap
 hok : HOk P w H' s'.heap
 fly : ∃ B a0, Heap.FlyingW B outer ea (.ref C) a0 s'.heap /\ ∀ b o, s'.heap.get? b = some o -> ((∃ u, H' b = some u) \/ ∃ u, s.heap.get? b = some u) -> b ∉ frs outer -> B.get? b = some o
def CXN (P : Program) (w : World) : CXT := fun outer H s E e s' => ∃ ea C H', e = .ref ea /\ ExN P w outer H s ea C H' s' /\ E (.ref C) none H'
section
variable {P : Program} {w : World} {K : PySem.W.Frag} {mg : Str -> Option Value} {base : Heap} {N : List Str} {qual : Str} {scope : Scope} {f : Addr} {cd : Value} {A : Around} {outer : List Env} {s0 s : Shared} {H0 H : Hp} {E : XK} {pins : List (Addr × Obj)} {σ : St} {e C : Addr} {args : List Value} {h' : Heap}
theorem raised (I : Inv (cxOf (CXN P w) P w K mg base N qual scope f cd A outer s0 H0 E) pins σ H s) (hx : Heap.MadeExcOf s.heap h' e (.ref C) args) (hE : E (.ref C) none H) : (cxOf (CXN P w) P w K mg base N qual scope f cd A outer s0 H0 E).xe (.ref e) { s with heap := h' } := by
 have fr := I.stack
 have nex : ∀ {b : Addr}, b ∉ ([] : List Addr) := fun z => nomatch z
 have neL : ∀ {b o}, s0.heap.get? b = some o -> b ≠ s0.heap.objs.size := fun e => Nat.ne_of_lt (Heap.lt_size e)
 have hin : ∀ env ∈ (cxOf (CXN P w) P w K mg base N qual scope f cd A outer s0 H0 E).stack, ∀ b, env.frame = some b -> b ∈ frs (cxOf (CXN P w) P w K mg base N qual scope f cd A outer s0 H0 E).stack := fun env he b hb => List.mem_filterMap.mpr ⟨env, he, hb⟩
 refine wpAny_leaves_madeW (h := s.heap) (base := hideAll s.heap (frs (cxOf (CXN P w) P w K mg base N qual scope f cd A outer s0 H0 E).stack)) I.ok.frames rfl (fun b o q => of_hideAll _ q) (funFrames_hide fr hin) hx fun h2 t x1 x2 x3 x4 => ?_
 have sub : ∀ {b}, b ∉ frs outer -> b ≠ s0.heap.objs.size -> b ∉ frs (cxOf (CXN P w) P w K mg base N qual scope f cd A outer s0 H0 E).stack := fun h1 h2 h3 => (List.mem_cons.mp (I.stkSub _ h3)).elim h2 h1
 have keepB : ∀ {b o}, s.heap.get? b = some o -> b ∉ frs (cxOf (CXN P w) P w K mg base N qual scope f cd A outer s0 H0 E).stack -> h2.get? b = some o := fun q n => x1.1 _ _ (hideAll_get _ q n)
 have trk : ∀ {b u}, H b = some u -> b ∉ frs (cxOf (CXN P w) P w K mg base N qual scope f cd A outer s0 H0 E).stack := fun q z => by rw [I.stkFree _ z] at q; cases q
 have slt : ∀ {b o}, s.heap.get? b = some o -> b ∈ frs outer -> ∃ sl, h2.get? b = some { o with slots := sl } := fun {b o} q z => by
  obtain ⟨_, o', ho, hd⟩ := I.funs.mem z
  rw [q] at ho
  cases ho
  exact x4 b o (hx.keeps b o q) hd
 refine ⟨e, C, H, rfl, ⟨I.os, I.bare, ⟨fun b o q n nf _ => keepB (I.base.keep b o q n nf nex) (sub nf (neL q)), fun b o q n nf _ => ?_, fun b o q n _ => I.base.free b o q n nex, fun b o q _ => ?_, I.base.tups, I.base.frzs, I.base.tbls⟩, fun a o q => (I.hok a o q).stay (fun b u hb q2 => keepB q2 ?_) (fun _ z => z) fun _ _ z => z, _, _, x1, fun b o q hb nf => ?_⟩, hE⟩
 ·obtain ⟨sl, e1⟩ := I.base.slot b o q n nf nex
  obtain ⟨sl', e2⟩ := slt e1 nf
  exact ⟨sl', e2⟩
 ·obtain ⟨o', e1⟩ := I.base.there b o q nex
  by_cases z : b ∈ frs outer
  ·obtain ⟨sl', e2⟩ := slt e1 z
   exact ⟨_, e2⟩
  ·exact ⟨_, keepB e1 (sub z (neL q))⟩
 ·rcases hb with rfl | hb
  ·exact trk q
  ·exact trk hb
 ·rcases hb with ⟨u, hu⟩ | ⟨u, hu⟩
  ·obtain ⟨v, hv⟩ := (I.hok b u hu).ex
   have := keepB hv (trk hu)
   rw [this] at q
   cases q
   exact hideAll_get _ hv (trk hu)
  ·obtain ⟨o', e1⟩ := I.base.there b u hu nex
   have := keepB e1 (sub nf (neL hu))
   rw [this] at q
   cases q
   exact hideAll_get _ e1 (sub nf (neL hu))
end
abbrev Cx.sup (X : Cx) (ea : Addr) (oe : Obj) (E : Value -> Shared -> Prop) : Cx := { X with A := X.A.mark (some (.ref ea)), calm := false, xe := E, pn := (ea, oe) :: X.pn }
section
variable {X : Cx} {pins : List (Addr × Obj)} {σ : St} {H H' : Hp} {s s' : Shared} {ea C : Addr} {oe : Obj} {E : Value -> Shared -> Prop}
theorem Cx.Ok.sup (ok : X.Ok) : (X.sup ea oe E).Ok :=
 ⟨ok.mod, ok.kind, ok.glob, ok.blt, ok.above, ok.inj, ok.has, ok.cab, (fun z => by cases z), ok.frames, ok.stk, ok.exf, ok.bs, ok.bsz, ok.noex, ok.exfs, ok.funs, ok.frf⟩
theorem Inv.sup (I : Inv X pins σ H s) (h1 : s.heap.get? ea = some oe) (h2 : H ea = none) (h3 : ea ≠ X.env.locals) (h4 : ea ∉ X.fs) (h5 : ∀ v, oe.data ≠ .cell v) : Inv (X.sup ea oe E) pins σ H s :=
 ⟨I.ok.sup, I.os, I.bare, I.base, I.loc, I.cell, I.free, I.freeC, fun p hp => by
  rcases List.mem_cons.mp hp with rfl | hp
  ·exact ⟨h1, h2, h3, h4, h5⟩
  ·exact I.pin p hp, I.hok, I.len⟩
theorem Inv.unsup (I : Inv (X.sup ea oe E) pins σ H s) (ok : X.Ok) : Inv X pins σ H s := ⟨ok, I.os, I.bare, I.base, I.loc, I.cell, I.free, I.freeC, fun p hp => I.pin p (List.mem_cons_of_mem _ hp), I.hok, I.len⟩
theorem ExN.on {h' : Heap} {B : Heap} {outer : List Env} {P : Program} {w : World} (N : ExN P w outer H s ea C H' s') (hB : ∀ b o, s'.heap.get? b = some o -> ((∃ u, H' b = some u) \/ ∃ u, s.heap.get? b = some u) -> b ∉ frs outer -> B.get? b = some o) (ff : s'.heap.FunFrames B outer) (hf : ∀ b ∈ frs outer, H b = none) (st : B.StaysIn h') (sm : s'.heap.UpToSlots h') (fr : ∀ b ∈ frs outer, ∃ o, s.heap.get? b = some o) :
  Un (frs outer) [] H H' s.heap h' /\ HOk P w H' h' := by
 have nex : ∀ {b : Addr}, b ∉ ([] : List Addr) := fun z => nomatch z
 have slt : ∀ {b o}, s'.heap.get? b = some o -> b ∈ frs outer -> ∃ sl, h'.get? b = some { o with slots := sl } := fun {b o} q z => by
  obtain ⟨_, o', ho, hd⟩ := ff.mem z
  rw [q] at ho
  cases ho
  exact sm b o q hd
 have trk : ∀ {b u}, H' b = some u -> b ∉ frs outer := fun {b u} q z => by
  obtain ⟨o, ho⟩ := fr b z
  rw [N.un.free b o ho (hf b z) nex] at q
  cases q
 refine ⟨⟨fun b o q n nf _ => st _ _ (hB b o (N.un.keep b o q n nf nex) (.inr ⟨_, q⟩) nf), fun b o q n nf _ => ?_, fun b o q n _ => N.un.free b o q n nex, fun b o q _ => ?_, N.un.tups, N.un.frzs, N.un.tbls⟩, fun a o q => (N.hok a o q).stay (fun b u hb q2 => ?_) (fun _ z => z) fun _ _ z => z⟩
 ·obtain ⟨sl, e1⟩ := N.un.slot b o q n nf nex
  obtain ⟨sl', e2⟩ := slt e1 nf
  exact ⟨sl', e2⟩
 ·obtain ⟨o', e1⟩ := N.un.there b o q nex
  by_cases z : b ∈ frs outer
  ·obtain ⟨sl', e2⟩ := slt e1 z
   exact ⟨_, e2⟩
  ·exact ⟨_, st _ _ (hB b o' e1 (.inr ⟨_, q⟩) z)⟩
 ·have hu : ∃ v, H' b = some v := by
   rcases hb with rfl | hb
   ·exact ⟨_, q⟩
   ·exact ⟨_, hb⟩
  obtain ⟨v, hv⟩ := hu
  exact st _ _ (hB b u q2 (.inl ⟨v, hv⟩) (trk hv))
theorem caught {Q : Flow -> Shared -> Prop} {x n : Str} {D : Addr} {i : Nat} {b₀ : Stmt} {suite : List Stmt} {pos np : Pos} {rest : List ExceptHandler} (I : Inv X pins σ H s) (hs : X.stack = X.env :: X.outer) (hf : X.env.frame = some X.env.locals) (N : ExN X.prog X.w X.stack H s ea C H' s') (hg : Gl X x) (hm : X.mg x = some (.ref D))
  (he : exmOne X.K (.ref C) (.ref D) = some true) (hN : X.N.Nodup) (hi : X.N[i]? = some n) (hk : X.env.scope.names.lookup n = some .local)
  (k : ∀ oe s2, oe.cls = .ref C -> Inv (X.sup ea oe fun _ _ => False) pins (σ.set i (some (.ref ea))) H' s2 -> wpAny (model X.prog X.w) (X.A.mark (some (.ref ea))) (execs (b₀ :: suite) X.env) (fun f s₄ => wpAny (model X.prog X.w) X.A (do bindName X.env n .none; unbindBehindTheSuite X.env n pos) (fun _ s₅ => Q f s₅) E s₄) (fun _ _ => False) s2)
  (hd : (x == ("__debug__" : Str)) = false := by decide) :
  wpAny (model X.prog X.w) X.A (noteFrame (.ref ea) X.env) (fun _ s₂ => wpAny (model X.prog X.w) X.A (setFlight (.ref ea) none) (fun _ s₃ => wpAny (model X.prog X.w) X.A (handleBy (.ref ea) X.env (.ExceptHandler (some (.Name x np)) (some n) (b₀ :: suite) pos :: rest)) Q E s₃) E s₂) E s' := by
 obtain ⟨B, a0, fl, hB⟩ := id N.fly
 have fl' := fl
 rw [hs] at fl'
 have hA : X.A.frames = some (X.env :: X.outer) := by rw [<- hs]; exact I.ok.frames
 have frx : ∀ b ∈ frs X.stack, ∃ o, s.heap.get? b = some o := fun b hb => by
  obtain ⟨_, o, ho, _⟩ := I.stack.mem hb
  exact ⟨o, ho⟩
 refine wpAny_looks_onW hA hf fl' fun h4 held sm4 => ?_
 refine wpAny_landsW held fun h5 fl5 sm5 => ?_
 have on5 := N.on hB fl.2.2.1 I.stkFree fl5.1 (sm4.trans sm5) frx
 have I5 : Inv X pins σ H' { s' with heap := h5 } := I.call' (s' := { s' with heap := h5 }) N.os on5.1 on5.2 N.bare fun b z => nomatch z
 have sub : ∀ {b}, b = X.env.locals \/ b ∈ X.fs -> b ∈ frs (X.env :: X.outer) := fun {b} z => by
  show b ∈ (X.env :: X.outer).filterMap (·.frame)
  rw [List.filterMap_cons, hf]
  exact List.mem_cons.mpr z
 have apart : ∀ {h : Heap} {oe : Obj} {vs : Array Value}, h.FunFrames B (X.env :: X.outer) -> h.get? ea = some oe -> oe.data = .fields vs -> ∀ {b}, b = X.env.locals \/ b ∈ X.fs -> ea ≠ b := fun {h oe vs} ff e1 e2 {b} z e3 => by
  obtain ⟨_, o, ho, hd⟩ := ff.mem (sub z)
  rw [<- e3, e1] at ho
  cases ho
  exact hd _ e2
 have hea : H' ea = none := by
  cases q : H' ea with
  | none => rfl
  | some u =>
   obtain ⟨v, hv⟩ := (N.hok ea u q).ex
   obtain ⟨oe, vs, e1, _, e3, _⟩ := fl'.first
   have nf : ea ∉ frs X.stack := fun z => by
    rw [hs] at z
    obtain ⟨_, o, ho, hd⟩ := fl'.2.2.1.mem z
    rw [e1] at ho
    cases ho
    exact hd _ e3
   have := hB ea v hv (.inl ⟨u, q⟩) nf
   rw [fl.2.1] at this
   cases this
 have sup : ∀ {h : Heap} {σ : St} {t : Nat}, Heap.FlyingW B (X.env :: X.outer) ea (.ref C) a0 h -> Inv X pins σ H' { s' with heap := h, toks := t } -> ∃ oe, oe.cls = .ref C /\ h.get? ea = some oe /\ Inv (X.sup ea oe fun _ _ => False) pins σ H' { s' with heap := h, toks := t } := fun fl I => by
  obtain ⟨oe, vs, e1, e2, e3, _⟩ := fl.first
  exact ⟨oe, e2, e1, I.sup e1 hea (apart fl.2.2.1 e1 e3 (.inl rfl)) (fun z => apart fl.2.2.1 e1 e3 (.inr z) rfl) fun v q => by rw [e3] at q; cases q⟩
 obtain ⟨oe5, c5, g5, S5⟩ := sup fl5 I5
 refine wpAny_handleBy_cons (codeAny_handlers_test (ld_glob S5 hg hm ?_ hd)) (by intro q; cases q)
 refine (exm_one (M := model X.prog X.w) I5.kIn (c5 ▸ (Looks.ld g5).andThen .now) he).here (codeAny_handlers_suite_as ?_)
 refine lands_againW fl5 fun h6 fl6 sm6 => ?_
 have on6 := N.on hB fl.2.2.1 I.stkFree fl6.1 ((sm4.trans sm5).trans sm6) frx
 have I6 : Inv X pins σ H' { s' with heap := h6 } := I.call' (s' := { s' with heap := h6 }) N.os on6.1 on6.2 N.bare fun b z => nomatch z
 obtain ⟨oe, c6, g6, S6⟩ := sup fl6 I6
 refine store_ok (X := X.sup ea oe fun _ _ => False) S6 hN hi (.inl hk) (v := .ref ea) rfl (fun s7 I7 => ?_) (.inr hk)
 exact wpAny_mono (k oe s7 c6 I7) (fun _ _ z => z) fun _ _ z => z.elim
end
abbrev mroVE : List Value := [.type "ValueError", .type "Exception", .type "BaseException", .type "object"]
theorem own_at {K : PySem.W.Frag} {h : Heap} {C : Addr} {bmB : List Value} {newId : String} (X : K.In h) (q : excIn K C bmB newId = true) : ∃ bm N nm q bs hdct sn sub ab col dd k0 k1 k2 k3 k5 mN, h.get? C = some (excClassObj nm q C N bs bm hdct sn sub ab col dd k0 k1 k2 k3 k5 newId) /\ h.Ns N mN /\ mN "__init__" = none /\ OwnTail h bmB bm := by
 unfold excIn at q
 split at q
 ·rename_i dd cd sl ho
  split at q
  ·rename_i C' bm k0 k1 k2 k3 n k5 hm hs
   simp only [Bool.and_eq_true, beq_iff_eq, Bool.not_eq_true'] at q
   obtain ⟨⟨⟨⟨⟨rfl, rfl⟩, hdel⟩, ht⟩, hok⟩, hni⟩ := q
   obtain ⟨nm, bs, mro, ns, qn, hd, sn, sub, ab, col, del⟩ := cd
   dsimp only at hm hdel hok hni
   subst hm hdel
   have hsl : sl = #[k0, k1, k2, k3, some (.builtin n), k5] := by
    obtain ⟨l⟩ := sl
    simp only at hs
    rw [hs]
   subst hsl
   exact ⟨bm, ns, nm, qn, bs, hd, sn, sub, ab, col, dd, k0, k1, k2, k3, k5, _, X _ _ ho, .of_isNs (isNs_of_in X hok), nsMap_none_of_in X hok hni, tail_of_in X ht⟩
  ·cases q
 ·cases q
section
variable {X : Cx} {pins : List (Addr × Obj)} {σ : St} {H : Hp} {s : Shared}
theorem ps_raise {x : Str} {C : Addr} {e : Expr} {es : List Expr} {t : TA} {np cpos pos : Pos} {Y : Ends -> St -> Hp -> Prop} (hc : X.calm = true) (ho : excIn X.K C mroVE "ValueError.__new__" = true) (hg : Gl X x) (hm : X.mg x = some (.ref C)) (ha : PA X (e :: es) t)
  (hx : ∀ pins s σ H h' ea us, Inv X pins σ H s -> Heap.MadeExcOf s.heap h' ea (.ref C) us -> ∀ D, Y D σ H -> X.xe (.ref ea) { s with heap := h' })
  (hd : (x == ("__debug__" : Str)) = false := by decide) (he : starEach (e :: es) X.env = (false, eval e X.env) :: starEach es X.env := by rfl) (hpl : (backTo cpos (starEach es X.env)).any (·.1) = false := by rfl) :
  PS X (.Raise (some (.Call (.Name x np) (e :: es) [] cpos)) none pos) (fun D σ H => t σ H fun vs H' => vs.length <= sizeLine /\ Y D σ H') := by
 intro pins s σ H D I h
 have hh := I.ok.hd hc
 obtain ⟨bm, N, nm, q, bs, hdct, sn, sub, ab, col, dd, k0, k1, k2, k3, k5, mN, hC, hN, hni, T⟩ := own_at I.ok.mod.kin ho
 refine wpAny_Raise_call_subT (C := C) (nm := nm) (q := q) (N := N) (bs := bs) (bm := bm) (hdct := hdct) (sn := sn) (sub := sub) (ab := ab) (col := col) (dd := dd) (k0 := k0) (k1 := k1) (k2 := k2) (k3 := k3) (k5 := k5) (mN := mN) F.excBase_ValueError (T.hasType F.excBase_ValueError.hasBase) hh (by rw [he]; show (false || (backTo cpos (starEach es X.env)).any (·.1)) = false; rw [hpl]; rfl) hni (ld_glob I hg hm ⟨rfl, ?_⟩ hd)
 have ha' := ha cpos pins s σ H _ I h
 rw [he] at ha' ⊢
 refine Calls.evalArgs_plain (wpAny_mono ha' (fun us s2 ⟨vs, H2, I2, r2, z, q2⟩ => ?_) fun _ _ y => y)
 exact ⟨rfl, by rw [<- r2.length]; exact z, I2.bk _ _ hC, hN.keeps I2.bk, T.keeps I2.bk, fun h' e hm' => hx pins s2 σ H2 h' e us I2 hm' D q2⟩
theorem PA.nox {es : List Expr} {t : TA} (h : PA X.nox es t) : PA X es t := fun pos pins s σ H Q I hw =>
 wpAny_mono (h pos pins s σ H Q (I.wish _) hw) (fun _ _ ⟨v, H', I', r, q⟩ => ⟨v, H', I'.unwish, r, q⟩) fun _ _ z => False.elim z
theorem PS.nox {st : Stmt} {t : TS} (h : PS X.nox st t) : PS X st t := fun pins s σ H D I hw =>
 wpAny_mono (h pins s σ H D (I.wish _) hw) (fun _ _ q => q.unwish) fun _ _ z => False.elim z
theorem call_isiE {ea C D : Addr} {oe : Obj} {b : Bool} (hp : (ea, oe) ∈ X.pn) (hc : oe.cls = .ref C) (kC : ExK X.K C) (he : kitOne X.K (.ref C) (.ref D) = some b) : CallR X (.builtin "isinstance") (fun xs H Q => xs = [.ref ea, .ref D] /\ Q (.bl b) H) := by
 intro pins s σ H xs us Q I r h
 obtain ⟨rfl, q⟩ := h
 obtain ⟨u1, u2, rfl, r1, r2⟩ := vals2 r
 cases r1
 cases r2
 obtain ⟨g, _⟩ := I.pin (ea, oe) (List.mem_append_left _ hp)
 exact isi_exc kC I.kIn ⟨oe, g, hc⟩ he fun tk => ⟨.bl b, H, I.tok tk, rfl, q⟩
inductive IsTests (X : Cx) (C : Addr) (n : Str) : List Expr -> List Bool -> Prop
 | nil : IsTests X C n [] []
 | cons {x : Str} {D : Addr} {b : Bool} {p1 p2 p3 pos : Pos} {es : List Expr} {bs : List Bool} (hg : Gl X x) (hm : X.mg x = some (.ref D)) (he : kitOne X.K (.ref C) (.ref D) = some b) (hd : (x == ("__debug__" : Str)) = false) (hs : starEach (.Call (.Name "isinstance" p1) [.Name n p2, .Name x p3] [] pos :: es) X.env = (false, eval (.Call (.Name "isinstance" p1) [.Name n p2, .Name x p3] [] pos) X.env) :: starEach es X.env)
   (ht : starEach [.Name n p2, .Name x p3] X.env = (false, eval (.Name n p2) X.env) :: starEach [.Name x p3] X.env) (hu : starEach [.Name x p3] X.env = (false, eval (.Name x p3) X.env) :: starEach [] X.env) (hv : (backTo pos (starEach [.Name x p3] X.env)).any (·.1) = false) (r : IsTests X C n es bs) : IsTests X C n (.Call (.Name "isinstance" p1) [.Name n p2, .Name x p3] [] pos :: es) (b :: bs)
theorem pa_tests {ea C : Addr} {oe : Obj} {n : Str} {i : Nat} (hp : (ea, oe) ∈ X.pn) (hc : oe.cls = .ref C) (kC : ExK X.K C) (hi : X.N[i]? = some n) (hv : Vis X.env.scope n) (hg : Gl X "isinstance") (hm : X.mg "isinstance" = none) (h1 : (n == ("__debug__" : Str)) = false) (h2 : (n == ("__classdict__" : Str)) = false) :
  ∀ {es : List Expr} {bs : List Bool}, IsTests X C n es bs -> PA X es (fun σ H Q => σ[i]? = some (some (.ref ea)) /\ Q (bs.map V.bl) H)
 | _, _, .nil => fun pos pins s σ H Q I h => pa_nil pos pins s σ H Q I h.2
 | _, _, .cons gx mx e d hs ht hu hv' r => fun pos pins s σ H Q I h => by
  refine pa_cons (te := fun σ H Q => σ[i]? = some (some (.ref ea)) /\ Q (.bl _) H) ?_ (pa_tests hp hc kC hi hv hg hm h1 h2 r) hs pos pins s σ H Q I ⟨h.1, h.1, h.2⟩
  intro pins s σ H Q I h
  exact pe_callB (call_isiE hp hc kC e) hg hm boot_isinstance (pa_cons (pe_var hi hv h1 h2) (pa_cons (pe_glob gx mx (v := .ref _) rfl d) pa_nil hu) ht) (by decide) (by decide) ht hv' pins s σ H Q I ⟨_, h.1, rfl, h.2⟩
end
end L2
namespace Fd
open PySem L2
abbrev FnX := List D -> (D -> Prop) -> (Str -> Prop) -> Prop
def upX (F : FnX) : FnX := fun ds Q Y => ∃ (P : D -> Prop) (Z : Str -> Prop), F ds P Z /\ (∀ d, P d -> Q d) /\ ∀ n, Z n -> Y n
theorem upX_mono (F : FnX) {ds : List D} {Q Q' : D -> Prop} {Y Y' : Str -> Prop} (k : ∀ d, Q d -> Q' d) (l : ∀ n, Y n -> Y' n) : upX F ds Q Y -> upX F ds Q' Y' := fun ⟨P, Z, h1, h2, h3⟩ => ⟨P, Z, h1, fun d z => k d (h2 d z), fun n z => l n (h3 n z)⟩
def spDX (K : PySem.W.Frag) (mg : Str -> Option Value) (n : Nat) (F : FnX) : Sp := fun vs H Q E => ∃ β G ds, Same G H /\ BoxD β H G /\ Reps ⟨K, β, fun _ => none, G⟩ G ds vs /\ vs.length = n /\ upX F ds (fun d => ∀ v H' G', Stp β H G H' G' -> Rep ⟨K, β, H, G⟩ G' d v -> Q v H') fun nm => ∀ C H' G', mg nm = some (.ref C) -> Stp β H G H' G' -> E (.ref C) none H'
def fnWX (n : Nat) (B : (Str -> Prop) -> WS) : FnX := fun ds Q Y => B Y { nx := fun _ => Q .non, rt := Q, bk := fun _ => False, ct := fun _ => False } (startE n ds)
theorem fn_okX {P : Program} {w : World} {K : PySem.W.Frag} {mg : Str -> Option Value} {base : Heap} {x qual : Str} {st : Stmt} {f : Addr} {fd : FuncData} {N ps : List Str} {k : Nat} {B : (Str -> Prop) -> WS} (F : Fun K x qual st f fd)
  (hB : ∀ {cdv : Value} {A : Around} {outer : List PySem.Env} {s : Shared} {H : Hp} {E : XK} {β : Addr} {G : Hp} (Y : Str -> Prop), (∀ nm C H' G', Y nm -> mg nm = some (.ref C) -> Stp β H G H' G' -> E (.ref C) none H') -> N.Nodup -> Room k (A.deeper (PyProof.Rows.envOfC qual (defScope st) s.heap.objs.size f cdv)) ->
   DSs (cxOf (CXN P w) P w K mg base N qual (defScope st) f cdv A outer s H E) ⟨K, β, H, G⟩ (defBody st) (B Y)) (S : FnScope N ps (defScope st) := by exact ⟨rfl, rfl, rfl, by decide +kernel, rfl, by decide +kernel, by decide +kernel⟩) : FnOk P w K mg base (CXN P w) (k + 1) f fd ps (spDX K mg ps.length (fnWX N.length B)) := by
 obtain ⟨oc, od, kV, doc, pm, an, cdv, ct, osl, rfl, lk, hcd⟩ := F.ex
 refine fn_of lk hcd S (fun vs H Q E ⟨β, G, ds, _, _, _, h, _⟩ => h) fun A outer s H vs Q E hr ⟨β, G, ds, gh, bx, hv, hl, P', Z, q, hP, hZ⟩ => ?_
 have h := @hB cdv A outer s H E β G Z (fun nm C H' G' z hm t => hZ nm z C H' G' hm t) S.nd hr
 refine ⟨_, h.pss, startE N.length ds, G, startE_rel gh bx hv, h.mono { nx := fun _ => P' .non, rt := P', bk := fun _ => False, ct := fun _ => False } _ _ ⟨fun ρ z σ H' G' r s' => hP _ z .non H' G' r.stp rfl, fun d z v H' G' t e => hP _ z v H' G' t e, fun ρ z => z.elim, fun ρ z => z.elim⟩ q⟩
structure CalX (P : Program) (w : World) (K : PySem.W.Frag) (mg : Str -> Option Value) (base : Heap) (x : Str) (k : Nat) (ps : List Str) (sp : Sp) : Prop where
 ex : ∃ f fd, FnOk P w K mg base (CXN P w) k f fd ps sp /\ mg x = some (.ref f) /\ PySem.W.keepIn K (.ref f) = true /\ Binds K fd ps []
theorem CalX.of {P : Program} {w : World} {K : PySem.W.Frag} {mg : Str -> Option Value} {base : Heap} {x qual : Str} {k : Nat} {ps : List Str} {sp : Sp} {st : Stmt} {f : Addr} {fd : FuncData} (F : Fun K x qual st f fd) (G : FnOk P w K mg base (CXN P w) k f fd ps sp) (hm : mg x = some (.ref f)) (hb : Binds K fd ps []) : CalX P w K mg base x k ps sp :=
 ⟨f, fd, G, hm, F.kp, hb⟩
section
variable {X : Cx} {c : Bk} {st : Stmt} {e : Expr} {es : List Expr} {pos cpos p np : Pos}
theorem DS.nox {W : WS} (h : DS X.nox c st W) : DS X c st W := ⟨h.mono, h.ps.nox⟩
theorem DT.nox {W : WT} (h : DT X.nox c e W) : DT X c e W := ⟨h.mono, h.pt.nox⟩
@[reducible] def rzW (R : WL) (y : Prop) : WS := fun _ ρ => R ρ fun ds => ds.length <= 1000 /\ y
theorem s_raise {x : Str} {C : Addr} {R : WL} {y : Prop} (hR : DA X.nox c (e :: es) R) (hx : ∀ pins s σ H G h' ea us, Inv X pins σ H s -> Stp c.β c.H0 c.G0 H G -> Heap.MadeExcOf s.heap h' ea (.ref C) us -> y -> X.xe (.ref ea) { s with heap := h' }) (ho : PySem.W.excIn X.K C mroVE "ValueError.__new__" = true) (hm : X.mg x = some (.ref C)) (hc : X.calm = true := by rfl) (hg : Gl X x := by rfl)
  (hd : (x == ("__debug__" : Str)) = false := by decide) (he : starEach (e :: es) X.env = (false, eval e X.env) :: starEach es X.env := by rfl) (hpl : (backTo cpos (starEach es X.env)).any (·.1) = false := by rfl) : DS X c (.Raise (some (.Call (.Name x np) (e :: es) [] cpos)) none pos) (rzW R y) where
 mono := fun E E' ρ l q => q
 ps := ps_imp (ps_raise (Y := fun _ σ H => y /\ ∃ G, Stp c.β c.H0 c.G0 H G) hc ho hg hm (PA.nox hR.pa) (fun pins s σ H h' ea us I m _ ⟨z, G, t⟩ => hx pins s σ H G h' ea us I t m z) hd he hpl) fun D σ H ⟨ρ, G, r, q⟩ => ⟨ρ, G, r, hR.mono ρ _ _ (fun ds z vs H' G' t v => ⟨by rw [<- v.length, sizeLine_eq]; have := z.1; omega, z.2, G', r.stp.trans t⟩) q⟩
theorem Rel.unput {ρ : Env} {σ : St} {H G : Hp} {i : Nat} {o : Option V} (r : Rel c ρ σ H G) : Rel c (ρ.set i .un) (σ.set i o) H G := by
 refine ⟨by simp [r.len], r.stp, fun j s e => ?_, fun j k a xs ys e1 e2 e3 e4 => ?_⟩
 ·by_cases z : i = j
  ·subst z
   have hi : i < ρ.length := by have := (List.getElem?_eq_some_iff.mp e).1; simpa using this
   rw [List.getElem?_set_self hi] at e
   cases e
   trivial
  ·rw [List.getElem?_set_ne z] at e ⊢
   exact r.slot j s e
 ·have nn : ∀ {j : Nat} {xs}, (ρ.set i .un)[j]? = some (.own xs) -> i ≠ j := fun e z => by
   subst z
   have hi : i < ρ.length := by have := (List.getElem?_eq_some_iff.mp e).1; simpa using this
   rw [List.getElem?_set_self hi] at e; cases e
  have nj := nn e1
  have nk := nn e2
  rw [List.getElem?_set_ne nj] at e1 e3
  rw [List.getElem?_set_ne nk] at e2 e4
  exact r.dis j k a xs ys e1 e2 e3 e4
end
section
variable {X : Cx} {c : Bk}
theorem reps_bl {G : Hp} : ∀ bs : List Bool, Reps c G (bs.map D.bl) (bs.map V.bl)
 | [] => rfl
 | b :: bs => ⟨.bl b, _, rfl, rfl, reps_bl bs⟩
@[reducible] def tryW (i ie ib m : Nat) (F : FnX) (R : WL) (kd : Str -> Option (List Bool)) : WS := fun E ρ => R ρ fun ds => ds.length = m /\ upX F ds (fun d => E.nx (ρ.set i (.val d))) fun nm => ∃ bs, kd nm = some bs /\ E.nx ((ρ.set ie .un).set ib (.val (.lst true (bs.map D.bl))))
theorem s_try (i ie ib : Nat) {m k : Nat} {F : FnX} {R : WL} (kd : Str -> Option (List Bool)) {fx x n y xc : Str} {ps : List Str} {Dc : Addr} {e : Expr} {es tests : List Expr} {p p1 p2 np cpos apos lpos bpos hpos pos : Pos} (C : CalX X.prog X.w X.K X.mg X.base fx k ps (spDX X.K X.mg m F)) (hR : DA X.nox c (e :: es) R) (hmD : X.mg xc = some (.ref Dc))
  (hkd : ∀ nm bs C, kd nm = some bs -> X.mg nm = some (.ref C) -> PySem.W.exmOne X.K (.ref C) (.ref Dc) = some true /\ ExK X.K C /\ ∀ ea oe, IsTests (X.sup ea oe fun _ _ => False) C n tests bs /\ bs.length <= 1000) (hmi : X.mg "isinstance" = none)
  (hi : X.N[i]? = some x := by rfl) (hie : X.N[ie]? = some n := by rfl) (hib : X.N[ib]? = some y := by rfl) (hx : X.env.scope.names.lookup x = some .local := by rfl) (hn : X.env.scope.names.lookup n = some .local := by rfl) (hy : X.env.scope.names.lookup y = some .local := by rfl) (hne : ie ≠ ib := by decide) (hN : X.N.Nodup := by decreasing_trivial) (hr : Room k X.A := by decreasing_trivial)
  (hst : X.stack = X.env :: X.outer := by rfl) (hfr : X.env.frame = some X.env.locals := by rfl) (hK : c.K = X.K := by rfl) (hg : Gl X fx := by rfl) (hgc : Gl X xc := by rfl) (hgi : Gl X "isinstance" := by rfl) (hdb : (fx == ("__debug__" : Str)) = false := by decide) (hdc : (xc == ("__debug__" : Str)) = false := by decide) (hdn : (n == ("__debug__" : Str)) = false := by decide) (hdk : (n == ("__classdict__" : Str)) = false := by decide)
  (hs1 : swapsWith (.Call (.Name fx p) (e :: es) [] cpos) (some (.Name x p1)) apos.line X.env = pure false := by rfl) (hs2 : swapsWith (.List tests lpos) (some (.Name y p2)) bpos.line X.env = pure false := by rfl)
  (he : starEach (e :: es) X.env = (false, eval e X.env) :: starEach es X.env := by rfl) (hpl : (backTo cpos (starEach es X.env)).any (·.1) = false := by rfl) :
  DS X c (.Try [.Assign [.Name x p1] (.Call (.Name fx p) (e :: es) [] cpos) apos] [.ExceptHandler (some (.Name xc np)) (some n) [.Assign [.Name y p2] (.List tests lpos) bpos] hpos] [] [] pos) (tryW i ie ib m F R kd) where
 mono := fun E E' ρ l q => hR.mono ρ _ _ (fun ds z => ⟨z.1, upX_mono F (fun d w => l.nx _ w) (fun nm ⟨bs, h1, h2⟩ => ⟨bs, h1, l.nx _ h2⟩) z.2⟩) q
 ps := by
  intro pins s σ H Ds I ⟨ρ, G, r, q⟩
  obtain ⟨f, fd, FO, hm, hk, hb⟩ := C.ex
  refine wpAny_Try_except (wpAny_execs_cons (wpAny_Assign_Name (wpAny_Call_Name_kw (ld_glob I hg hm ?_ hdb)) hs1))
  refine PySem.W.callWith_K (h₀ := X.base) I.ok.mod.kin hk (wpAny_mono (hR.pa cpos pins s σ H (fun vs H1 => ∃ ds G1, Stp c.β H G H1 G1 /\ Reps c G1 ds vs /\ ds.length = m /\ upX F ds (fun d => (ends c G Ds).nx (ρ.set i (.val d))) fun nm => ∃ bs, kd nm = some bs /\ (ends c G Ds).nx ((ρ.set ie .un).set ib (.val (.lst true (bs.map D.bl))))) (I.wish _) ⟨ρ, G, r, hR.mono ρ _ _ (fun ds z vs H1 G1 t rv => ⟨ds, G1, t, rv, z⟩) q⟩) (fun us s1 ⟨vs, H1, I1, rv, ds, G1, t, rp, hlen, z⟩ => ⟨I1.kIn, ?_⟩) fun _ _ z => z.elim) he hpl
  have I1 := I1.unwish
  have sp : spDX X.K X.mg m F vs H1 (fun v H2 => ∃ d G2, Stp c.β H G H2 G2 /\ Rep c G2 d v /\ (ends c G Ds).nx (ρ.set i (.val d))) (fun cls _ H2 => ∃ nm Cc G2 bs, cls = .ref Cc /\ X.mg nm = some (.ref Cc) /\ Stp c.β H G H2 G2 /\ kd nm = some bs /\ (ends c G Ds).nx ((ρ.set ie .un).set ib (.val (.lst true (bs.map D.bl))))) :=
   ⟨c.β, G1, ds, t.gh, t.bx, Reps.back (c' := c) (c := ⟨X.K, c.β, fun _ => none, G1⟩) hK rfl (fun _ _ => rfl) rp, by rw [<- rp.length]; exact hlen, upX_mono F (fun d z v H2 G2 t2 e2 => ⟨d, G2, t.trans t2, Rep.back (c' := ⟨X.K, c.β, H1, G1⟩) (c := c) hK.symm rfl (fun a h => r.new0 (t.free h)) e2, z⟩) (fun nm ⟨bs, h1, h2⟩ Cc H2 G2 hm t2 => ⟨nm, Cc, G2, bs, rfl, hm, t.trans t2, h1, h2⟩) z⟩
  have hl : (us ++ []).length = ps.length := by rw [List.append_nil, <- rv.length]; exact FO.len _ _ _ _ sp
  refine wpAny_call (codeAny_mono (FO.run X.A X.stack s1 H1 ⟨us, []⟩ us vs _ _ hr I1.env0 (by have := hb s1 us I1.kIn hl; rwa [List.append_nil] at this) rv sp) fun rs s' hq => ?_)
  cases rs with
  | ok fl =>
   cases fl with
   | ret u =>
    obtain ⟨v, H2, I2, rv2, d, G2, t2, rp2, nx⟩ := I1.after hq
    exact store_ok I2 hN hi (.inl hx) rv2 (fun s3 I3 => wpAny_execs_nil (wpAny_execs_nil ⟨_, H2, I3, nx _ _ G2 ((r.step t2).put rp2) t2.gg⟩)) (.inr hx)
   | next => exact False.elim hq
   | brk => exact False.elim hq
   | cont => exact False.elim hq
  | error er =>
   obtain ⟨ea, Cc, H2, rfl, N, nm, Cc', G2, bs, e1, hmn, t2, kn, nx⟩ := hq
   cases e1
   obtain ⟨hx1, kC, tst⟩ := hkd nm bs Cc kn hmn
   refine caught I1 hst hfr N hgc hmD hx1 hN hie hn (fun oe s2 hoc I2 => ?_) hdc
   obtain ⟨ts, hbs⟩ := tst ea oe
   have hσ : ie < σ.length := by rw [I.len]; exact (List.getElem?_eq_some_iff.mp hie).1
   have run := pss_one (ps_set (X := X.sup ea oe fun _ _ => False) hN hib (.inl hy) (pe_lst (pa_tests (X := X.sup ea oe fun _ _ => False) (ea := ea) (i := ie) List.mem_cons_self hoc kC hie (.inl hn) hgi hmi hdn hdk ts)) hs2 (.inr hy)) pins s2 _ H2 { nx := fun σ2 H3 => ∃ l, H2 l = none /\ σ2 = (σ.set ie (some (.ref ea))).set ib (some (.ref l)) /\ H3 = upd H2 l (.lst (bs.map V.bl)), rt := fun _ _ => False } I2 ⟨List.getElem?_set_self hσ, by rw [List.length_map, sizeLine_eq]; omega, fun l hl => ⟨l, hl, rfl, rfl⟩⟩
   refine wpAny_mono run (fun f s4 w => ?_) fun _ _ w => w
   cases f with
   | next =>
    obtain ⟨σ2, H3, I4, l, hl, rfl, rfl⟩ := w
    refine goes_ok (I4.unsup I.ok) hN hie hn fun s5 I5 => ⟨_, _, I5, ?_⟩
    rw [List.set_comm _ _ hne.symm, List.set_set]
    have gl := none_of_same t2.gh hl
    have st := Stp.new (o := .lst (bs.map V.bl)) t2.gh t2.bx hl
    refine nx _ _ _ ((((r.step t2).step st).unput).put ⟨l, _, rfl, upd_same, fun _ => r.new0 (t2.free hl), reps_bl bs⟩) (t2.gg.trans st.gg)
   | ret v => obtain ⟨_, _, _, _, _, z⟩ := w; exact z.elim
   | brk => obtain ⟨_, _, _, z⟩ := w; exact z.elim
   | cont => obtain ⟨_, _, _, z⟩ := w; exact z.elim
end
def shV (kvs : List (Str × Str)) (z : Str) : Option Str := kvs.foldl (fun a kv => if z = kv.1 then some kv.2 else a) none
abbrev kvO (kvs : List (Str × Str)) : List (Key × V) := kvs.map fun kv => (.inr kv.1, .str kv.2)
theorem valV_merge : ∀ (more : List (Str × Str)) {acc : List (Key × V)} {o : Option Str} {z : Str}, valV acc (.inr z) = o.map V.str -> valV (mergeK acc (kvO more)) (.inr z) = (more.foldl (fun a kv => if z = kv.1 then some kv.2 else a) o).map V.str
 | [], acc, o, z, h => h
 | kv :: more, acc, o, z, h => by
  refine valV_merge more (acc := putK acc (.inr kv.1) (.str kv.2)) ?_
  rw [valV_put]
  show _ = Option.map V.str (if z = kv.1 then some kv.2 else o)
  by_cases e : z = kv.1
  ·rw [if_pos (by rw [e]), if_pos e]; rfl
  ·rw [if_neg (fun q => e (Sum.inr.inj q)), if_neg e]; exact h
theorem pairs_str {σ : St} : ∀ (kvs : List (Str × Str)) {H : Hp} {Q : List (V × V) -> Hp -> Prop}, Q (kvs.map fun kv => (V.str kv.1, V.str kv.2)) H -> tPairs (kvs.map fun kv => (tC (.str kv.1), tC (.str kv.2))) σ H Q
 | [], _, _, h => h
 | _ :: kvs, H, Q, h => pairs_str kvs (Q := fun ps H3 => Q (_ :: ps) H3) h
section
variable {X : Cx} {c : Bk}
@[reducible] def shW (i j : Nat) (kvs : List (Str × Str)) (df : Str) (A : WE) (B : WS) : WS := fun E ρ => i < ρ.length /\ A (ρ.set i .un) fun d => strD d fun z => B E ((ρ.set i .un).set j (.val (.str ((shV kvs z).getD df))))
theorem s_shape (i j : Nat) (kvs : List (Str × Str)) {k8 v8 k9 v9 df x y : Str} {keys : List (Option Expr)} {rest : List Stmt} {vals : List Expr} {ae : Expr} {A : WE} {B : WS} {pos p1 p2 p3 p4 p5 q1 q2 q3 q4 r8 r9 s8 s9 t8 t9 rd apos cpos : Pos} {n8 m8 n9 m9 nd : Nat} (hp : PPs X pos keys vals (kvs.map fun kv => (tC (.str kv.1), tC (.str kv.2)))) (hA : DE X c ae A) (hB : DSs X c rest B)
  (hl : kvs.length <= 15 := by decide) (ha : keys.all (·.isSome) = true := by rfl) (hkl : keys.length = vals.length := by rfl) (h0 : keys ≠ [] := by decide) (h15 : keys.length <= 15 := by decide) (hi : X.N[i]? = some x := by rfl) (hj : X.N[j]? = some y := by rfl) (hx : X.env.scope.names.lookup x = some .local := by rfl) (hy : Loc X.env.scope y := by first | exact Or.inl rfl | exact Or.inr rfl) (hfy : X.fn y = true \/ X.env.scope.names.lookup y = some .local := by first | exact .inl rfl | exact .inr rfl | assumption) (hN : X.N.Nodup := by decreasing_trivial) (hu : X.A.units + 64 < cLine := by decreasing_trivial)
  (hdx : (x == ("__debug__" : Str)) = false := by decide) (hcx : (x == ("__classdict__" : Str)) = false := by decide)
  (hs1 : swapsWith (.Dict keys vals pos) (some (.Name x p1)) q1.line X.env = pure false := by rfl) (hs2 : swapsWith (.Constant (.str v8) m8 t8) (some (.Subscript (.Name x p2) (.Constant (.str k8) n8 r8) s8)) q2.line X.env = pure false := by rfl) (hs3 : swapsWith (.Constant (.str v9) m9 t9) (some (.Subscript (.Name x p3) (.Constant (.str k9) n9 r9) s9)) q3.line X.env = pure false := by rfl)
  (hs4 : swapsWith (.Call (.Attribute (.Name x p5) "get" apos) [ae, .Constant (.str df) nd rd] [] cpos) (some (.Name y p4)) q4.line X.env = pure false := by rfl) (hm : M2 X (.Name x p5) "get" apos ae (.Constant (.str df) nd rd) cpos := by exact ⟨rfl, rfl, rfl, rfl⟩) :
  DSs X c (.Assign [.Name x p1] (.Dict keys vals pos) q1 :: .Assign [.Subscript (.Name x p2) (.Constant (.str k8) n8 r8) s8] (.Constant (.str v8) m8 t8) q2 :: .Assign [.Subscript (.Name x p3) (.Constant (.str k9) n9 r9) s9] (.Constant (.str v9) m9 t9) q3 :: .Assign [.Name y p4] (.Call (.Attribute (.Name x p5) "get" apos) [ae, .Constant (.str df) nd rd] [] cpos) q4 :: rest)
   (shW i j (kvs ++ [(k8, v8), (k9, v9)]) df A B) where
 mono := fun E E' ρ l q => ⟨q.1, hA.mono _ _ _ (fun d z => strD_mono (fun _ w => hB.mono _ _ _ l w) z) q.2⟩
 pss := by
  have hu : X.A.units + 1 < cLine := by omega
  have pvx : ∀ {p : Pos}, PE X (.Name x p) (tVar i) := fun {p} => pe_var hi (.inl hx) hdx hcx
  refine pss_imp (pss_cons (ps_set hN hi (.inl hx) (pe_disp hp ha hkl h0 h15) hs1 (.inr hx)) (pss_cons (ps_dput hu pvx pe_str pe_str hs2) (pss_cons (ps_dput hu pvx pe_str pe_str hs3) (pss_cons (ps_set hN hj hy (pe_dget2 hu pvx hA.pe pe_str hm) hs4 hfy) hB.pss)))) fun D σ H ⟨ρ, G, r, hlt, q⟩ => ?_
  intro p hp0
  have at_ : (σ.set i (some (.ref p)))[i]? = some (some (.ref p)) := List.getElem?_set_self (by rw [<- r.len]; exact hlt)
  have lk := length_mergeK (kvO kvs) []
  have lk2 := length_putK (mergeK [] (kvO kvs)) (.inr k8) (.str v8)
  rw [List.length_nil, List.length_map] at lk
  refine pairs_str kvs ⟨upd_same, kvO kvs, by rw [List.map_map]; rfl, by rw [List.length_map]; exact hl, ?_⟩
  refine ⟨.ref p, at_, p, _, rfl, DPut.k (k := .inr k8) upd_same (by rw [sizeLine_eq]; omega), ?_⟩
  refine ⟨.ref p, at_, p, _, rfl, DPut.k (k := .inr k9) upd_same (by rw [sizeLine_eq]; omega), ?_⟩
  rw [upd_upd, upd_upd, upd_upd]
  have st := Stp.own (o := .dK (putK (putK (mergeK [] (kvO kvs)) (.inr k8) (.str v8)) (.inr k9) (.str v9))) r.gh r.bx hp0
  refine ⟨.ref p, at_, p, rfl, .inl ⟨_, .inl upd_same⟩, ρ.set i .un, G, (r.step st).unput, hA.mono _ _ _ (fun d z v H' G' t e => ?_) q⟩
  unfold strD at z
  split at z
  ·rename_i zz
   cases (show v = V.str zz from e)
   have hpb : p ≠ c.β := r.neβ hp0
   have hH := t.fr p _ hpb upd_same
   refine ⟨_, DGet.k (k := .inr zz) hH, (ρ.set i .un).set j (.val (.str ((shV (kvs ++ [(k8, v8), (k9, v9)]) zz).getD df))), G', ?_, hB.mono _ _ _ (ends_le t.gg) z⟩
   have ev : valV (putK (putK (mergeK [] (kvO kvs)) (.inr k8) (.str v8)) (.inr k9) (.str v9)) (.inr zz) = (shV (kvs ++ [(k8, v8), (k9, v9)]) zz).map V.str := by
    refine Eq.trans ?_ (valV_merge (kvs ++ [(k8, v8), (k9, v9)]) (acc := []) (o := none) (z := zz) rfl)
    show _ = valV (mergeK [] ((kvs ++ [(k8, v8), (k9, v9)]).map _)) _
    rw [List.map_append]
    unfold mergeK
    rw [List.foldl_append]
    rfl
   rw [ev]
   have e2 : ((shV (kvs ++ [(k8, v8), (k9, v9)]) zz).map V.str).getD (.str df) = V.str ((shV (kvs ++ [(k8, v8), (k9, v9)]) zz).getD df) := by cases shV (kvs ++ [(k8, v8), (k9, v9)]) zz <;> rfl
   rw [e2]
   exact ((r.step st).unput.step t).put rfl
  ·exact z.elim
end
end Fd
namespace L2
open PySem PySem.Spec PyProof.Rows
section
variable {X : Cx}
def rMulS : R2 := fun x y H Q => ∃ (z : Str) (k : Int), x = .str z /\ y = .int k /\ 2 <= k /\ k <= 100 /\ z.length <= 1000 /\ ∀ u : Str, u.length <= k.toNat * z.length -> (∀ ch ∈ u.cps.toList, ch ∈ z.cps.toList) -> Q (.str u) H
theorem fold_rep (its : Array Nat) : ∀ (k : Nat) (acc : Array Nat), (List.foldl (fun x1 x2 => x1 ++ x2) acc (List.replicate k its)).size = acc.size + k * its.size /\ ∀ ch ∈ (List.foldl (fun x1 x2 => x1 ++ x2) acc (List.replicate k its)).toList, ch ∈ acc.toList \/ ch ∈ its.toList
 | 0, acc => ⟨by simp, fun ch h => .inl h⟩
 | k + 1, acc => by
  rw [List.replicate_succ, List.foldl_cons]
  obtain ⟨h1, h2⟩ := fold_rep its k (acc ++ its)
  refine ⟨by rw [h1, Array.size_append, Nat.succ_mul]; omega, fun ch hc => ?_⟩
  rcases h2 ch hc with z | z
  ·rw [Array.toList_append] at z
   exact List.mem_append.mp z
  ·exact .inr z
theorem op_mulS : OpR X (binaryOp .Mult) rMulS := by
 intro pins s σ H x y v u Q I rx ry h
 obtain ⟨z, k, rfl, rfl, h2, h3, hz, q⟩ := h
 obtain ⟨t, rfl⟩ := rx
 obtain ⟨t', rfl⟩ := ry
 have hkl : z.length * k.toNat <= 100000 := Nat.mul_le_mul hz (show k.toNat <= 100 by omega)
 obtain ⟨f1, f2⟩ := fold_rep z.cps k.toNat #[]
 refine PySem.P.mul_str (by rw [decide_eq_false (by omega), decide_eq_false (by omega)]; rfl) (fun _ _ => ?_) (fun _ _ => ?_) ?_
 ·have : (1000 : Int) <= (2 ^ 63 - 1) / k := Int.le_ediv_of_mul_le (by omega) (by omega)
  omega
 ·exact decide_eq_false (by rw [sizeLine_eq]; omega)
 ·rw [if_neg (by omega)]
  split
  ·exact ⟨.str z, H, I, ⟨t, rfl⟩, q z (Nat.le_mul_of_pos_left _ (show 0 < k.toNat by omega)) fun _ h => h⟩
  ·have hl : (⟨(List.replicate k.toNat z.cps).foldl (· ++ ·) #[]⟩ : Str).length = k.toNat * z.length := by
    show Array.size _ = _
    rw [f1]; simp; rfl
   refine ⟨by rw [hl, Nat.mul_comm, sizeLine_eq]; omega, .str _, H, I.tok _, ⟨_, rfl⟩, q _ (Nat.le_of_eq hl) fun ch hc => (f2 ch hc).elim (fun z => by simp at z) id⟩
end
end L2
namespace Fd
open PySem L2
section
variable {X : Cx} {c : Bk}
def mulXD : F2 := fun x y Q => match x, y with
 | .str z, .int k => (2 <= k /\ k <= 100 /\ z.length <= 1000) /\ ∀ u : Str, u.length <= k.toNat * z.length -> (∀ ch ∈ u.cps.toList, ch ∈ z.cps.toList) -> Q (.str u)
 | x, y => mulD x y Q
theorem m_mulX : F2Mono mulXD := fun x y Q Q' k q => by
 unfold mulXD at q ⊢
 split at q
 ·exact ⟨q.1, fun u h1 h2 => k _ (q.2 u h1 h2)⟩
 ·exact m_mul _ _ _ _ k q
theorem od_mulX : OpD c mulXD (fun x y H Q => rMul2 x y H Q \/ rMulS x y H Q) := fun H G x y u v Q gh bx h0 rx ry q => by
 unfold mulXD at q
 split at q
 ·cases rx; cases ry
  exact .inr ⟨_, _, rfl, rfl, q.1.1, q.1.2.1, q.1.2.2, fun u h1 h2 => q.2 u h1 h2 _ H G (Stp.refl gh bx) rfl⟩
 ·exact .inl (od_mul H G _ _ u v Q gh bx h0 rx ry q)
theorem d_mulX {a b : Expr} {A B : WE} {pos : Pos} (hA : DE X c a A) (hB : DE X c b B) : DE X c (.BinOp a .Mult b pos) (binW mulXD A B) := d_bin m_mulX ((op_mul.or op_rep).or op_mulS) od_mulX hA hB
end
def kv_FORMS : List (Str × D) := [("mark", .tup [.str "name"]), ("hand", .tup [.str "name"]), ("run", .tup [.str "name", .str "name", .str "rise", .str "name"]), ("strike", .tup [.str "number"]), ("mend", .tup [.str "number", .str "rise"]), ("settle", .tup [.str "name"]), ("aside", .tup [.str "name"]), ("heed", .tup [.str "name"]), ("allow", .tup [.str "number"])]
def w_is_made_of : Fn := fnW 3 ((retW (andW (chainW leD leD (kW (.int 1)) (cbW lenXF (consA (vW 0) nilA)) (vW 2)) (cbW allF (consA (valW (lcompW [none, some 1] (seqXI (vW 0)) (.nm 0) noIf (binW (inXD false) (vW 0) (vW 1)))) nilA)))))
def w_is_name : Fn := fnW 1 ((retW (callW 3 w_is_made_of (consA (vW 0) (consA (kW (.str "abcdefghijklmnopqrstuvwxyz")) (consA (kW (.int 8)) nilA))))))
def w_is_number : Fn := fnW 1 ((retW (andW (callW 3 w_is_made_of (consA (vW 0) (consA (kW (.str "0123456789")) (consA (kW (.int 10)) nilA)))) (orW (binW eqD (vW 0) (kW (.str "0"))) (notW (smW swF (vW 0) (kW (.str "0"))))))))
def w_is_rise : Fn := fnW 1 ((seqW (ifS (truW (smW swF (vW 0) (kW (.str "-")))) (retW (andW (binW neD (vW 0) (kW (.str "-0"))) (callW 1 w_is_number (consA (slXW (vW 0) (someO (kW (.int 1))) noO) nilA)))) nilS)
  (retW (callW 1 w_is_number (consA (vW 0) nilA)))))
def w_is_written_as : Fn := fnW 2 ((seqW (ifS (blW (binW eqD (vW 0) (kW (.str "name")))) (retW (callW 1 w_is_name (consA (vW 1) nilA))) nilS)
  (seqW (ifS (blW (binW eqD (vW 0) (kW (.str "number")))) (retW (callW 1 w_is_number (consA (vW 1) nilA))) nilS)
  (retW (callW 1 w_is_rise (consA (vW 1) nilA))))))
def w__law_same : Nat -> Fn
 | 0 => fun _ _ => False
 | n + 1 => fnW 2 ((seqW (ifS (orT (truW (isiW "list" (vW 1))) (truW (isiW "tuple" (vW 1)))) (seqW (ifS (orT (blW (binW neD (isiW "list" (vW 0)) (isiW "list" (vW 1)))) (blW (binW neD (isiW "tuple" (vW 0)) (isiW "tuple" (vW 1))))) (retW (kW (.bl false))) nilS)
  (retW (andW (binW eqD (cbW lenXF (consA (vW 0) nilA)) (cbW lenXF (consA (vW 1) nilA))) (cbW allF (consA (valW (lcompW [none, none] (zipXI (vW 0) (vW 1)) (.tp 2 (.cons (.nm 0) (.cons (.nm 1) .nil))) noIf (callW 2 (w__law_same n) (consA (vW 0) (consA (vW 1) nilA))))) nilA))))) nilS)
  (seqW (ifS (orT (blW (isNW (vW 0))) (blW (isNW (vW 1)))) (retW (andW (isNW (vW 0)) (isNW (vW 1)))) nilS)
  (seqW (ifS (orT (blW (binW neD (isiW "bool" (vW 0)) (isiW "bool" (vW 1)))) (blW (binW neD (isiW "int" (vW 0)) (isiW "int" (vW 1))))) (retW (kW (.bl false))) nilS)
  (retW (andW (binW eqD (isiW "str" (vW 0)) (isiW "str" (vW 1))) (binW eqD (vW 0) (vW 1))))))))
def w__law_names : Fn := fnW 10 ((seqW (asgW (.nm 2) (kW (.str "abcdefghijklmnopqrstuvwxyz")))
  (seqW (asgW (.nm 3) (binW addD (kW (.int 1)) (callW 2 w__law_take (consA (vW 0) (consA (kW (.int 8)) nilA)))))
  (seqW (asgW (.nm 4) (callW 2 w__law_take (consA (vW 0) (consA (vW 3) nilA))))
  (seqW (asgW (.nm 5) (binW eqD (callW 2 w__law_take (consA (vW 0) (consA (kW (.int 2)) nilA))) (kW (.int 0))))
  (seqW (asgW (.nm 6) (valW (lcompW [none, some 0] (rng1I (vW 3)) (.nm 0) noIf (callW 2 w__law_take (consA (vW 1) (consA (kW (.int 26)) nilA))))))
  (seqW (ownW 7 (lstW nilA))
  (seqW (forW (rng1I (vW 1)) (.nm 8) (seqW (ownW 9 (listW (vW 6)))
  (seqW (ifS (notT (truW (vW 5))) (ownW 9 (lcompW [none, some 0] (rng1I (binW addD (binW addD (vW 4) (kW (.int 1))) (callW 2 w__law_take (consA (vW 0) (consA (binW subD (vW 3) (vW 4)) nilA))))) (.nm 0) noIf (callW 2 w__law_take (consA (vW 1) (consA (kW (.int 26)) nilA))))) nilS)
  (seqW (putW 9 (vW 4) (binW modD (binW addD (binW ixXD (vW 6) (vW 4)) (binW mulD (kW (.int 11)) (vW 8))) (kW (.int 26))))
  (frzW 9 (appW 7 (smW joF (kW (.str "")) (valW (lcompW [none, some 2] (seqXI (vW 9)) (.nm 0) noIf (binW ixXD (vW 1) (vW 0)))))))))))
  (frzW 7 (retW (vW 7)))))))))))
def w_deed_ofX : FnX := fnWX 5 (fun Y => (seqW (starW 1 2 (smW spF (vW 0) (kW (.str " "))))
  (seqW (ifS (orT (blW (inGW true kv_FORMS (vW 1))) (blW (binW neD (cbW lenXF (consA (ixGW kv_FORMS (vW 1)) nilA)) (cbW lenXF (consA (vW 2) nilA))))) (rzW (consA (kW (.str "no deed has this word and so many behind it")) nilA) (Y "NoDeed")) nilS)
  (seqW (asgW (.nm 3) (ixGW kv_FORMS (vW 1)))
  (seqW (ifS (notT (truW (cbW allF (consA (valW (lcompW [none, none] (zipXI (vW 3) (vW 2)) (.tp 2 (.cons (.nm 0) (.cons (.nm 1) .nil))) noIf (callW 2 w_is_written_as (consA (vW 0) (consA (vW 1) nilA))))) nilA)))) (rzW (consA (kW (.str "a name or a number isn't so written")) nilA) (Y "NoDeed")) nilS)
  (seqW (asgW (.nm 4) (valW (lcompW [none, none] (zipXI (vW 3) (vW 2)) (.tp 2 (.cons (.nm 0) (.cons (.nm 1) .nil))) noIf (ifW (blW (binW eqD (vW 0) (kW (.str "name")))) (vW 1) (cbW intXF (consA (vW 1) nilA))))))
  (retW (cbW tupOfF (consA (binW addD (valW (lstW (consA (vW 1) nilA))) (vW 4)) nilA)))))))))
def w__law_named : Fn := fnW 1 ((retW (andW (chainW leD leD (kW (.int 1)) (cbW lenXF (consA (vW 0) nilA)) (kW (.int 8))) (cbW allF (consA (valW (lcompW [none] (seqXI (vW 0)) (.nm 0) noIf (binW (inXD false) (vW 0) (kW (.str "abcdefghijklmnopqrstuvwxyz"))))) nilA)))))
def w__law_is_number : Fn := fnW 1 ((seqW (ifS (orT (notT (blW (chainW leD leD (kW (.int 1)) (cbW lenXF (consA (vW 0) nilA)) (kW (.int 10))))) (notT (truW (cbW allF (consA (valW (lcompW [none] (seqXI (vW 0)) (.nm 0) noIf (binW (inXD false) (vW 0) (kW (.str "0123456789"))))) nilA))))) (retW (kW (.bl false))) nilS)
  (retW (orW (binW eqD (vW 0) (kW (.str "0"))) (binW neD (binW ixXD (vW 0) (kW (.int 0))) (kW (.str "0")))))))
def w__law_part : Fn := fnW 2 ((seqW (ifS (blW (binW eqD (vW 0) (kW (.str "n")))) (retW (binW ixXD (valW (lstW (consA (kW .non) (consA (vW 1) nilA)))) (cbW intXF (consA (callW 1 w__law_named (consA (vW 1) nilA)) nilA)))) nilS)
  (seqW (ifS (andT (blW (binW eqD (vW 0) (kW (.str "r")))) (andT (blW (binW eqD (slXW (vW 1) noO (someO (kW (.int 1)))) (kW (.str "-")))) (andT (blW (binW neD (vW 1) (kW (.str "-0")))) (truW (callW 1 w__law_is_number (consA (slXW (vW 1) (someO (kW (.int 1))) noO) nilA)))))) (retW (unW negD (cbW intXF (consA (slXW (vW 1) (someO (kW (.int 1))) noO) nilA)))) nilS)
  (seqW (ifS (truW (callW 1 w__law_is_number (consA (vW 1) nilA))) (retW (cbW intXF (consA (vW 1) nilA))) nilS)
  (retW (kW .non))))))
def w__law_read : Fn := fnW 5 ((seqW (asgW (.nm 1) (smW spF (vW 0) (kW (.str " "))))
  (shW 2 3 [("mark", "n"), ("hand", "n"), ("run", "nnrn"), ("strike", "c"), ("mend", "cr"), ("settle", "n"), ("aside", "n"), ("heed", "n"), ("allow", "c")] "" (binW ixXD (vW 1) (kW (.int 0)))
  (seqW (ifS (orT (blW (binW eqD (vW 3) (kW (.str "")))) (blW (binW neD (cbW lenXF (consA (vW 1) nilA)) (binW addD (cbW lenXF (consA (vW 3) nilA)) (kW (.int 1)))))) (retW (kW .non)) nilS)
  (seqW (asgW (.nm 4) (valW (lcompW [none, some 3, some 1] (rng1I (cbW lenXF (consA (vW 3) nilA))) (.nm 0) noIf (callW 2 w__law_part (consA (binW ixXD (vW 1) (vW 0)) (consA (binW ixXD (vW 2) (binW addD (vW 0) (kW (.int 1)))) nilA))))))
  (seqW (ifS (blW (binW (inXD false) (kW .non) (vW 4))) (retW (kW .non)) nilS)
  (retW (binW addD (tupW (consA (binW ixXD (vW 1) (kW (.int 0))) nilA)) (cbW tupOfF (consA (vW 4) nilA))))))))))
def w__law_row : Fn := fnW 5 ((seqW (asgW (.nm 1) (callW 2 w__law_names (consA (vW 0) (consA (kW (.int 3)) nilA))))
  (seqW (asgW (.nm 2) (binW ixXD (valW (lstW (consA (kW (.str "mark")) (consA (kW (.str "hand")) (consA (kW (.str "run")) (consA (kW (.str "strike")) (consA (kW (.str "mend")) (consA (kW (.str "settle")) (consA (kW (.str "aside")) (consA (kW (.str "heed")) (consA (kW (.str "allow")) nilA))))))))))) (callW 2 w__law_take (consA (vW 0) (consA (kW (.int 9)) nilA)))))
  (seqW (asgW (.nm 3) (binW ixXD (valW (lstW (consA (kW (.int 0)) (consA (callW 2 w__law_take (consA (vW 0) (consA (binW powD (kW (.int 10)) (kW (.int 10))) nilA))) (consA (callW 2 w__law_take (consA (vW 0) (consA (kW (.int 30)) nilA))) (consA (kW (.int 9999999999)) nilA)))))) (callW 2 w__law_take (consA (vW 0) (consA (kW (.int 4)) nilA)))))
  (seqW (asgW (.nm 4) (cbW strF (consA (binW mulD (vW 3) (binW subD (kW (.int 1)) (binW mulD (kW (.int 2)) (callW 2 w__law_take (consA (vW 0) (consA (kW (.int 2)) nilA)))))) nilA)))
  (seqW (ifS (blW (binW eqD (vW 2) (kW (.str "run")))) (retW (valW (lstW (consA (vW 2) (consA (binW ixXD (vW 1) (kW (.int 0))) (consA (binW ixXD (vW 1) (kW (.int 1))) (consA (vW 4) (consA (binW ixXD (vW 1) (kW (.int 2))) nilA)))))))) nilS)
  (seqW (ifS (blW (binW eqD (vW 2) (kW (.str "mend")))) (retW (valW (lstW (consA (vW 2) (consA (cbW strF (consA (vW 3) nilA)) (consA (vW 4) nilA)))))) nilS)
  (retW (valW (lstW (consA (vW 2) (consA (binW ixXD (valW (lstW (consA (binW ixXD (vW 1) (kW (.int 0))) (consA (cbW strF (consA (vW 3) nilA)) nilA)))) (cbW intXF (consA (binW (inXD false) (vW 2) (tupW (consA (kW (.str "strike")) (consA (kW (.str "allow")) nilA)))) nilA))) nilA))))))))))))
def w__law_spoilt : Fn := fnW 10 ((seqW (asgW (.nm 2) (callW 2 w__law_take (consA (vW 0) (consA (kW (.int 7)) nilA))))
  (seqW (asgW (.nm 3) (callW 2 w__law_take (consA (vW 0) (consA (cbW lenXF (consA (vW 1) nilA)) nilA))))
  (seqW (asgW (.nm 4) (binW ixXD (vW 1) (vW 3)))
  (seqW (ifS (andT (blW (binW eqD (vW 2) (kW (.int 0)))) (blW (binW gtD (cbW lenXF (consA (vW 1) nilA)) (kW (.int 1))))) (retW (binW addD (slXW (vW 1) noO (someO (vW 3))) (slXW (vW 1) (someO (binW addD (vW 3) (kW (.int 1)))) noO))) nilS)
  (seqW (ifS (blW (binW eqD (vW 2) (kW (.int 1)))) (retW (binW addD (binW addD (slXW (vW 1) noO (someO (vW 3))) (valW (lstW (consA (vW 4) nilA)))) (slXW (vW 1) (someO (vW 3)) noO))) nilS)
  (seqW (ifS (blW (binW eqD (vW 2) (kW (.int 2)))) (retW (binW addD (binW addD (slXW (vW 1) noO (someO (binW addD (vW 3) (kW (.int 1))))) (valW (lstW (consA (kW (.str "")) nilA)))) (slXW (vW 1) (someO (binW addD (vW 3) (kW (.int 1)))) noO))) nilS)
  (seqW (ifS (blW (binW eqD (vW 2) (kW (.int 3)))) (seqW (asgW (.nm 5) (valW (lstW (consA (binW addD (kW (.str "0")) (vW 4)) (consA (binW addD (vW 4) (kW (.str "a"))) (consA (binW addD (vW 4) (kW (.str "0"))) (consA (binW addD (kW (.str "-")) (vW 4)) (consA (binW mulXD (vW 4) (kW (.int 3))) nilA))))))))
  (retW (binW addD (binW addD (slXW (vW 1) noO (someO (vW 3))) (valW (lstW (consA (binW ixXD (vW 5) (callW 2 w__law_take (consA (vW 0) (consA (kW (.int 5)) nilA)))) nilA)))) (slXW (vW 1) (someO (binW addD (vW 3) (kW (.int 1)))) noO)))) nilS)
  (seqW (asgW (.nm 6) (kW (.str " !\"#$&'()*+,-./0123456789:;<=>?@ABCDEFGHIJKLMNOPQRSTUVWXYZ[\\]^_`abcdefghijklmnopqrstuvwxyz{|}~\n")))
  (seqW (asgW (.nm 7) (binW ixXD (vW 6) (callW 2 w__law_take (consA (vW 0) (consA (cbW lenXF (consA (vW 6) nilA)) nilA)))))
  (seqW (asgW (.nm 8) (callW 2 w__law_take (consA (vW 0) (consA (binW addD (cbW lenXF (consA (vW 4) nilA)) (kW (.int 1))) nilA))))
  (seqW (asgW (.nm 9) (binW addD (binW addD (slXW (vW 4) noO (someO (vW 8))) (vW 7)) (slXW (vW 4) (someO (binW addD (vW 8) (binW modD (vW 2) (kW (.int 2))))) noO)))
  (retW (binW addD (binW addD (slXW (vW 1) noO (someO (vW 3))) (valW (lstW (consA (vW 9) nilA)))) (slXW (vW 1) (someO (binW addD (vW 3) (kW (.int 1)))) noO)))))))))))))))
def kd__law_told_of_row : Str -> Option (List Bool) := fun x => if x = "NoDeed" then some [true, false, false] else none
def w__law_told_of_row : Fn := fnW 4 ((seqW (asgW (.nm 1) (kW .non))
  (seqW (asgW (.nm 2) (valW (lstW nilA)))
  (seqW (tryW 1 3 2 1 w_deed_ofX (consA (vW 0) nilA) kd__law_told_of_row)
  (retW (tupW (consA (vW 1) (consA (vW 2) nilA))))))))
def w_law_k41 : WS := (seqW (forW (rng1I (kW (.int 3))) (.nm 2) (seqW (asgW (.nm 3) (callW 1 w__law_row (consA (vW 1) nilA)))
  (seqW (forW (rng1I (callW 2 w__law_take (consA (vW 1) (consA (kW (.int 3)) nilA)))) (.nm 4) (asgW (.nm 3) (callW 2 w__law_spoilt (consA (vW 1) (consA (vW 3) nilA)))))
  (seqW (asgW (.nm 5) (smW joF (kW (.str " ")) (vW 3)))
  (seqW (asgW (.nm 6) (tupW (consA (callW 1 w__law_read (consA (vW 5) nilA)) (consA (valW (lstW nilA)) nilA))))
  (seqW (ifS (blW (isNW (binW ixXD (vW 6) (kW (.int 0))))) (asgW (.nm 6) (tupW (consA (kW .non) (consA (valW (lstW (consA (kW (.bl true)) (consA (kW (.bl false)) (consA (kW (.bl false)) nilA))))) nilA)))) nilS)
  (ifS (notT (truW (callW 2 (w__law_same 6) (consA (callW 1 w__law_told_of_row (consA (vW 5) nilA)) (consA (vW 6) nilA))))) (retW (kW (.bl false))) nilS)))))))
  (retW (kW (.bl true))))
end Fd
namespace Fen
open PySem L2
def Ext (b : Addr) (H H' : Hp) : Prop := ∀ a o, a ≠ b -> H a = some o -> H' a = some o
theorem Ext.refl (b : Addr) (H : Hp) : Ext b H H := fun _ _ _ h => h
theorem Ext.trans  (x : Ext b H H1) (y : Ext b H1 H2) : Ext b H H2 := fun a o n h => y a o n (x a o n h)
theorem Ext.upd  : Ext b H (upd H b o) := fun a _ n h => by rw [upd_ne n]; exact h
def boxV (c : Addr) (p r d : Int) : HO := .lst [.ref c, .int p, .int r, .int d]
structure Box (H : Hp) (b c : Addr) (ns : List Int) : Prop where
 ex : ∃ p r d : Int, H b = some (boxV c p r d) /\ 0 <= p /\ 0 <= r /\ 0 <= d /\ d < 2147483629
 cells : H c = some (.lst (ns.map V.int))
 few : ns.length <= 63
theorem Box.ne  (x : Box H b c ns) : b ≠ c := fun z => by
 obtain ⟨p, r, d, e, _⟩ := x.ex
 have q := x.cells
 rw [<- z, e] at q
 have q' : ([V.ref c, .int p, .int r, .int d] : List V) = ns.map V.int := by injection q with q; injection q
 cases ns with
 | nil => cases q'
 | cons n r => simp at q'
theorem Box.put  (x : Box H b c ns) (hp : 0 <= p) (hr : 0 <= r) (h0 : 0 <= d) (h1 : d < 2147483629) : Box (upd H b (boxV c p r d)) b c ns :=
 ⟨⟨p, r, d, upd_same, hp, hr, h0, h1⟩, by rw [upd_ne x.ne.symm]; exact x.cells, x.few⟩
def spBox (K : PySem.W.Frag) : Sp := fun vs H Q _ => ∃ (a : Addr) (ns : List Int), vs = [.ref a] /\ SqL K H a (ns.map V.int) /\ ns.length <= 63 /\ ∀ b c H', H b = none -> Box H' b c ns -> Same H H' -> Q (.ref b) H'
def spTake : Sp := fun vs H Q _ => ∃ (b c : Addr) (ns : List Int) (m : Int), vs = [.ref b, .int m] /\ Box H b c ns /\ 0 < m /\ m < 2 ^ 64 /\ ∀ (x : Int) H', 0 <= x -> x < m -> Box H' b c ns -> Ext b H H' -> Q (.int x) H'
structure Txt (K : PySem.W.Frag) (mg : Str -> Option Value) : Prop where
 list : mg "list" = none
 len : mg "len" = none
 range : mg "range" = none
theorem cut63 {ns : List Int} (h : ns.length <= 63) : cutV (ns.map V.int) none (some 63) = ns.map V.int := by
 unfold cutV
 have e : HT.sIx (ns.map V.int).length (ns.map V.int).length (some 63) = ns.length := by
  rw [show (63 : Int) = ((63 : Nat) : Int) from rfl, HT.sIx_nat, List.length_map]; omega
 rw [e, HT.sIx_none, List.drop_zero, Nat.sub_zero]
 exact List.take_of_length_le (by simp)
end Fen
namespace Fd
open PySem L2
theorem up_of  (h : F ds P) (k : ∀ d, P d -> Q d) : up F ds Q := ⟨P, h, k⟩
def Stepc (t : Tg) (C : WT) (E : WE) (ρc : Env) (x : D) (o : Option D) : Prop := ∀ (Y : D -> Prop) (N : Prop), (match o with | some d => Y d | none => N) -> gD t x ρc fun ρ2 => C ρ2 fun b => if b = true then E ρ2 Y else N
theorem compL_of {α : Type}   (emb : α -> D) (g : α -> Option D) : ∀ (xs : List α) (acc : List D), (∀ x ∈ xs, Stepc t C E ρc (emb x) (g x)) -> Q (acc ++ xs.filterMap g) -> compL t C E ρc Q (xs.map emb) acc
 | [], acc, _, q => by simpa [compL] using q
 | x :: xs, acc, h, q => by
  show gD t (emb x) ρc fun ρ2 => C ρ2 fun b => if b = true then E ρ2 fun d => compL t C E ρc Q (xs.map emb) (acc ++ [d]) else compL t C E ρc Q (xs.map emb) acc
  refine h x List.mem_cons_self _ _ ?_
  cases e : g x with
  | none =>
   refine compL_of emb g xs acc (fun y hy => h y (List.mem_cons_of_mem _ hy)) ?_
   rw [List.filterMap_cons, e] at q; exact q
  | some d =>
   refine compL_of emb g xs (acc ++ [d]) (fun y hy => h y (List.mem_cons_of_mem _ hy)) ?_
   rw [List.filterMap_cons, e] at q
   rw [List.append_assoc]; exact q
theorem compL_any {α β : Type}   (emb : α -> D) (out : β -> D) (R : α -> β -> Prop) : ∀ (xs : List α) (ys : List β), (∀ x ∈ xs, ∀ Y : D -> Prop, (∀ y, R x y -> Y (out y)) -> gD t (emb x) ρc fun ρ2 => C ρ2 fun b => b = true /\ E ρ2 Y) ->
  TMono C -> (∀ zs : List β, zs.length = xs.length -> (∀ z ∈ zs, ∃ x ∈ xs, R x z) -> Q ((ys ++ zs).map out)) -> compL t C E ρc Q (xs.map emb) (ys.map out)
 | [], ys, _, _, q => by simpa [compL] using q [] rfl (fun z h => by cases h)
 | x :: xs, ys, h, mC, q => by
  show gD t (emb x) ρc fun ρ2 => C ρ2 fun b => if b = true then E ρ2 fun d => compL t C E ρc Q (xs.map emb) (ys.map out ++ [d]) else compL t C E ρc Q (xs.map emb) (ys.map out)
  refine gD_mono t (emb x) ρc (fun ρ2 z => mC ρ2 _ _ (fun b z => ?_) z) (h x List.mem_cons_self (fun d => compL t C E ρc Q (xs.map emb) (ys.map out ++ [d])) fun y hy => ?_)
  ·rw [z.1, if_pos rfl]; exact z.2
  ·have := compL_any (t := t) (C := C) (E := E) (ρc := ρc) (Q := Q) emb out R xs (ys ++ [y]) (fun x' hx' => h x' (List.mem_cons_of_mem _ hx')) mC (fun zs hl hz => by
    have := q (y :: zs) (by simp [hl]) (fun z hz' => by
     rcases List.mem_cons.mp hz' with e | e
     ·exact ⟨x, List.mem_cons_self, e ▸ hy⟩
     ·obtain ⟨x', h1, h2⟩ := hz z e; exact ⟨x', List.mem_cons_of_mem _ h1, h2⟩)
    simpa using this)
   simpa using this
theorem noIf_mono : TMono noIf := fun ρ Q Q' k q => k _ q
theorem loop_inv  (I : List D -> Env -> Prop)
  (hs : ∀ x rest ρ (E' : En), (∀ ρ, I rest ρ -> E'.nx ρ) -> (∀ ρ, I rest ρ -> E'.ct ρ) -> (∀ d, E.rt d -> E'.rt d) -> (∀ ρ, E.nx ρ -> E'.bk ρ) -> I (x :: rest) ρ -> gD t x ρ fun ρ' => B E' ρ') (hd : ∀ ρ, I [] ρ -> E.nx ρ) :
  ∀ (xs : List D) (ρ : Env), I xs ρ -> loopW t B E xs ρ
 | [], ρ, h => hd ρ h
 | x :: xs, ρ, h => hs x xs ρ { nx := loopW t B E xs, ct := loopW t B E xs, bk := E.nx, rt := E.rt } (loop_inv I hs hd xs) (loop_inv I hs hd xs) (fun d z => z) (fun ρ z => z) h
theorem rngL_mem  (h : d ∈ rngL m n) : ∃ k : Int, d = .int k /\ m <= k /\ k < m + n := by
 unfold rngL at h
 obtain ⟨k, hk, rfl⟩ := List.mem_map.mp h
 exact ⟨_, rfl, by omega, by have := List.mem_range.mp hk; omega⟩
theorem old_int (i : Int) : D.old (.int i) = .int i := by unfold D.old; rfl
theorem eqOk_int (x y : Int) : eqOk (.int x) (.int y) := ⟨rfl, rfl, by show min 0 0 <= 50; decide⟩
theorem eqB_int (x y : Int) : eqB (.int x) (.int y) = decide (x = y) := by
 show (x == y) = _; by_cases h : x = y <;> simp [h]
theorem eqOk_bl (x y : Bool) : eqOk (.bl x) (.bl y) := ⟨rfl, rfl, by show min 0 0 <= 50; decide⟩
theorem old_box : D.old .box = .box := by rw [D.old]
theorem old_str (x : Str) : D.old (.str x) = .str x := by rw [D.old]
theorem use_take {m : Int} {Q : D -> Prop} (h0 : 0 < m) (h1 : m < 2 ^ 64) (k : ∀ x : Int, 0 <= x -> x < m -> Q (.int x)) : up w__law_take [.box, .int m] Q := ⟨Q, ⟨⟨h0, h1⟩, k⟩, fun d z => z⟩
theorem rngL_map (n : Nat) : rngL 0 n = (List.range n).map fun (k : Nat) => D.int (k : Int) := by
 unfold rngL; refine List.map_congr_left fun k _ => ?_; simp
theorem rngL_length (m : Int) (n : Nat) : (rngL m n).length = n := by unfold rngL; simp
theorem map_bl {α : Type} (f : α -> Bool) (xs : List α) : (xs.map fun x => D.bl (f x)) = (xs.map f).map D.bl := by rw [List.map_map]; rfl
theorem allF_map {α : Type} {f : α -> Bool} {xs : List α} {n : Bool} {Q : D -> Prop} (q : Q (.bl (xs.all f))) : allF [.lst n (xs.map fun x => D.bl (f x))] Q :=
 ⟨xs.map f, map_bl f xs, by rw [List.all_map]; exact q⟩
theorem filterMap_some {α β : Type} (f : α -> β) (xs : List α) : xs.filterMap (fun x => some (f x)) = xs.map f := by rw [List.filterMap_eq_map']
theorem compL_map {α : Type} {t : Tg} {C : WT} {E : WE} {ρc : Env} {Q : List D -> Prop} (emb : α -> D) (g : α -> D) (xs : List α) (h : ∀ x ∈ xs, Stepc t C E ρc (emb x) (some (g x))) (q : Q (xs.map g)) : compL t C E ρc Q (xs.map emb) [] :=
 compL_of emb (fun x => some (g x)) xs [] h (by rw [filterMap_some]; exact q)
mutual
def sameOk : D -> Nat -> Bool
 | .non, _ => true
 | .bl _, _ => true
 | .int _, _ => true
 | .str x, _ => PyData.canLay0 (.str x)
 | .box, _ => false
 | .tup xs, n + 1 => decide (xs.length <= 1000) && sameOks xs n
 | .lst _ xs, n + 1 => decide (xs.length <= 1000) && sameOks xs n
 | .tup _, 0 => false
 | .lst _ _, 0 => false
def sameOks : List D -> Nat -> Bool
 | [], _ => true
 | x :: xs, n => sameOk x n && sameOks xs n
end
theorem sameOks_mem : ∀ {xs : List D} {n : Nat} {x : D}, sameOks xs n = true -> x ∈ xs -> sameOk x n = true
 | y :: ys, n, x, h, hx => by
  rw [sameOks, Bool.and_eq_true] at h
  rcases List.mem_cons.mp hx with e | e
  ·rw [e]; exact h.1
  ·exact sameOks_mem h.2 e
theorem zipL_self : ∀ xs : List D, zipL xs xs = xs.map fun x => .tup [x, x]
 | [] => rfl
 | x :: xs => by rw [zipL, zipL_self xs]; rfl
mutual
theorem old_old : ∀ d : D, d.old.old = d.old
 | .non => by simp [D.old]
 | .bl _ => by simp [D.old]
 | .int _ => by simp [D.old]
 | .str _ => by simp [D.old]
 | .box => by simp [D.old]
 | .tup xs => by rw [D.old, D.old, List.map_map]; congr 1; exact old_olds xs
 | .lst _ xs => by rw [D.old, D.old, List.map_map]; congr 1; exact old_olds xs
theorem old_olds : ∀ xs : List D, xs.map (D.old ∘ D.old) = xs.map D.old
 | [] => rfl
 | x :: xs => by rw [List.map_cons, List.map_cons, old_olds xs, Function.comp_apply, old_old x]
end
mutual
theorem sameOk_old : ∀ (d : D) (n : Nat), sameOk d.old n = sameOk d n
 | .non, _ => by rw [D.old]
 | .bl _, _ => by rw [D.old]
 | .int _, _ => by rw [D.old]
 | .str _, _ => by rw [D.old]
 | .box, _ => by rw [D.old]
 | .tup xs, n + 1 => by rw [D.old, sameOk, sameOk, List.length_map, sameOks_old xs n]
 | .lst _ xs, n + 1 => by rw [D.old, sameOk, sameOk, List.length_map, sameOks_old xs n]
 | .tup xs, 0 => by rw [D.old, sameOk, sameOk]
 | .lst _ xs, 0 => by rw [D.old, sameOk, sameOk]
theorem sameOks_old : ∀ (xs : List D) (n : Nat), sameOks (xs.map D.old) n = sameOks xs n
 | [], _ => rfl
 | x :: xs, n => by rw [List.map_cons, sameOks, sameOks, sameOk_old x n, sameOks_old xs n]
end
theorem lay_sc : ∀ {d : D} {n : Nat}, sameOk d n = true -> (∀ xs, d ≠ .tup xs) -> (∀ b xs, d ≠ .lst b xs) -> layD d = true
 | .non, _, _, _, _ => rfl
 | .bl _, _, _, _, _ => rfl
 | .int _, _, _, _, _ => rfl
 | .str x, _, h, _, _ => by rw [sameOk] at h; rw [layD]; exact h
 | .box, _, h, _, _ => by rw [sameOk] at h; cases h
 | .tup xs, _, _, h, _ => absurd rfl (h xs)
 | .lst b xs, _, _, _, h => absurd rfl (h b xs)
theorem same_self : ∀ (n : Nat) (d e : D), d.old = e.old -> sameOk d n = true -> w__law_same (n + 1) [d, e] (· = .bl true)
 | n, d, e, he, h => by
  have ho := h
  rw [<- sameOk_old] at ho
  unfold w__law_same fnW startE
  rw [List.map_cons, List.map_cons, <- he]
  have hoo : d.old.old = d.old := old_old d
  revert ho hoo
  generalize d.old = x
  intro ho hoo
  cases x with
  | non => rfl
  | bl b => exact ⟨eqOk_bl _ _, eqOk_bl _ _, eqOk_bl _ _, ⟨rfl, rfl, by show min 0 0 <= 50; decide⟩, by show D.bl (b == b) = _; simp⟩
  | int i => exact ⟨eqOk_bl _ _, eqOk_bl _ _, eqOk_bl _ _, eqOk_int _ _, by show D.bl (i == i) = _; simp⟩
  | str z => exact ⟨eqOk_bl _ _, eqOk_bl _ _, eqOk_bl _ _, ⟨lay_sc ho (fun _ h => by cases h) (fun _ _ h => by cases h), lay_sc ho (fun _ h => by cases h) (fun _ _ h => by cases h), by show min 0 0 <= 50; decide⟩, by show D.bl (z == z) = _; simp⟩
  | box => rw [sameOk] at ho; cases ho
  | tup xs =>
   cases n with
   | zero => rw [sameOk] at ho; cases ho
   | succ n =>
    rw [sameOk, Bool.and_eq_true] at ho
    have hl := of_decide_eq_true ho.1
    refine ⟨eqOk_bl _ _, eqOk_bl _ _, eqOk_int _ _, ?_⟩
    show blD (.bl (eqB (.int (xs.length : Int)) (.int (xs.length : Int)))) _
    rw [eqB_int, decide_eq_true rfl]
    show _ /\ compL _ _ _ _ _ (zipL xs xs) []
    rw [zipL_self]
    refine ⟨by rw [List.length_map]; omega, compL_map (fun x => .tup [x, x]) (fun _ => .bl true) xs (fun x hx Y N y => ⟨rfl, rfl, up_of (same_self n x x rfl (sameOks_mem ho.2 hx)) fun d hd => by subst hd; exact y⟩) ?_⟩
    exact allF_map (f := fun _ => true) (xs := xs) (n := true) (by show D.bl _ = _; congr 1; simp)
  | lst b xs =>
   cases n with
   | zero => rw [sameOk] at ho; cases ho
   | succ n =>
    rw [sameOk, Bool.and_eq_true] at ho
    have hl := of_decide_eq_true ho.1
    refine ⟨eqOk_bl _ _, eqOk_bl _ _, eqOk_int _ _, ?_⟩
    show blD (.bl (eqB (.int (xs.length : Int)) (.int (xs.length : Int)))) _
    rw [eqB_int, decide_eq_true rfl]
    show _ /\ compL _ _ _ _ _ (zipL xs xs) []
    rw [zipL_self]
    refine ⟨by rw [List.length_map]; omega, compL_map (fun x => .tup [x, x]) (fun _ => .bl true) xs (fun x hx Y N y => ⟨rfl, rfl, up_of (same_self n x x rfl (sameOks_mem ho.2 hx)) fun d hd => by subst hd; exact y⟩) ?_⟩
    exact allF_map (f := fun _ => true) (xs := xs) (n := true) (by show D.bl _ = _; congr 1; simp)
abbrev sg (x : Str) : List Nat := x.cps.toList
theorem str_ext {x y : Str} (h : sg x = sg y) : x = y := by
 cases x; cases y
 have : _ = _ := Array.ext' h
 simp only at this
 rw [this]
theorem len_sg (x : Str) : x.length = (sg x).length := by unfold Str.length; simp
theorem sg_mk (l : List Nat) : sg ⟨l.toArray⟩ = l := by simp
theorem sg_app (x y : Str) : sg (x ++ y) = sg x ++ sg y := by show (x.cps ++ y.cps).toList = _; simp
theorem eqB_str (x y : Str) : eqB (.str x) (.str y) = decide (x = y) := by
 show (x == y) = _
 by_cases h : x = y <;> simp [h]
def okS (x : Str) : Bool := PyData.canLay0 (.str x)
theorem okS_of {x : Str} (h : ∀ ch ∈ sg x, ch < 0x110000) : okS x = true := by
 show x.cps.all (· < 0x110000) = true
 rw [<- Array.all_toList, List.all_eq_true]
 intro ch hc
 exact decide_eq_true (h ch hc)
theorem ok_lit {x : Str} (h : (sg x).all (fun ch => decide (ch < 0x110000)) = true := by decide +kernel) : okS x = true := okS_of fun ch hc => of_decide_eq_true (List.all_eq_true.mp h ch hc)
theorem eqOk_str {x y : Str} (hx : okS x = true) (hy : okS y = true) : eqOk (.str x) (.str y) := ⟨by rw [layD]; exact hx, by rw [layD]; exact hy, by show min 0 0 <= 50; decide⟩
theorem has_one (s : Str) (ch : Nat) : hasS s ⟨#[ch]⟩ = decide (ch ∈ sg s) := StrLaws.found_one s ch
def madeB (x signs : Str) (n : Int) : Bool := (decide (1 <= (x.length : Int)) && decide ((x.length : Int) <= n)) && (sg x).all fun ch => decide (ch ∈ sg signs)
theorem use_v {i : Nat} {ρ : Env} {d : D} {Q : D -> Prop} (h : ρ[i]? = some (.val d)) (q : Q d) : vW i ρ Q := by unfold vW; rw [h]; exact q
theorem bl_t {b : Bool} {f : Bool -> Prop} (q : f b) : blD (.bl b) f := q
theorem ite_t {p q : Prop} (h : p) : if true = true then p else q := h
theorem use_le {i j : Int} {Q : D -> Prop} (q : Q (.bl (decide (i <= j)))) : leD (.int i) (.int j) Q := q
theorem sem_is_made_of (x signs : Str) (n : Int) (hx : x.length <= 100000) : w_is_made_of [.str x, .str signs, .int n] (· = .bl (madeB x signs n)) := by
 unfold w_is_made_of fnW startE
 rw [List.map_cons, List.map_cons, List.map_cons, old_str, old_str, old_int]
 refine ⟨hx, use_le ?_⟩
 unfold madeB
 cases decide (1 <= (x.length : Int)) with
 | false => rfl
 | true =>
  refine bl_t (ite_t (use_v (d := .int n) rfl (use_le ?_)))
  cases decide ((x.length : Int) <= n) with
  | false => rfl
  | true =>
   show _ /\ compL _ _ _ _ _ (chs x) []
   refine ⟨by unfold chs; rw [List.length_map, <- len_sg]; exact hx, ?_⟩
   unfold chs
   refine compL_map (fun ch => D.str ⟨#[ch]⟩) (fun ch => .bl (decide (ch ∈ sg signs))) (sg x) (fun ch _ Y N y => ?_) ?_
   ·show Y (.bl (if false = true then !hasS signs ⟨#[ch]⟩ else hasS signs ⟨#[ch]⟩))
    rw [if_neg (by decide), has_one]
    exact y
   ·exact allF_map (f := fun ch => decide (ch ∈ sg signs)) (xs := sg x) (n := true) (by simp)
abbrev LET : Str := "abcdefghijklmnopqrstuvwxyz"
abbrev FIG : Str := "0123456789"
theorem mem_let (ch : Nat) : ch ∈ sg LET ↔ 97 <= ch /\ ch <= 122 := by
 have : sg LET = List.range' 97 26 := by decide +kernel
 rw [this, List.mem_range']
 constructor
 ·rintro ⟨i, h, rfl⟩; omega
 ·intro h; exact ⟨ch - 97, by omega, by omega⟩
theorem mem_fig (ch : Nat) : ch ∈ sg FIG ↔ 48 <= ch /\ ch <= 57 := by
 have : sg FIG = List.range' 48 10 := by decide +kernel
 rw [this, List.mem_range']
 constructor
 ·rintro ⟨i, h, rfl⟩; omega
 ·intro h; exact ⟨ch - 48, by omega, by omega⟩
def nameB (x : Str) : Bool := madeB x LET 8
theorem sem_is_name (x : Str) (hx : x.length <= 100000) : w_is_name [.str x] (· = .bl (nameB x)) := by
 unfold w_is_name fnW startE
 rw [List.map_cons, old_str]
 exact ⟨rfl, up_of (sem_is_made_of x LET 8 hx) fun d z => z⟩
abbrev s0 : Str := "0"
abbrev sM : Str := "-"
abbrev sM0 : Str := "-0"
def numB (x : Str) : Bool := madeB x FIG 10 && (decide (x = s0) || !Txt.startswith x s0)
theorem sem_is_number (x : Str) (hx : x.length <= 100000) (ho : okS x = true) : w_is_number [.str x] (· = .bl (numB x)) := by
 unfold w_is_number fnW startE
 rw [List.map_cons, old_str]
 refine ⟨rfl, up_of (sem_is_made_of x FIG 10 hx) fun d z => ?_⟩
 subst z
 unfold numB
 cases madeB x FIG 10 with
 | false => rfl
 | true =>
  refine ⟨eqOk_str ho ok_lit, ?_⟩
  show blD (.bl (eqB (.str x) (.str s0))) _
  rw [eqB_str]
  cases decide (x = s0) with
  | true => rfl
  | false => simp; rfl
def riseB (x : Str) : Bool := if Txt.startswith x sM then (!decide (x = sM0) && numB (cutS x (some 1) none)) else numB x
theorem cutS_len (x : Str) (lo hi : Option Int) : (cutS x lo hi).length <= x.length := by
 rw [len_sg, len_sg]
 unfold cutS
 rw [sg_mk, List.length_take, List.length_drop]
 exact Nat.le_trans (Nat.min_le_right _ _) (Nat.sub_le _ _)
theorem cutS_mem {x : Str} {lo hi : Option Int} {ch : Nat} (h : ch ∈ sg (cutS x lo hi)) : ch ∈ sg x := by
 unfold cutS at h
 rw [sg_mk] at h
 exact List.mem_of_mem_drop (List.mem_of_mem_take h)
theorem okS_mem {x : Str} (h : okS x = true) : ∀ ch ∈ sg x, ch < 0x110000 := by
 have h : x.cps.all (· < 0x110000) = true := h
 rw [<- Array.all_toList, List.all_eq_true] at h
 intro ch hc
 exact of_decide_eq_true (h ch hc)
theorem okS_cut {x : Str} (h : okS x = true) (lo hi : Option Int) : okS (cutS x lo hi) = true := okS_of fun ch hc => okS_mem h ch (cutS_mem hc)
theorem sem_is_rise (x : Str) (hx : x.length <= 100000) (ho : okS x = true) : w_is_rise [.str x] (· = .bl (riseB x)) := by
 unfold w_is_rise fnW startE
 rw [List.map_cons, old_str]
 show if Txt.startswith x sM = true then _ else _
 unfold riseB
 cases Txt.startswith x sM with
 | false => exact ⟨rfl, up_of (sem_is_number x hx ho) fun d z => z⟩
 | true =>
  refine ⟨eqOk_str ho ok_lit, ?_⟩
  show blD (.bl (!eqB (.str x) (.str sM0))) _
  rw [eqB_str]
  cases decide (x = sM0) with
  | true => rfl
  | false => exact ⟨hx, rfl, up_of (sem_is_number (cutS x (some 1) none) (Nat.le_trans (cutS_len _ _ _) hx) (okS_cut ho _ _)) fun d z => by subst z; rfl⟩
abbrev kN : Str := "name"
abbrev kC : Str := "number"
abbrev kR : Str := "rise"
def writB (k x : Str) : Bool := if k = kN then nameB x else if k = kC then numB x else riseB x
theorem sem_is_written_as (k x : Str) (hk : okS k = true) (hx : x.length <= 100000) (ho : okS x = true) : w_is_written_as [.str k, .str x] (· = .bl (writB k x)) := by
 unfold w_is_written_as fnW startE
 rw [List.map_cons, List.map_cons, old_str, old_str]
 refine ⟨eqOk_str hk ok_lit, ?_⟩
 show if eqB (.str k) (.str kN) = true then _ else _
 rw [eqB_str]
 unfold writB
 by_cases h : k = kN
 ·rw [if_pos (decide_eq_true h), if_pos h]
  exact ⟨rfl, up_of (sem_is_name x hx) fun d z => z⟩
 ·rw [if_neg (by rw [decide_eq_false h]; decide), if_neg h]
  refine ⟨eqOk_str hk ok_lit, ?_⟩
  show if eqB (.str k) (.str kC) = true then _ else _
  rw [eqB_str]
  by_cases h : k = kC
  ·rw [if_pos (decide_eq_true h), if_pos h]
   exact ⟨rfl, up_of (sem_is_number x hx ho) fun d z => z⟩
  ·rw [if_neg (by rw [decide_eq_false h]; decide), if_neg h]
   exact ⟨rfl, up_of (sem_is_rise x hx ho) fun d z => z⟩
abbrev nS (n : Int) : Str := Str.ofString (toString n)
theorem sg_nat (m : Nat) : sg (nS (m : Int)) = (Nat.toDigits 10 m).map Char.toNat := PySem.W.KIN.signs_num m
theorem digit_sg {m ch : Nat} (h : ch ∈ sg (nS (m : Int))) : 48 <= ch /\ ch <= 57 := by
 rw [sg_nat] at h
 obtain ⟨c, hc, e⟩ := List.mem_map.mp h
 have r := PyProof.Rows.digit_range (Nat.isDigit_of_mem_toDigits (by decide) (by decide) hc)
 rw [<- e]
 exact r
theorem digits_ne (m : Nat) : Nat.toDigits 10 m ≠ [] := fun e => by
 have h := PySem.toDigits_len_ge 10 m
 rw [e] at h
 exact absurd h (by decide)
theorem sw_one (x : Str) (ch : Nat) : Txt.startswith x ⟨#[ch]⟩ = decide ((sg x)[0]? = some ch) := by
 have h := StrLaws.subAt_one x ch 0
 unfold Txt.startswith
 by_cases e : (sg x)[0]? = some ch
 ·obtain ⟨h1, h2⟩ := h.mpr e
  rw [decide_eq_true e, h2, decide_eq_true h1]; rfl
 ·rw [decide_eq_false e]
  cases h3 : decide (0 + (⟨#[ch]⟩ : Str).length <= x.length) with
  | false => rfl
  | true =>
   cases h4 : Builtin.Str.subAt x ⟨#[ch]⟩ 0 with
   | false => rfl
   | true => exact absurd (h.mp ⟨of_decide_eq_true h3, h4⟩) e
theorem s0_is : s0 = ⟨#[48]⟩ := by decide +kernel
theorem sM_is : sM = ⟨#[45]⟩ := by decide +kernel
theorem len_nS {m : Nat} (h : m < 10 ^ 10) : 1 <= (nS (m : Int)).length /\ (nS (m : Int)).length <= 10 := by
 constructor
 ·rw [len_sg, sg_nat, List.length_map]
  cases e : Nat.toDigits 10 m with
  | nil => exact absurd e (digits_ne _)
  | cons c r => simp
 ·exact PySem.W.KT.len_num (by omega) (by exact_mod_cast h)
theorem neg_str (m : Nat) : nS (-((m + 1 : Nat) : Int)) = sM ++ nS ((m + 1 : Nat) : Int) := by
 apply str_ext
 rw [sg_app]
 have e : toString (-((m + 1 : Nat) : Int)) = "-" ++ toString ((m + 1 : Nat) : Int) := rfl
 unfold nS
 rw [e]
 have q : ∀ s t : String, sg (Str.ofString (s ++ t)) = sg (Str.ofString s) ++ sg (Str.ofString t) := fun s t => by
  rw [Str.ofString_eq_toList, Str.ofString_eq_toList, Str.ofString_eq_toList]
  simp
 exact q _ _
theorem neg_sg (m : Nat) : sg (nS (-((m + 1 : Nat) : Int))) = 45 :: sg (nS ((m + 1 : Nat) : Int)) := by
 rw [neg_str, sg_app, sM_is]; rfl
theorem len_nSI {n : Int} (h : n.natAbs < 10 ^ 10) : (nS n).length <= 11 := by
 rcases Int.lt_or_le n 0 with e | e
 ·obtain ⟨m, rfl⟩ : ∃ m : Nat, n = -((m + 1 : Nat) : Int) := ⟨n.natAbs - 1, by omega⟩
  have hl := (len_nS (m := m + 1) (by omega)).2
  rw [len_sg, neg_sg, List.length_cons, <- len_sg]; omega
 ·obtain ⟨m, rfl⟩ := Int.eq_ofNat_of_zero_le e
  have := (len_nS (m := m) (by omega)).2
  omega
theorem sg_nSI {n : Int} {ch : Nat} (hc : ch ∈ sg (nS n)) : ch = 45 \/ (48 <= ch /\ ch <= 57) := by
 rcases Int.lt_or_le n 0 with e | e
 ·obtain ⟨m, rfl⟩ : ∃ m : Nat, n = -((m + 1 : Nat) : Int) := ⟨n.natAbs - 1, by omega⟩
  rw [neg_sg] at hc
  rcases List.mem_cons.mp hc with z | z
  ·exact .inl z
  ·exact .inr (digit_sg z)
 ·obtain ⟨m, rfl⟩ := Int.eq_ofNat_of_zero_le e
  exact .inr (digit_sg hc)
abbrev sB : Str := " "
theorem join_sg (w v : Str) (r : List Str) : sg (Str.join sB (w :: v :: r)) = sg w ++ 32 :: sg (Str.join sB (v :: r)) := by
 show sg (w ++ sB ++ Str.join sB (v :: r)) = _
 rw [sg_app, sg_app]
 have : sg sB = [32] := by decide +kernel
 rw [this, List.append_assoc]; rfl
theorem join_len : ∀ (ws : List Str) (k : Nat), (∀ w ∈ ws, w.length <= k) -> (Str.join sB ws).length <= ws.length * (k + 1)
 | [], k, _ => by show (Str.empty).length <= _; exact Nat.zero_le _
 | [w], k, h => by
  have := h w List.mem_cons_self
  show w.length <= 1 * (k + 1); omega
 | w :: v :: r, k, h => by
  have h1 := h w List.mem_cons_self
  have h2 := join_len (v :: r) k fun x hx => h x (List.mem_cons_of_mem _ hx)
  rw [len_sg] at h1 h2 ⊢
  rw [join_sg, List.length_append, List.length_cons]
  rw [List.length_cons (as := v :: r), Nat.add_mul]
  omega
def partD (p : Str × Str) : D := if p.1 = kN then .str p.2 else .int ((PySem.intText? p.2).getD 0)
theorem zipL_strs : ∀ (ks ts : List Str), zipL (ks.map D.str) (ts.map D.str) = (ks.zip ts).map fun p => .tup [.str p.1, .str p.2]
 | [], _ => by rw [List.map_nil, List.zip_nil_left]; rfl
 | _ :: _, [] => by rw [List.map_nil, List.zip_nil_right]; rfl
 | k :: ks, t :: ts => by
  rw [List.map_cons, List.map_cons, zipL, zipL_strs ks ts, List.zip_cons_cons, List.map_cons]
structure RowOk (w : Str) (ts ks : List Str) : Prop where
 form : kv_FORMS.lookup w = some (.tup (ks.map D.str))
 len : ks.length = ts.length
 oks : ∀ k ∈ ks, okS k = true
 okt : ∀ t ∈ ts, okS t = true /\ t.length <= 640
 few : ts.length <= 1000
 writ : ∀ p ∈ ks.zip ts, writB p.1 p.2 = true
 num : ∀ p ∈ ks.zip ts, p.1 ≠ kN -> ∃ n, PySem.intText? p.2 = some n
theorem at_G {kvs : List (Str × D)} {i : Nat} {ρ : Env} {z : Str} {d : D} {Q : D -> Prop} (hi : ρ[i]? = some (.val (.str z))) (hl : kvs.lookup z = some d) (q : Q d) : ixGW kvs (vW i) ρ Q := by
 unfold ixGW vW lkD opD; simp only [hi, hl]; exact q
theorem in_G {kvs : List (Str × D)} {i : Nat} {ρ : Env} {z : Str} {d : D} {R : Bool -> Prop} (hi : ρ[i]? = some (.val (.str z))) (hl : kvs.lookup z = some d) (q : R false) : blW (inGW true kvs (vW i)) ρ R := by
 unfold blW inGW vW lkD; simp only [hi, hl]; exact q
theorem if_ne0 {A B : WE} {ρ : Env} {x y : D} {Q : Bool -> Prop} (hA : ∀ P : D -> Prop, P x -> A ρ P) (hB : ∀ P : D -> Prop, P y -> B ρ P) (ho : eqOk x y) (q : Q (!eqB x y)) : blW (binW neD A B) ρ Q := hA _ (hB _ ⟨ho, q⟩)
theorem start5 (x : Str) : startE 5 [.str x] = [.val (.str x), .un, .un, .un, .un] := by unfold startE; rw [List.map_cons, old_str]; rfl
theorem compL_in {α : Type} {t : Tg} {C : WT} {E : WE} {ρc : Env} {Q : List D -> Prop} {xs : List D} (emb : α -> D) (g : α -> D) (ys : List α) (e : xs = ys.map emb) (h : ∀ x ∈ ys, Stepc t C E ρc (emb x) (some (g x))) (q : Q (ys.map g)) : compL t C E ρc Q xs [] := e ▸ compL_map emb g ys h q
theorem ok_mem_zip {ks ts : List Str} {p : Str × Str} (h : p ∈ ks.zip ts) : p.1 ∈ ks /\ p.2 ∈ ts := ⟨(List.of_mem_zip h).1, (List.of_mem_zip h).2⟩
theorem ixX_ints {b : Bool} {hs : List Int} {i : Int} {Q : D -> Prop} (h0 : 0 <= i) (h1 : i < hs.length) (q : ∀ k, k ∈ hs -> Q (.int k)) : ixXD (.lst b (hs.map D.int)) (.int i) Q := by
 have hn : i.toNat < hs.length := by omega
 have e : atI (hs.map D.int) i = some (.int hs[i.toNat]) := by
  obtain ⟨j, rfl⟩ := Int.eq_ofNat_of_zero_le h0
  exact atI_nat (by rw [List.getElem?_map, List.getElem?_eq_getElem (by omega)]; rfl)
 show (match atI (hs.map D.int) i with | some d => Q d | none => False)
 rw [e]
 exact q _ (List.getElem_mem hn)
theorem ixX_sign {z : Str} {i : Int} {Q : D -> Prop} (hz : z.length <= 100000) (h0 : 0 <= i) (h1 : i < z.length) (q : ∀ ch, ch ∈ sg z -> Q (.str ⟨#[ch]⟩)) : ixXD (.str z) (.int i) Q := by
 have hn : i.toNat < (sg z).length := by rw [<- len_sg]; omega
 have e : atI (sg z) i = some (sg z)[i.toNat] := by
  obtain ⟨j, rfl⟩ := Int.eq_ofNat_of_zero_le h0
  exact atI_nat (List.getElem?_eq_getElem hn)
 show _ /\ (match atI (sg z) i with | some ch => Q (.str ⟨#[ch]⟩) | none => False)
 rw [e]
 exact ⟨hz, q _ (List.getElem_mem hn)⟩
abbrev sE : Str := ""
theorem joinE_sg : ∀ ts : List Str, sg (Str.join sE ts) = (ts.map sg).flatten
 | [] => rfl
 | [t] => by show sg t = _; simp
 | t :: u :: r => by
  show sg (t ++ sE ++ Str.join sE (u :: r)) = _
  rw [sg_app, sg_app, joinE_sg (u :: r)]
  have : sg sE = [] := by decide +kernel
  rw [this, List.append_nil]; rfl
theorem joinE_chs (cs : List Nat) : sg (Str.join sE (cs.map fun ch => ⟨#[ch]⟩)) = cs := by
 rw [joinE_sg, List.map_map]
 induction cs with
 | nil => rfl
 | cons ch cs ih => rw [List.map_cons, List.flatten_cons, ih]; rfl
theorem name_of {cs : List Nat} (h1 : 1 <= cs.length) (h2 : cs.length <= 8) (h : ∀ ch ∈ cs, ch ∈ sg LET) : nameB (Str.join sE (cs.map fun ch => ⟨#[ch]⟩)) = true := by
 unfold nameB madeB
 rw [len_sg, joinE_chs, decide_eq_true (by omega : 1 <= (cs.length : Int)), decide_eq_true (by omega : (cs.length : Int) <= 8), List.all_eq_true.mpr fun ch hc => decide_eq_true (h ch hc)]
 rfl
def In26 (ns : List Int) : Prop := ∀ n ∈ ns, 0 <= n /\ n < 26
theorem spell {ρ : Env} {n : Bool} {ns : List Int} {i j : Nat} {Q : D -> Prop} (hi : ρ[i]? = some (.val (.lst n (ns.map D.int)))) (hj : ρ[j]? = some (.val (.str LET))) (h26 : In26 ns) (h1 : 1 <= ns.length) (h2 : ns.length <= 8) (q : ∀ x, nameB x = true -> Q (.str x)) :
  smW joF (kW (.str sE)) (valW (lcompW [none, some j] (seqXI (vW i)) (.nm 0) noIf (binW ixXD (vW 1) (vW 0)))) ρ Q := by
 show (vW i ρ fun d => seqXD d _)
 refine use_v hi ?_
 refine ⟨by rw [List.length_map]; omega, ?_⟩
 have := compL_any (t := .nm 0) (C := noIf) (E := binW ixXD (vW 1) (vW 0)) (ρc := subE [none, some j] ρ) (Q := fun xs => joF sE (.lst true xs) Q) D.int (fun ch : Nat => D.str ⟨#[ch]⟩) (fun _ ch => ch ∈ sg LET) ns [] (fun x hx Y y => by
  have e : (subE [none, some j] ρ)[1]? = some (.val (.str LET)) := by
   unfold subE
   simp only [List.map_cons, List.map_nil, List.getElem?_cons_succ, List.getElem?_cons_zero]
   rw [hj]
  have e2 : ((subE [none, some j] ρ).set 0 (.val (.int x)))[1]? = some (.val (.str LET)) := by rw [List.getElem?_set_ne (by decide)]; exact e
  refine ⟨rfl, use_v e2 (use_v (d := .int x) (by unfold subE; rfl) ?_)⟩
  have hl : (LET : Str).length = 26 := by decide +kernel
  exact ixX_sign (by rw [hl]; decide) (h26 x hx).1 (by rw [hl]; exact (h26 x hx).2) fun ch hc => y ch hc) noIf_mono (fun zs hl hz => by
  have hc : ∀ z ∈ zs, z ∈ sg LET := fun z hz' => by obtain ⟨x, _, h⟩ := hz z hz'; exact h
  refine ⟨zs.map fun ch => ⟨#[ch]⟩, by simp, fun t ht => ?_, by rw [List.length_map]; omega, by decide +kernel, q _ (name_of (by omega) (by omega) hc)⟩
  obtain ⟨ch, _, rfl⟩ := List.mem_map.mp ht
  show 1 <= 2000; decide)
 exact this
theorem startE2 (d e : D) (n : Nat) : startE (n + 2) [d, e] = .val d.old :: .val e.old :: List.replicate n .un := by unfold startE; rfl
theorem startE1 (d : D) (n : Nat) : startE (n + 1) [d] = .val d.old :: List.replicate n .un := by unfold startE; rfl
theorem names_rest {E : En} {m size k : Int} {like : Bool} {fs ns : List Int} {rows : List Str} {pl : Nat} (hpl : pl < ns.length) (h8 : ns.length <= 8) (hf : pl < fs.length) (f26 : In26 fs) (n26 : In26 ns) (hr : rows.length < 1000)
  (q : ∀ x d, nameB x = true -> E.nx [.val .box, .val (.int m), .val (.str LET), .val (.int size), .val (.int pl), .val (.bl like), .val (.lst true (fs.map D.int)), .own ((rows ++ [x]).map D.str), .val (.int k), d]) :
  seqW (putW 9 (vW 4) (binW modD (binW addD (binW ixXD (vW 6) (vW 4)) (binW mulD (kW (.int 11)) (vW 8))) (kW (.int 26))))
   (frzW 9 (appW 7 (smW joF (kW (.str sE)) (valW (lcompW [none, some 2] (seqXI (vW 9)) (.nm 0) noIf (binW ixXD (vW 1) (vW 0))))))) E
   [.val .box, .val (.int m), .val (.str LET), .val (.int size), .val (.int pl), .val (.bl like), .val (.lst true (fs.map D.int)), .own (rows.map D.str), .val (.int k), .own (ns.map D.int)] := by
 refine ixX_ints (b := true) (i := (pl : Int)) (by omega) (by omega) fun a ha => ?_
 refine ⟨.inl ⟨by decide, by decide⟩, by decide, ?_⟩
 have e : ixN (ns.map D.int).length (pl : Int) = some pl := by
  unfold ixN; rw [List.length_map, if_pos (by omega), if_pos (by omega)]; simp
 show (match ixN (ns.map D.int).length (pl : Int) with | some m => _ | none => False)
 rw [e]
 have hv : 0 <= (a + 11 * k) % 26 /\ (a + 11 * k) % 26 < 26 := ⟨Int.emod_nonneg _ (by decide), Int.emod_lt_of_pos _ (by decide)⟩
 have es : (ns.map D.int).set pl (.int ((a + 11 * k) % 26)) = (ns.set pl ((a + 11 * k) % 26)).map D.int := List.map_set.symm
 show frzW 9 (appW 7 (smW joF (kW (.str sE)) (valW (lcompW [none, some 2] (seqXI (vW 9)) (.nm 0) noIf (binW ixXD (vW 1) (vW 0)))))) E [.val .box, .val (.int m), .val (.str LET), .val (.int size), .val (.int pl), .val (.bl like), .val (.lst true (fs.map D.int)), .own (rows.map D.str), .val (.int k), .own ((ns.map D.int).set pl (.int ((a + 11 * k) % 26)))]
 rw [es]
 show smW joF (kW (.str sE)) (valW (lcompW [none, some 2] (seqXI (vW 9)) (.nm 0) noIf (binW ixXD (vW 1) (vW 0)))) [.val .box, .val (.int m), .val (.str LET), .val (.int size), .val (.int pl), .val (.bl like), .val (.lst true (fs.map D.int)), .own (rows.map D.str), .val (.int k), .val (.lst true ((ns.set pl ((a + 11 * k) % 26)).map D.int))] _
 refine spell (i := 9) (j := 2) rfl rfl (fun n hn => ?_) (by rw [List.length_set]; omega) (by rw [List.length_set]; omega) fun x hx => ?_
 ·rcases List.mem_or_eq_of_mem_set hn with h | h
  ·exact n26 n h
  ·rw [h]; exact hv
 ·refine ⟨by rw [List.length_map]; omega, ?_⟩
  have := q x (.val (.lst true ((ns.set pl ((a + 11 * k) % 26)).map D.int))) hx
  rw [List.map_append] at this
  exact this
theorem draw26 {ρ : Env} {j : Nat} {n : Nat} {Q : List D -> Prop} (hj : ρ[j]? = some (.val .box)) (hn : n <= 1000) (q : ∀ ns : List Int, ns.length = n -> In26 ns -> Q (ns.map D.int)) :
  (rngL 0 n).length <= 100000 /\ compL (.nm 0) noIf (callW 2 w__law_take (consA (vW 1) (consA (kW (.int 26)) nilA))) (subE [none, some j] ρ) Q (rngL 0 n) [] := by
 refine ⟨by rw [rngL_length]; omega, ?_⟩
 rw [rngL_map]
 have := compL_any (t := .nm 0) (C := noIf) (E := callW 2 w__law_take (consA (vW 1) (consA (kW (.int 26)) nilA))) (ρc := subE [none, some j] ρ) (Q := Q) (fun k : Nat => D.int (k : Int)) D.int (fun _ x => 0 <= x /\ x < 26) (List.range n) [] (fun x hx Y y => by
  have e : (subE [none, some j] ρ)[1]? = some (.val .box) := by
   unfold subE
   simp only [List.map_cons, List.map_nil, List.getElem?_cons_succ, List.getElem?_cons_zero]
   rw [hj]
  have e2 : ((subE [none, some j] ρ).set 0 (.val (.int x)))[1]? = some (.val .box) := by rw [List.getElem?_set_ne (by decide)]; exact e
  exact ⟨rfl, use_v e2 ⟨rfl, use_take (by decide) (by decide) fun z z0 z1 => y z ⟨z0, z1⟩⟩⟩) noIf_mono (fun zs hl hz => q zs (by rw [hl, List.length_range]) fun z hz' => by obtain ⟨x, _, h⟩ := hz z hz'; exact h)
 exact this
theorem sem_names (m : Int) (m0 : 0 <= m) (m1 : m <= 100) : w__law_names [.box, .int m] (fun d => ∃ ns : List Str, d = .lst true (ns.map D.str) /\ (ns.length : Int) = m /\ ∀ x ∈ ns, nameB x = true) := by
 unfold w__law_names fnW
 rw [startE2 .box (.int m) 8, old_box, old_int]
 refine ⟨rfl, use_take (by decide) (by decide) fun a a0 a1 => ?_⟩
 refine ⟨rfl, use_take (by omega) (by omega) fun p p0 p1 => ?_⟩
 refine ⟨rfl, use_take (by decide) (by decide) fun l l0 l1 => ⟨eqOk_int _ _, ?_⟩⟩
 generalize eqB (.int l) (.int 0) = like
 refine ⟨⟨by omega, by omega⟩, ?_⟩
 refine draw26 (j := 0) (n := (1 + a).toNat) rfl (by omega) fun fs fl f26 => ?_
 refine ⟨Nat.zero_le _, ⟨by omega, by omega⟩, ?_⟩
 obtain ⟨pl, rfl⟩ := Int.eq_ofNat_of_zero_le p0
 refine loop_inv (fun rest ρ => ∃ (rows : List Str) (s8 s9 : Sl), ρ = [.val .box, .val (.int m), .val (.str LET), .val (.int (1 + a)), .val (.int (pl : Int)), .val (.bl like), .val (.lst true (fs.map D.int)), .own (rows.map D.str), s8, s9] /\ (rows.length + rest.length : Int) = m /\ (∀ x ∈ rows, nameB x = true) /\ ∀ d ∈ rest, ∃ k, d = .int k) ?_ ?_ _ _ ⟨[], .un, .un, rfl, by rw [rngL_length]; show (0 : Int) + (m.toNat : Int) = m; omega, (fun x h => by cases h), fun d hd => by obtain ⟨k, e, _⟩ := rngL_mem hd; exact ⟨k, e⟩⟩
 ·rintro k rest ρ E' hn hc hr hb ⟨rows, s8, s9, rfl, hl, hx, hk⟩
  obtain ⟨k, rfl⟩ := hk k List.mem_cons_self
  have h00 : (0 : Int) <= (D.int k :: rest).length := by omega
  have hl' : (rows.length : Int) < 1000 := by omega
  have fin : ∀ ns : List Int, pl < ns.length -> ns.length <= 8 -> In26 ns -> seqW (putW 9 (vW 4) (binW modD (binW addD (binW ixXD (vW 6) (vW 4)) (binW mulD (kW (.int 11)) (vW 8))) (kW (.int 26))))
   (frzW 9 (appW 7 (smW joF (kW (.str sE)) (valW (lcompW [none, some 2] (seqXI (vW 9)) (.nm 0) noIf (binW ixXD (vW 1) (vW 0))))))) E'
   [.val .box, .val (.int m), .val (.str LET), .val (.int (1 + a)), .val (.int (pl : Int)), .val (.bl like), .val (.lst true (fs.map D.int)), .own (rows.map D.str), .val (.int k), .own (ns.map D.int)] := fun ns h1 h2 h3 =>
   names_rest h1 h2 (by omega) f26 h3 (by omega) fun x d hxx => hn _ ⟨rows ++ [x], .val (.int k), d, rfl, by rw [List.length_append, List.length_singleton]; rw [List.length_cons] at hl; omega, fun y hy => (List.mem_append.mp hy).elim (hx y) (fun z => by rw [List.mem_singleton.mp z]; exact hxx), fun d hd => hk d (List.mem_cons_of_mem _ hd)⟩
  cases like with
  | true => exact fin fs (by omega) (by omega) f26
  | false =>
   refine ⟨rfl, use_take (by omega) (by omega) fun t t0 t1 => ⟨⟨by omega, by omega⟩, ?_⟩⟩
   exact draw26 (j := 0) (n := (((pl : Int) + 1) + t).toNat) rfl (by omega) fun ns nl n26 => fin ns (by omega) (by omega) n26
 ·rintro ρ ⟨rows, s8, s9, rfl, hl, hx, hk⟩
  exact ⟨rows, rfl, by simpa using hl, hx⟩
theorem name_in {x : Str} (h : nameB x = true) : x.length <= 8 /\ ∀ ch ∈ sg x, 97 <= ch /\ ch <= 122 := by
 unfold nameB madeB at h
 rw [Bool.and_eq_true, Bool.and_eq_true] at h
 have h2 := of_decide_eq_true h.1.2
 exact ⟨by omega, fun ch hc => (mem_let ch).mp (of_decide_eq_true (List.all_eq_true.mp h.2 ch hc))⟩
theorem join_mem : ∀ {ws : List Str} {ch : Nat}, ch ∈ sg (Str.join sB ws) -> ch = 32 \/ ∃ w ∈ ws, ch ∈ sg w
 | [], ch, h => by have h : ch ∈ sg Str.empty := h; exact absurd h (by simp [Str.empty])
 | [w], ch, h => .inr ⟨w, List.mem_cons_self, h⟩
 | w :: v :: r, ch, h => by
  rw [join_sg] at h
  rcases List.mem_append.mp h with h | h
  ·exact .inr ⟨w, List.mem_cons_self, h⟩
  ·rcases List.mem_cons.mp h with h | h
   ·exact .inl h
   ·rcases join_mem h with h | ⟨u, hu, h⟩
    ·exact .inl h
    ·exact .inr ⟨u, List.mem_cons_of_mem _ hu, h⟩
theorem strs3 {ns : List Str} (h : (ns.length : Int) = 3) : ∃ x y z, ns = [x, y, z] := by
 match ns, h with
 | [x, y, z], _ => exact ⟨x, y, z, rfl⟩
theorem sem_named (x : Str) (hx : x.length <= 100000) : w__law_named [.str x] (· = .bl (nameB x)) := by
 unfold w__law_named fnW startE
 rw [List.map_cons, old_str]
 refine ⟨hx, use_le ?_⟩
 unfold nameB madeB
 cases decide (1 <= (x.length : Int)) with
 | false => rfl
 | true =>
  refine bl_t (ite_t (use_le ?_))
  cases decide ((x.length : Int) <= 8) with
  | false => rfl
  | true =>
   show _ /\ compL _ _ _ _ _ (chs x) []
   refine ⟨by unfold chs; rw [List.length_map, <- len_sg]; exact hx, ?_⟩
   unfold chs
   refine compL_map (fun ch => D.str ⟨#[ch]⟩) (fun ch => .bl (decide (ch ∈ sg LET))) (sg x) (fun ch _ Y N y => ?_) ?_
   ·show Y (.bl (if false = true then !hasS LET ⟨#[ch]⟩ else hasS LET ⟨#[ch]⟩))
    rw [if_neg (by decide), has_one]
    exact y
   ·exact allF_map (f := fun ch => decide (ch ∈ sg LET)) (xs := sg x) (n := true) (by simp)
theorem sg1 {ch : Nat} (h : ch < 0x110000) : okS ⟨#[ch]⟩ = true := okS_of fun c hc => by
 have : c = ch := by simpa using hc
 omega
theorem ixX_at {z : Str} {i ch : Nat} {Q : D -> Prop} (hz : z.length <= 100000) (h : (sg z)[i]? = some ch) (q : Q (.str ⟨#[ch]⟩)) : ixXD (.str z) (.int (i : Int)) Q := by
 show _ /\ (match atI (sg z) (i : Int) with | some ch => Q (.str ⟨#[ch]⟩) | none => False)
 rw [atI_nat h]
 exact ⟨hz, q⟩
theorem ixX_lst {xs : List D} {b : Bool} {i : Nat} {d : D} {Q : D -> Prop} (h : xs[i]? = some d) (q : Q d) : ixXD (.lst b xs) (.int (i : Int)) Q := by
 show (match atI xs (i : Int) with | some d => Q d | none => False)
 rw [atI_nat h]
 exact q
theorem one_eq (a b : Nat) : decide ((⟨#[a]⟩ : Str) = ⟨#[b]⟩) = decide (a = b) := by
 by_cases h : a = b
 ·rw [h, decide_eq_true rfl, decide_eq_true rfl]
 ·rw [decide_eq_false h, decide_eq_false fun z => h (by injection z with z; simpa using congrArg Array.toList z)]
theorem sem_isnum (x : Str) (hx : x.length <= 100000) (ho : okS x = true) : w__law_is_number [.str x] (· = .bl (numB x)) := by
 unfold w__law_is_number fnW startE
 rw [List.map_cons, old_str]
 refine ⟨hx, use_le ?_⟩
 unfold numB madeB
 cases h1 : decide (1 <= (x.length : Int)) with
 | false => rfl
 | true =>
  refine bl_t (ite_t (use_le ?_))
  cases decide ((x.length : Int) <= 10) with
  | false => rfl
  | true =>
   show _ /\ compL _ _ _ _ _ (chs x) []
   refine ⟨by unfold chs; rw [List.length_map, <- len_sg]; exact hx, ?_⟩
   unfold chs
   refine compL_map (fun ch => D.str ⟨#[ch]⟩) (fun ch => .bl (decide (ch ∈ sg FIG))) (sg x) (fun ch _ Y N y => ?_) ?_
   ·show Y (.bl (if false = true then !hasS FIG ⟨#[ch]⟩ else hasS FIG ⟨#[ch]⟩))
    rw [if_neg (by decide), has_one]
    exact y
   ·refine allF_map (f := fun ch => decide (ch ∈ sg FIG)) (xs := sg x) (n := true) ?_
    cases (sg x).all fun ch => decide (ch ∈ sg FIG) with
    | false => rfl
    | true =>
     refine ⟨eqOk_str ho ok_lit, ?_⟩
     show blD (.bl (eqB (.str x) (.str s0))) _
     rw [eqB_str]
     cases hx0 : decide (x = s0) with
     | true => rfl
     | false =>
      have hl : 0 < (sg x).length := by have := of_decide_eq_true h1; rw [<- len_sg]; omega
      have e0 : (sg x)[0]? = some (sg x)[0] := List.getElem?_eq_getElem hl
      refine bl_t ?_
      rw [if_neg (by decide)]
      refine use_v (d := .str x) rfl ?_
      show ixXD (.str x) (.int ((0 : Nat) : Int)) _
      refine ixX_at hx e0 ?_
      refine ⟨eqOk_str (sg1 (okS_mem ho _ (List.getElem_mem hl))) ok_lit, ?_⟩
      rw [eqB_str, show (Str.ofString "0" : Str) = ⟨#[48]⟩ from s0_is, one_eq, s0_is, sw_one, e0]
      simp
def sgK (ch : Nat) : Str := if ch = 110 then kN else if ch = 99 then kC else kR
def lawP (ch : Nat) (x : Str) : D := if writB (sgK ch) x then partD (sgK ch, x) else .non
theorem made_fig {x : Str} {n : Int} (h : madeB x FIG n = true) : 1 <= x.length /\ ∀ ch ∈ sg x, 48 <= ch /\ ch <= 57 := by
 unfold madeB at h
 simp only [Bool.and_eq_true, decide_eq_true_eq, List.all_eq_true] at h
 exact ⟨by omega, fun ch hc => (mem_fig ch).mp (h.2 ch hc)⟩
theorem num_dig {x : Str} (h : numB x = true) : 1 <= x.length /\ ∀ ch ∈ sg x, 48 <= ch /\ ch <= 57 := by
 unfold numB at h
 exact made_fig (Bool.and_eq_true_iff.mp h).1
theorem num_int {x : Str} (h : numB x = true) (hl : x.length <= 640) : ∃ n, PySem.intText? x = some n := by
 obtain ⟨h1, h2⟩ := num_dig h
 exact ⟨_, PySem.intText_digits h2 (fun z => by rw [len_sg] at h1; rw [show sg x = [] from z] at h1; simp at h1) (by omega)⟩
theorem cut1 {x : Str} {ch : Nat} {cs : List Nat} (h : sg x = ch :: cs) : sg (cutS x (some 1) none) = cs /\ cutS x none (some 1) = ⟨#[ch]⟩ := by
 have hl : x.length = cs.length + 1 := by rw [len_sg, h]; rfl
 have h' : x.cps.toList = ch :: cs := h
 have e : ∀ d, HT.sIx (cs.length + 1) d (some 1) = 1 := fun d => (HT.sIx_nat (cs.length + 1) d 1).trans (by omega)
 constructor
 ·unfold cutS
  rw [sg_mk, h', hl, e]
  show List.take (cs.length + 1 - 1) cs = cs
  exact List.take_of_length_le (by simp)
 ·unfold cutS
  rw [h', hl, e]
  rfl
theorem head_of {x : Str} {ch : Nat} (hs : Txt.startswith x ⟨#[ch]⟩ = true) : ∃ cs, sg x = ch :: cs := by
 rw [sw_one] at hs
 have hs := of_decide_eq_true hs
 cases e : sg x with
 | nil => rw [e] at hs; cases hs
 | cons a cs => rw [e] at hs; simp at hs; exact ⟨cs, by rw [hs]⟩
theorem neg_int {x : Str} (hs : Txt.startswith x sM = true) (h : numB (cutS x (some 1) none) = true) (hl : x.length <= 640) : ∃ n : Int, PySem.intText? (cutS x (some 1) none) = some n /\ PySem.intText? x = some (-n) := by
 rw [sM_is] at hs
 obtain ⟨cs, hc⟩ := head_of hs
 obtain ⟨h1, h2⟩ := num_dig h
 have hc1 := (cut1 hc).1
 have hz := cutS_len x (some 1) none
 have ne : sg (cutS x (some 1) none) ≠ [] := fun z => by rw [len_sg, z] at h1; simp at h1
 refine ⟨_, PySem.intText_digits h2 ne (by omega), ?_⟩
 rw [show (cutS x (some 1) none).cps.toList = cs from hc1]
 rw [hc1] at h2 ne
 exact PySem.intText_neg hc h2 ne (by omega)
theorem minus_num {x : Str} (hs : Txt.startswith x sM = true) : numB x = false := by
 rw [sM_is] at hs
 obtain ⟨cs, hc⟩ := head_of hs
 cases h : numB x with
 | false => rfl
 | true =>
  have := (num_dig h).2 45 (by rw [hc]; simp)
  omega
theorem minus_cut (x : Str) : decide (cutS x none (some 1) = sM) = Txt.startswith x sM := by
 rw [sM_is, sw_one]
 cases e : sg x with
 | nil =>
  have : cutS x none (some 1) ≠ ⟨#[45]⟩ := fun z => by
   have := cutS_mem (x := x) (lo := none) (hi := some 1) (ch := 45) (by rw [z]; simp)
   rw [e] at this; cases this
  rw [decide_eq_false this]; rfl
 | cons a cs =>
  rw [(cut1 e).2, one_eq]
  simp
theorem int_txt {x : Str} {n : Int} {Q : D -> Prop} (hl : x.length <= 640) (h : PySem.intText? x = some n) (q : Q (.int n)) : intXF [.str x] Q := by
 refine ⟨hl, ?_⟩
 rw [h]; exact q
theorem int_bl {b : Bool} {Q : D -> Prop} (q : Q (.int (if b then 1 else 0))) : intXF [.bl b] Q := q
def Sign (ch : Nat) : Prop := ch = 110 \/ ch = 99 \/ ch = 114
theorem nS_is : (("n" : String) : Str) = ⟨#[110]⟩ := by decide +kernel
theorem rS_is : (("r" : String) : Str) = ⟨#[114]⟩ := by decide +kernel
theorem writ_int {ch : Nat} {x : Str} (h : sgK ch ≠ kN) (hw : writB (sgK ch) x = true) (hl : x.length <= 640) : ∃ n, PySem.intText? x = some n := by
 unfold writB at hw
 rw [if_neg h] at hw
 split at hw
 ·exact num_int hw hl
 ·unfold riseB at hw
  split at hw
  ·rename_i hs
   obtain ⟨n, _, h2⟩ := neg_int hs (Bool.and_eq_true_iff.mp hw).2 hl
   exact ⟨_, h2⟩
  ·exact num_int hw hl
theorem sem_part {ch : Nat} {x : Str} (hs : Sign ch) (hl : x.length <= 640) (ho : okS x = true) : w__law_part [.str ⟨#[ch]⟩, .str x] (· = lawP ch x) := by
 have oc : okS ⟨#[ch]⟩ = true := sg1 (by rcases hs with rfl | rfl | rfl <;> decide)
 unfold w__law_part fnW startE
 rw [List.map_cons, List.map_cons, old_str, old_str]
 refine ⟨eqOk_str oc ok_lit, ?_⟩
 show if eqB (.str ⟨#[ch]⟩) (.str "n") = true then _ else _
 rw [eqB_str, nS_is, one_eq]
 have third : sgK ch ≠ kN -> writB (sgK ch) x = numB x -> ifS (truW (callW 1 w__law_is_number (consA (vW 1) nilA))) (retW (cbW intXF (consA (vW 1) nilA))) nilS { nx := retW (kW .non) { nx := fun _ => (fun d => d = lawP ch x) .non, rt := fun d => d = lawP ch x, bk := fun _ => False, ct := fun _ => False }, rt := fun d => d = lawP ch x, bk := fun _ => False, ct := fun _ => False } [.val (.str ⟨#[ch]⟩), .val (.str x)] := fun hk hw => by
  refine ⟨rfl, up_of (sem_isnum x (by omega) ho) fun d hd => ?_⟩
  subst hd
  show if numB x = true then _ else _
  cases hb : numB x with
  | true =>
   obtain ⟨n, hn⟩ := num_int hb hl
   refine int_txt hl hn ?_
   show D.int n = lawP ch x
   unfold lawP partD
   rw [hw, hb, if_pos rfl, if_neg hk, hn]; rfl
  | false =>
   show D.non = lawP ch x
   unfold lawP
   rw [hw, hb]; rfl
 by_cases h1 : ch = 110
 ·rw [if_pos (decide_eq_true h1)]
  have ek : sgK ch = kN := by unfold sgK; rw [if_pos h1]
  refine ⟨by show 2 <= 100000; decide, rfl, up_of (sem_named x (by omega)) fun d hd => ?_⟩
  subst hd
  have hw : writB (sgK ch) x = nameB x := by rw [ek]; rfl
  cases hb : nameB x with
  | true =>
   refine int_bl (b := true) ?_
   show ixXD (.lst true [.non, .str x]) (.int ((1 : Nat) : Int)) _
   refine ixX_lst (d := .str x) rfl ?_
   show D.str x = lawP ch x
   unfold lawP partD
   rw [hw, hb, if_pos rfl, if_pos ek]
  | false =>
   refine int_bl (b := false) ?_
   show ixXD (.lst true [.non, .str x]) (.int ((0 : Nat) : Int)) _
   refine ixX_lst (d := .non) rfl ?_
   show D.non = lawP ch x
   unfold lawP
   rw [hw, hb]; rfl
 ·rw [if_neg (by rw [decide_eq_false h1]; decide)]
  have hk : sgK ch ≠ kN := by
   unfold sgK
   rw [if_neg h1]
   split <;> decide +kernel
  refine ⟨eqOk_str oc ok_lit, ?_⟩
  rw [eqB_str, rS_is, one_eq]
  by_cases h2 : ch = 114
  ·rw [decide_eq_true h2]
   have ek : sgK ch = kR := by unfold sgK; rw [h2]; rfl
   have hw : writB (sgK ch) x = riseB x := by rw [ek]; unfold writB; rw [if_neg (by decide +kernel), if_neg (by decide +kernel)]
   refine ⟨by omega, eqOk_str (okS_cut ho _ _) ok_lit, ?_⟩
   rw [eqB_str, show decide (cutS x none (some 1) = "-") = _ from minus_cut x]
   cases hm : Txt.startswith x sM with
   | false => exact third hk (by rw [hw]; unfold riseB; rw [hm]; rfl)
   | true =>
    refine ⟨eqOk_str ho ok_lit, ?_⟩
    rw [eqB_str]
    cases h0 : decide (x = sM0) with
    | true => exact third hk (by rw [hw, minus_num hm]; unfold riseB; rw [if_pos hm, h0]; rfl)
    | false =>
     refine ⟨by omega, rfl, up_of (sem_isnum (cutS x (some 1) none) (Nat.le_trans (cutS_len _ _ _) (by omega)) (okS_cut ho _ _)) fun d hd => ?_⟩
     subst hd
     cases hb : numB (cutS x (some 1) none) with
     | false => exact third hk (by rw [hw, minus_num hm]; unfold riseB; rw [if_pos hm, hb, Bool.and_false])
     | true =>
      obtain ⟨n, hn1, hn2⟩ := neg_int hm hb hl
      refine ⟨by omega, int_txt (Nat.le_trans (cutS_len _ _ _) hl) hn1 ?_⟩
      show D.int (-n) = lawP ch x
      have hr : riseB x = true := by unfold riseB; rw [if_pos hm, h0, hb]; rfl
      unfold lawP partD
      rw [hw, hr, if_pos rfl, if_neg hk, hn2]; rfl
  ·rw [decide_eq_false h2]
   have h3 : ch = 99 := by rcases hs with h | h | h <;> omega
   exact third hk (by unfold sgK; rw [h3]; rfl)
abbrev SH : List (Str × Str) := [("mark", "n"), ("hand", "n"), ("run", "nnrn"), ("strike", "c"), ("mend", "cr"), ("settle", "n"), ("aside", "n"), ("heed", "n"), ("allow", "c")]
structure Form (w : Str) (cs : List Nat) : Prop where
 shape : (shV SH w).getD sE = ⟨cs.toArray⟩
 ne : cs ≠ []
 sign : ∀ ch ∈ cs, Sign ch
 few : cs.length <= 4
 form : kv_FORMS.lookup w = some (.tup ((cs.map sgK).map D.str))
theorem form_n {w : Str} (h1 : (shV SH w).getD sE = ⟨#[110]⟩) (h2 : kv_FORMS.lookup w = some (.tup [.str kN])) : Form w [110] := ⟨h1, by decide, fun ch h => by simp at h; exact .inl h, by decide, h2⟩
theorem form_c {w : Str} (h1 : (shV SH w).getD sE = ⟨#[99]⟩) (h2 : kv_FORMS.lookup w = some (.tup [.str kC])) : Form w [99] := ⟨h1, by decide, fun ch h => by simp at h; exact .inr (.inl h), by decide, h2⟩
theorem table (w : Str) : (∃ cs, Form w cs) \/ ((shV SH w).getD sE = sE /\ kv_FORMS.lookup w = none) := by
 by_cases h1 : w = "mark"
 ·exact .inl ⟨_, form_n (by rw [h1]; decide +kernel) (by rw [h1]; rfl)⟩
 by_cases h2 : w = "hand"
 ·exact .inl ⟨_, form_n (by rw [h2]; decide +kernel) (by rw [h2]; rfl)⟩
 by_cases h3 : w = "run"
 ·exact .inl ⟨[110, 110, 114, 110], by rw [h3]; decide +kernel, by decide, fun ch h => by simp at h; unfold Sign; omega, by decide, by rw [h3]; rfl⟩
 by_cases h4 : w = "strike"
 ·exact .inl ⟨_, form_c (by rw [h4]; decide +kernel) (by rw [h4]; rfl)⟩
 by_cases h5 : w = "mend"
 ·exact .inl ⟨[99, 114], by rw [h5]; decide +kernel, by decide, fun ch h => by simp at h; unfold Sign; omega, by decide, by rw [h5]; rfl⟩
 by_cases h6 : w = "settle"
 ·exact .inl ⟨_, form_n (by rw [h6]; decide +kernel) (by rw [h6]; rfl)⟩
 by_cases h7 : w = "aside"
 ·exact .inl ⟨_, form_n (by rw [h7]; decide +kernel) (by rw [h7]; rfl)⟩
 by_cases h8 : w = "heed"
 ·exact .inl ⟨_, form_n (by rw [h8]; decide +kernel) (by rw [h8]; rfl)⟩
 by_cases h9 : w = "allow"
 ·exact .inl ⟨_, form_c (by rw [h9]; decide +kernel) (by rw [h9]; rfl)⟩
 refine .inr ⟨?_, ?_⟩
 ·unfold shV SH
  simp only [List.foldl_cons, List.foldl_nil, if_neg h1, if_neg h2, if_neg h3, if_neg h4, if_neg h5, if_neg h6, if_neg h7, if_neg h8, if_neg h9]
  rfl
 ·have b : ∀ {z : Str}, w ≠ z -> (w == z) = false := fun h => beq_eq_false_iff_ne.mpr h
  unfold kv_FORMS
  simp only [List.lookup_cons, b h1, b h2, b h3, b h4, b h5, b h6, b h7, b h8, b h9]
  rfl
theorem in_join : ∀ {ws : List Str} {w : Str}, w ∈ ws -> w.length <= (Str.join sB ws).length /\ ∀ ch ∈ sg w, ch ∈ sg (Str.join sB ws)
 | [w'], w, h => by
  rw [List.mem_singleton.mp h]
  exact ⟨Nat.le_refl _, fun _ h => h⟩
 | a :: v :: r, w, h => by
  rw [len_sg (Str.join sB (a :: v :: r)), join_sg, List.length_append, List.length_cons]
  rcases List.mem_cons.mp h with e | e
  ·rw [e, len_sg]
   exact ⟨by omega, fun _ h => List.mem_append_left _ h⟩
  ·obtain ⟨h1, h2⟩ := in_join e
   rw [len_sg (Str.join sB (v :: r))] at h1
   exact ⟨by omega, fun ch hc => List.mem_append_right _ (List.mem_cons_of_mem _ (h2 ch hc))⟩
theorem split_in {x : Str} : (∃ w ts, Txt.split x sB = w :: ts) /\ ∀ w ∈ Txt.split x sB, w.length <= x.length /\ ∀ ch ∈ sg w, ch ∈ sg x := by
 constructor
 ·cases e : Txt.split x sB with
  | nil =>
   have := PyProof.Rows.split_pos x sB
   rw [e] at this
   exact absurd this (by decide)
  | cons w ts => exact ⟨w, ts, rfl⟩
 ·intro w hw
  have := in_join hw
  rw [show Str.join sB (Txt.split x sB) = x from StrLaws.join_split _ _] at this
  exact this
structure Row4 (w : Str) (ts ks : List Str) : Prop where
 form : kv_FORMS.lookup w = some (.tup (ks.map D.str))
 len : ks.length = ts.length
 oks : ∀ k ∈ ks, okS k = true
 okt : ∀ t ∈ ts, okS t = true /\ t.length <= 640
 few : ts.length <= 1000
theorem sem_deedX_ok {x w : Str} {ts ks : List Str} (hx : x.length <= 100000) (hs : Txt.split x sB = w :: ts) (h : RowOk w ts ks) : w_deed_ofX [.str x] (· = .tup (.str w :: (ks.zip ts).map partD)) (fun _ => False) := by
 unfold w_deed_ofX fnWX
 rw [start5]
 have hf := h.few
 have hzl : (ks.zip ts).length <= 100000 := by rw [List.length_zip]; omega
 have hkl := h.len
 refine ⟨⟨by decide +kernel, hx⟩, ?_⟩
 rw [hs]
 refine ⟨by rw [List.length_map]; omega, ?_⟩
 dsimp only [seqW, ifS, orT, List.set]
 refine in_G (i := 1) ?_ h.form ?_
 ·rfl
 refine if_ne0 (x := .int ks.length) (y := .int ts.length) (fun P q => ?_) (fun P q => ?_) (eqOk_int _ _) ?_
 ·refine at_G (i := 1) ?_ h.form ?_
  ·rfl
  show P (.int (ks.map D.str).length)
  rw [List.length_map]; exact q
 ·show P (.int (ts.map D.str).length)
  rw [List.length_map]; exact q
 rw [eqB_int, hkl, decide_eq_true rfl]
 rw [if_neg (by decide)]
 dsimp only [nilS, seqW, asgW]
 refine at_G (i := 1) ?_ h.form ?_
 ·rfl
 refine ⟨by rw [zipL_strs, List.length_map]; exact hzl, compL_in (fun p => .tup [.str p.1, .str p.2]) (fun p => .bl (writB p.1 p.2)) (ks.zip ts) (zipL_strs ks ts) (fun p hp Y N y => ⟨rfl, rfl, up_of (sem_is_written_as p.1 p.2 (h.oks _ (ok_mem_zip hp).1) (by have := (h.okt _ (ok_mem_zip hp).2).2; omega) (h.okt _ (ok_mem_zip hp).2).1) fun d hd => by subst hd; exact y⟩) ?_⟩
 refine allF_map (f := fun p : Str × Str => writB p.1 p.2) (xs := ks.zip ts) (n := true) ?_
 rw [show ((ks.zip ts).all fun p => writB p.1 p.2) = true from List.all_eq_true.mpr h.writ]
 refine ⟨by rw [zipL_strs, List.length_map]; exact hzl, compL_in (fun p => .tup [.str p.1, .str p.2]) partD (ks.zip ts) (zipL_strs ks ts) (fun p hp Y N y => ⟨rfl, eqOk_str (h.oks _ (ok_mem_zip hp).1) ok_lit, ?_⟩) ?_⟩
 ·show if eqB (.str p.1) (.str kN) = true then Y (.str p.2) else _
  rw [eqB_str]
  have y : Y (partD p) := y
  unfold partD at y
  by_cases hk : p.1 = kN
  ·rw [if_pos (decide_eq_true hk)]
   rw [if_pos hk] at y
   exact y
  ·rw [if_neg (by rw [decide_eq_false hk]; decide)]
   rw [if_neg hk] at y
   obtain ⟨n, hn⟩ := h.num p hp hk
   rw [hn] at y
   refine ⟨(h.okt _ (ok_mem_zip hp).2).2, ?_⟩
   rw [hn]
   exact y
 ·refine ⟨by show 1 <= 100000; decide, by show 1 + ((ks.zip ts).map partD).length <= 100000; rw [List.length_map, List.length_zip]; omega, ?_⟩
  rfl
theorem in_G0 {kvs : List (Str × D)} {i : Nat} {ρ : Env} {z : Str} {R : Bool -> Prop} (hi : ρ[i]? = some (.val (.str z))) (hl : kvs.lookup z = none) (q : R true) : blW (inGW true kvs (vW i)) ρ R := by
 unfold blW inGW vW lkD; simp only [hi, hl]; exact q
abbrev NoD : Str -> Prop := fun n => n = "NoDeed"
theorem sem_deedX_no1 {x w : Str} {ts : List Str} (hx : x.length <= 100000) (hf : ts.length <= 1000) (hs : Txt.split x sB = w :: ts) (h : kv_FORMS.lookup w = none) : w_deed_ofX [.str x] (fun _ => False) NoD := by
 unfold w_deed_ofX fnWX
 rw [start5]
 refine ⟨⟨by decide +kernel, hx⟩, ?_⟩
 rw [hs]
 refine ⟨by rw [List.length_map]; omega, ?_⟩
 dsimp only [seqW, ifS, orT, List.set]
 refine in_G0 (i := 1) ?_ h ?_
 ·rfl
 exact ⟨by show 1 <= 1000; decide, rfl⟩
theorem sem_deedX_no2 {x w : Str} {ts ks : List Str} (hx : x.length <= 100000) (hf : ts.length <= 1000) (hs : Txt.split x sB = w :: ts) (h : kv_FORMS.lookup w = some (.tup (ks.map D.str))) (hl : ks.length ≠ ts.length) : w_deed_ofX [.str x] (fun _ => False) NoD := by
 unfold w_deed_ofX fnWX
 rw [start5]
 refine ⟨⟨by decide +kernel, hx⟩, ?_⟩
 rw [hs]
 refine ⟨by rw [List.length_map]; omega, ?_⟩
 dsimp only [seqW, ifS, orT, List.set]
 refine in_G (i := 1) ?_ h ?_
 ·rfl
 refine if_ne0 (x := .int ks.length) (y := .int ts.length) (fun P q => ?_) (fun P q => ?_) (eqOk_int _ _) ?_
 ·refine at_G (i := 1) ?_ h ?_
  ·rfl
  show P (.int (ks.map D.str).length)
  rw [List.length_map]; exact q
 ·show P (.int (ts.map D.str).length)
  rw [List.length_map]; exact q
 rw [eqB_int, decide_eq_false (by omega)]
 exact ⟨by show 1 <= 1000; decide, rfl⟩
theorem sem_deedX_no3 {x w : Str} {ts ks : List Str} (hx : x.length <= 100000) (hs : Txt.split x sB = w :: ts) (h : Row4 w ts ks) (hb : ((ks.zip ts).all fun p => writB p.1 p.2) = false) : w_deed_ofX [.str x] (fun _ => False) NoD := by
 unfold w_deed_ofX fnWX
 rw [start5]
 have hf := h.few
 have hzl : (ks.zip ts).length <= 100000 := by rw [List.length_zip]; omega
 have hkl := h.len
 refine ⟨⟨by decide +kernel, hx⟩, ?_⟩
 rw [hs]
 refine ⟨by rw [List.length_map]; omega, ?_⟩
 dsimp only [seqW, ifS, orT, List.set]
 refine in_G (i := 1) ?_ h.form ?_
 ·rfl
 refine if_ne0 (x := .int ks.length) (y := .int ts.length) (fun P q => ?_) (fun P q => ?_) (eqOk_int _ _) ?_
 ·refine at_G (i := 1) ?_ h.form ?_
  ·rfl
  show P (.int (ks.map D.str).length)
  rw [List.length_map]; exact q
 ·show P (.int (ts.map D.str).length)
  rw [List.length_map]; exact q
 rw [eqB_int, hkl, decide_eq_true rfl]
 rw [if_neg (by decide)]
 dsimp only [nilS, seqW, asgW]
 refine at_G (i := 1) ?_ h.form ?_
 ·rfl
 refine ⟨by rw [zipL_strs, List.length_map]; exact hzl, compL_in (fun p => .tup [.str p.1, .str p.2]) (fun p => .bl (writB p.1 p.2)) (ks.zip ts) (zipL_strs ks ts) (fun p hp Y N y => ⟨rfl, rfl, up_of (sem_is_written_as p.1 p.2 (h.oks _ (ok_mem_zip hp).1) (by have := (h.okt _ (ok_mem_zip hp).2).2; omega) (h.okt _ (ok_mem_zip hp).2).1) fun d hd => by subst hd; exact y⟩) ?_⟩
 refine allF_map (f := fun p : Str × Str => writB p.1 p.2) (xs := ks.zip ts) (n := true) ?_
 rw [hb]
 exact ⟨by show 1 <= 1000; decide, rfl⟩
theorem str_d {z : Str} {f : Str -> Prop} (q : f z) : strD (.str z) f := q
theorem sem_read_no1 {x w : Str} {ts : List Str} (hx : x.length <= 100000) (hs : Txt.split x sB = w :: ts) (h : (shV SH w).getD sE = sE) : w__law_read [.str x] (· = .non) := by
 unfold w__law_read fnW
 rw [start5]
 refine ⟨⟨by decide +kernel, hx⟩, ?_⟩
 rw [hs]
 refine ⟨by show 2 < 5; decide, use_v (d := .lst true ((w :: ts).map D.str)) rfl ?_⟩
 show ixXD (.lst true ((w :: ts).map D.str)) (.int ((0 : Nat) : Int)) _
 refine ixX_lst (d := .str w) rfl ?_
 refine str_d ?_
 rw [h]
 refine ⟨eqOk_str ok_lit ok_lit, ?_⟩
 rw [eqB_str, decide_eq_true rfl]
 rfl
theorem cs_len (cs : List Nat) : (⟨cs.toArray⟩ : Str).length = cs.length := by show cs.toArray.size = _; simp
theorem cs_ok {cs : List Nat} (h : ∀ ch ∈ cs, Sign ch) : okS ⟨cs.toArray⟩ = true := okS_of fun ch hc => by
 rw [sg_mk] at hc
 rcases h ch hc with e | e | e <;> omega
theorem cs_ne {cs : List Nat} (h : cs ≠ []) : (⟨cs.toArray⟩ : Str) ≠ sE := fun z => h (by
 have := congrArg sg z
 rw [sg_mk] at this
 rw [this]; rfl)
def rdT : WS := (seqW (asgW (.nm 4) (valW (lcompW [none, some 3, some 1] (rng1I (cbW lenXF (consA (vW 3) nilA))) (.nm 0) noIf (callW 2 w__law_part (consA (binW ixXD (vW 1) (vW 0)) (consA (binW ixXD (vW 2) (binW addD (vW 0) (kW (.int 1)))) nilA))))))
  (seqW (ifS (blW (binW (inXD false) (kW .non) (vW 4))) (retW (kW .non)) nilS)
  (retW (binW addD (tupW (consA (binW ixXD (vW 1) (kW (.int 0))) nilA)) (cbW tupOfF (consA (vW 4) nilA))))))
theorem read_to {x w : Str} {ts : List Str} {cs : List Nat} {Q : D -> Prop} (hx : x.length <= 100000) (hf : ts.length <= 1000) (hs : Txt.split x sB = w :: ts) (h : Form w cs)
  (q : if cs.length = ts.length then rdT { nx := fun _ => Q .non, rt := Q, bk := fun _ => False, ct := fun _ => False } [.val (.str x), .val (.lst true ((w :: ts).map D.str)), .un, .val (.str ⟨cs.toArray⟩), .un] else Q .non) : w__law_read [.str x] Q := by
 unfold w__law_read fnW
 rw [start5]
 refine ⟨⟨by decide +kernel, hx⟩, ?_⟩
 rw [hs]
 refine ⟨by show 2 < 5; decide, use_v (d := .lst true ((w :: ts).map D.str)) rfl ?_⟩
 show ixXD (.lst true ((w :: ts).map D.str)) (.int ((0 : Nat) : Int)) _
 refine ixX_lst (d := .str w) rfl ?_
 refine str_d ?_
 rw [h.shape]
 refine ⟨eqOk_str (cs_ok h.sign) ok_lit, ?_⟩
 rw [eqB_str, decide_eq_false (cs_ne h.ne)]
 have hfw := h.few
 refine if_ne0 (x := .int (w :: ts).length) (y := .int (cs.length + 1)) (fun P p => ?_) (fun P p => ?_) (eqOk_int _ _) ?_
 ·show P (.int (((w :: ts).map D.str).length : Nat))
  rw [List.length_map]; exact p
 ·refine ⟨by rw [cs_len]; omega, ?_⟩
  rw [cs_len]; exact p
 rw [eqB_int]
 by_cases e : cs.length = ts.length
 ·rw [if_pos e] at q
  rw [decide_eq_true (by rw [List.length_cons]; omega)]
  exact q
 ·rw [if_neg e] at q
  rw [decide_eq_false (by rw [List.length_cons]; omega)]
  exact q
def rowD (w : Str) (cs : List Nat) (ts : List Str) : D := if ((cs.map sgK).zip ts).all fun p => writB p.1 p.2 then .tup (.str w :: ((cs.map sgK).zip ts).map partD) else .non
def thing (p : Nat × Str) : D := lawP p.1 p.2
theorem thing_lay {ps : List (Nat × Str)} (h : ∀ p ∈ ps, okS p.2 = true) : layDs (ps.map thing) = true := by
 induction ps with
 | nil => rfl
 | cons p ps ih =>
  rw [List.map_cons, layDs, ih fun q hq => h q (List.mem_cons_of_mem _ hq), Bool.and_true]
  have := h p List.mem_cons_self
  unfold thing lawP partD
  split
  ·split
   ·rw [layD]; exact this
   ·rw [layD]
  ·rw [layD]
theorem thing_in : ∀ ps : List (Nat × Str), inB .non (ps.map thing) = !(ps.all fun p => writB (sgK p.1) p.2)
 | [] => rfl
 | p :: ps => by
  have ih := thing_in ps
  unfold inB at ih ⊢
  rw [List.map_cons, toPys, List.any_cons, ih, List.all_cons]
  unfold thing lawP partD
  cases h : writB (sgK p.1) p.2 with
  | true =>
   rw [if_pos rfl]
   by_cases k : sgK p.1 = kN
   ·rw [if_pos k]; rfl
   ·rw [if_neg k]; rfl
  | false =>
   rw [if_neg (by decide)]
   rfl
theorem zip_sgK (cs : List Nat) (ts : List Str) : (cs.map sgK).zip ts = (cs.zip ts).map fun p => (sgK p.1, p.2) := by
 rw [List.zip_map_left]
 rfl
theorem things_eq {cs : List Nat} {ts : List Str} (hl : cs.length = ts.length) : ((List.range cs.length).map fun k => lawP (cs.getD k 0) (ts.getD k sE)) = (cs.zip ts).map thing := by
 apply List.ext_getElem
 ·simp; omega
 ·intro k h1 h2
  have h3 : k < cs.length := by simpa using h1
  have h4 : k < ts.length := by omega
  simp [thing, h3, h4]
theorem rd_ok {x w : Str} {ts : List Str} {cs : List Nat} {E : En} (hf : ts.length <= 1000) (h : Form w cs) (hl : cs.length = ts.length) (ho : ∀ t ∈ ts, okS t = true /\ t.length <= 640) (q : E.rt (rowD w cs ts)) : rdT E [.val (.str x), .val (.lst true ((w :: ts).map D.str)), .un, .val (.str ⟨cs.toArray⟩), .un] := by
 have h4 := h.few
 refine ⟨by rw [cs_len]; omega, ?_⟩
 rw [cs_len]
 refine ⟨⟨by omega, by omega⟩, by rw [rngL_length]; omega, ?_⟩
 rw [Int.toNat_natCast]
 refine compL_in (fun (k : Nat) => D.int (k : Int)) (fun k => lawP (cs.getD k 0) (ts.getD k sE)) (List.range cs.length) (rngL_map _) (fun k hk Y N y => ?_) ?_
 ·have hk := List.mem_range.mp hk
  have hk2 : k < ts.length := by omega
  have e1 : (sg ⟨cs.toArray⟩)[k]? = some (cs.getD k 0) := by rw [sg_mk, List.getD_eq_getElem?_getD, List.getElem?_eq_getElem hk]; rfl
  have e2 : ((w :: ts).map D.str)[k + 1]? = some (.str (ts.getD k sE)) := by rw [List.map_cons, List.getElem?_cons_succ, List.getElem?_map, List.getD_eq_getElem?_getD, List.getElem?_eq_getElem hk2]; rfl
  have m1 : cs.getD k 0 ∈ cs := by rw [List.getD_eq_getElem?_getD, List.getElem?_eq_getElem hk]; exact List.getElem_mem hk
  have m2 : ts.getD k sE ∈ ts := by rw [List.getD_eq_getElem?_getD, List.getElem?_eq_getElem hk2]; exact List.getElem_mem hk2
  have go : callW 2 w__law_part (consA (binW ixXD (vW 1) (vW 0)) (consA (binW ixXD (vW 2) (binW addD (vW 0) (kW (.int 1)))) nilA)) [.val (.int (k : Int)), .val (.str ⟨cs.toArray⟩), .val (.lst true ((w :: ts).map D.str))] Y := by
   refine use_v (d := .str ⟨cs.toArray⟩) rfl (use_v (d := .int (k : Int)) rfl (ixX_at (by rw [cs_len]; omega) e1 ?_))
   refine use_v (d := .lst true ((w :: ts).map D.str)) rfl (use_v (d := .int (k : Int)) rfl ?_)
   have g2 : ixXD (.lst true ((w :: ts).map D.str)) (.int ((k + 1 : Nat) : Int)) fun d2 => [D.str ⟨#[cs.getD k 0]⟩, d2].length = 2 /\ up w__law_part [D.str ⟨#[cs.getD k 0]⟩, d2] Y := ixX_lst e2 ⟨rfl, up_of (sem_part (h.sign _ m1) (ho _ m2).2 (ho _ m2).1) fun d hd => by subst hd; exact y⟩
   exact g2
  exact go
 rw [things_eq hl]
 have hz : ∀ p ∈ cs.zip ts, okS p.2 = true := fun p hp => (ho _ (List.of_mem_zip hp).2).1
 refine ⟨⟨rfl, thing_lay hz, Nat.le_trans (Nat.min_le_right _ _) (by show 0 <= 50; decide)⟩, ?_⟩
 show if inB .non ((cs.zip ts).map thing) = true then _ else _
 rw [thing_in]
 have ea : (cs.zip ts).all (fun p => writB (sgK p.1) p.2) = ((cs.map sgK).zip ts).all fun p => writB p.1 p.2 := by rw [zip_sgK, List.all_map]; rfl
 rw [ea]
 unfold rowD at q
 cases hb : ((cs.map sgK).zip ts).all fun p => writB p.1 p.2 with
 | false =>
  rw [hb] at q
  exact q
 | true =>
  rw [hb, if_pos rfl] at q
  show ixXD (.lst true ((w :: ts).map D.str)) (.int ((0 : Nat) : Int)) _
  refine ixX_lst (d := .str w) rfl ?_
  have e3 : (cs.zip ts).map thing = ((cs.map sgK).zip ts).map partD := by
   rw [zip_sgK, List.map_map]
   refine List.map_congr_left fun p hp => ?_
   have := List.all_eq_true.mp (ea.trans hb) p hp
   unfold thing lawP
   rw [if_pos this]; rfl
  refine ⟨by show 1 <= 100000; decide, ?_⟩
  rw [e3]
  refine ⟨by show 1 + (((cs.map sgK).zip ts).map partD).length <= 100000; rw [List.length_map, List.length_zip]; omega, ?_⟩
  exact q
theorem part_ok {p : Str × Str} (h : okS p.2 = true) (n : Nat) : sameOk (partD p) n = true /\ (partD p).old = partD p := by
 unfold partD
 split
 ·exact ⟨by rw [sameOk]; exact h, old_str _⟩
 ·exact ⟨by rw [sameOk], old_int _⟩
theorem parts_ok {n : Nat} : ∀ {ps : List (Str × Str)}, (∀ p ∈ ps, okS p.2 = true) -> sameOks (ps.map partD) n = true /\ (ps.map partD).map D.old = ps.map partD
 | [], _ => ⟨by rw [List.map_nil, sameOks], rfl⟩
 | p :: ps, h => by
  obtain ⟨h1, h2⟩ := parts_ok (n := n) (ps := ps) fun q hq => h q (List.mem_cons_of_mem _ hq)
  obtain ⟨h3, h4⟩ := part_ok (h p List.mem_cons_self) n
  exact ⟨by rw [List.map_cons, sameOks, h3, h1]; rfl, by rw [List.map_cons, List.map_cons, h2, h4]⟩
theorem both {x : Str} (hx : x.length <= 640) (ho : okS x = true) : (∃ d, (∃ xs, d = .tup xs) /\ d.old = d /\ (∀ n, sameOk d (n + 1) = true) /\ w__law_read [.str x] (· = d) /\ w_deed_ofX [.str x] (· = d) (fun _ => False)) \/ (w__law_read [.str x] (· = .non) /\ w_deed_ofX [.str x] (fun _ => False) NoD) := by
 obtain ⟨⟨w, ts, hs⟩, hin⟩ := split_in (x := x)
 have hx' : x.length <= 100000 := by omega
 rw [hs] at hin
 have okp : ∀ t ∈ w :: ts, okS t = true /\ t.length <= 640 := fun t ht => ⟨okS_of fun ch hc => okS_mem ho ch ((hin t ht).2 ch hc), Nat.le_trans (hin t ht).1 hx⟩
 have hf' : ts.length <= 700 := by
  have := PyProof.Rows.split_le x sB
  rw [hs, List.length_cons] at this
  omega
 have hf : ts.length <= 1000 := by omega
 have okt : ∀ t ∈ ts, okS t = true /\ t.length <= 640 := fun t ht => okp t (List.mem_cons_of_mem _ ht)
 rcases table w with ⟨cs, F⟩ | ⟨h1, h2⟩
 ·by_cases hl : cs.length = ts.length
  ·have R : Row4 w ts (cs.map sgK) := ⟨F.form, by rw [List.length_map]; exact hl, fun k hk => by
    obtain ⟨ch, _, rfl⟩ := List.mem_map.mp hk
    unfold sgK
    split
    ·exact ok_lit
    ·split
     ·exact ok_lit
     ·exact ok_lit, okt, hf⟩
   have rd : w__law_read [.str x] (· = rowD w cs ts) := read_to hx' hf hs F (by rw [if_pos hl]; exact rd_ok hf F hl okt rfl)
   cases hb : ((cs.map sgK).zip ts).all fun p => writB p.1 p.2 with
   | false =>
    refine .inr ⟨?_, sem_deedX_no3 hx' hs R hb⟩
    unfold rowD at rd
    rw [hb] at rd
    exact rd
   | true =>
    have wr := List.all_eq_true.mp hb
    have hz : ∀ p ∈ (cs.map sgK).zip ts, okS p.2 = true := fun p hp => (okt _ (List.of_mem_zip hp).2).1
    unfold rowD at rd
    rw [hb, if_pos rfl] at rd
    refine .inl ⟨_, ⟨_, rfl⟩, ?_, fun n => ?_, rd, sem_deedX_ok hx' hs ⟨R.form, R.len, R.oks, okt, hf, wr, fun p hp hk => ?_⟩⟩
    ·rw [D.old, List.map_cons, old_str, (parts_ok (n := 0) hz).2]
    ·rw [sameOk, sameOks, (parts_ok (n := n) hz).1, sameOk, Bool.and_true, decide_eq_true (by rw [List.length_cons, List.length_map, List.length_zip]; omega)]
     exact (okp w List.mem_cons_self).1
    ·have wp := wr p hp
     obtain ⟨k1, k2⟩ := List.of_mem_zip hp
     obtain ⟨ch, _, e⟩ := List.mem_map.mp k1
     rw [<- e] at hk wp
     exact writ_int hk wp (okt _ k2).2
  ·exact .inr ⟨read_to hx' hf hs F (by rw [if_neg hl]), sem_deedX_no2 hx' hf hs F.form (by rw [List.length_map]; exact hl)⟩
 ·exact .inr ⟨sem_read_no1 hx' hs h1, sem_deedX_no1 hx' hf hs h2⟩
theorem sem_told_ok {x : Str} {d : D} (h : w_deed_ofX [.str x] (· = d) (fun _ => False)) : w__law_told_of_row [.str x] (· = .tup [d, .lst true []]) := by
 unfold w__law_told_of_row fnW startE
 rw [List.map_cons, old_str]
 refine ⟨by show 0 <= 100000; decide, rfl, _, _, h, fun e he => ?_, fun n hn => hn.elim⟩
 subst he
 exact ⟨by show 2 <= 100000; decide, rfl⟩
theorem sem_told_no {x : Str} (h : w_deed_ofX [.str x] (fun _ => False) NoD) : w__law_told_of_row [.str x] (· = .tup [.non, .lst true [.bl true, .bl false, .bl false]]) := by
 unfold w__law_told_of_row fnW startE
 rw [List.map_cons, old_str]
 refine ⟨by show 0 <= 100000; decide, rfl, _, _, h, fun e he => he.elim, fun n hn => ⟨[true, false, false], ?_, by show 2 <= 100000; decide, rfl⟩⟩
 unfold kd__law_told_of_row
 rw [if_pos hn]
structure Ws (i j : Nat) (ws : List Str) : Prop where
 ne : 1 <= ws.length
 le : ws.length <= 5 + i
 ok : ∀ w ∈ ws, w.length + 1 <= 12 * 3 ^ j /\ okS w = true
theorem ixX_strs {b : Bool} {hs : List Str} {i : Int} {Q : D -> Prop} (h0 : 0 <= i) (h1 : i < hs.length) (q : ∀ k, k ∈ hs -> Q (.str k)) : ixXD (.lst b (hs.map D.str)) (.int i) Q := by
 obtain ⟨n, rfl⟩ := Int.eq_ofNat_of_zero_le h0
 have hn : n < hs.length := by omega
 exact ixX_lst (d := .str hs[n]) (by rw [List.getElem?_map, List.getElem?_eq_getElem hn]; rfl) (q _ (List.getElem_mem hn))
theorem name_ok {x : Str} (h : nameB x = true) : x.length <= 11 /\ okS x = true := by
 obtain ⟨h1, h2⟩ := name_in h
 exact ⟨by omega, okS_of fun ch hc => by have := h2 ch hc; omega⟩
theorem nS_ok {n : Int} (h : n.natAbs < 10 ^ 10) : (nS n).length <= 11 /\ okS (nS n) = true := ⟨len_nSI h, okS_of fun ch hc => by have := sg_nSI hc; omega⟩
theorem log_ok {n : Int} (h : n.natAbs < 10 ^ 10) : n.natAbs.log2 < 1920 := by
 have : n.natAbs < 2 ^ 1920 := Nat.lt_trans h (by decide +kernel)
 by_cases z : n.natAbs = 0
 ·rw [z]; decide
 ·exact (Nat.log2_lt z).mpr this
abbrev WRD : List Str := ["mark", "hand", "run", "strike", "mend", "settle", "aside", "heed", "allow"]
theorem wrd_ok {w : Str} (h : w ∈ WRD) : w.length <= 11 /\ okS w = true := by
 simp only [WRD, List.mem_cons, List.not_mem_nil, or_false] at h
 rcases h with rfl | rfl | rfl | rfl | rfl | rfl | rfl | rfl | rfl <;> exact ⟨by decide +kernel, ok_lit⟩
theorem ws_of {ws : List Str} (h1 : 1 <= ws.length) (h2 : ws.length <= 5) (h : ∀ w ∈ ws, w.length <= 11 /\ okS w = true) : Ws 0 0 ws := ⟨h1, h2, fun w hw => ⟨by have := (h w hw).1; omega, (h w hw).2⟩⟩
theorem sem_row : w__law_row [.box] (fun d => ∃ ws, d = .lst true (ws.map D.str) /\ Ws 0 0 ws) := by
 unfold w__law_row fnW
 rw [startE1 .box 4, old_box]
 refine ⟨rfl, up_of (sem_names 3 (by decide) (by decide)) fun dd ⟨ns, hd, hl, hN⟩ => ?_⟩
 subst hd
 obtain ⟨x, y, z, rfl⟩ := strs3 hl
 have hx := name_ok (hN x (by simp))
 have hy := name_ok (hN y (by simp))
 have hz := name_ok (hN z (by simp))
 refine ⟨by show 9 <= 100000; decide, rfl, use_take (by decide) (by decide) fun a a0 a1 => ?_⟩
 refine ixX_strs (b := true) (hs := WRD) a0 a1 fun w hw => ?_
 have hwo := wrd_ok hw
 refine ⟨⟨by decide, by decide, by decide⟩, rfl, use_take (by decide) (by decide) fun b b0 b1 => ⟨rfl, use_take (by decide) (by decide) fun c c0 c1 => ⟨by show 4 <= 100000; decide, rfl, use_take (by decide) (by decide) fun e e0 e1 => ?_⟩⟩⟩
 have b1 : b < 10 ^ 10 := b1
 refine ixX_ints (b := true) (hs := [0, b, c, 9999999999]) e0 e1 fun n hn => ?_
 have hn : 0 <= n /\ n < 10 ^ 10 := by
  simp only [List.mem_cons, List.not_mem_nil, or_false] at hn
  rcases hn with rfl | rfl | rfl | rfl <;> omega
 have n1 : n.natAbs < 10 ^ 10 := by omega
 refine ⟨rfl, use_take (by decide) (by decide) fun s s0 s1 => ⟨.inl ⟨by decide, by decide⟩, .inl ⟨by omega, by omega⟩, ?_⟩⟩
 obtain ⟨m, hm, hm2⟩ : ∃ m : Int, m = n * (1 - 2 * s) /\ m.natAbs < 10 ^ 10 := by
  refine ⟨_, rfl, ?_⟩
  rcases (show s = 0 \/ s = 1 by omega) with rfl | rfl
  ·rw [show n * (1 - 2 * 0) = n by omega]; exact n1
  ·rw [show n * (1 - 2 * 1) = -n by omega]; omega
 rw [<- hm]
 refine ⟨log_ok hm2, ?_⟩
 have hr := nS_ok hm2
 have hn' := nS_ok n1
 refine ⟨eqOk_str hwo.2 ok_lit, ?_⟩
 rw [eqB_str]
 cases decide (w = "run") with
 | true =>
  refine ⟨by show 5 <= 100000; decide, [w, x, y, nS m, z], rfl, ws_of (by show 1 <= 5; decide) (by show 5 <= 5; decide) fun v hv => ?_⟩
  simp only [List.mem_cons, List.not_mem_nil, or_false] at hv
  rcases hv with rfl | rfl | rfl | rfl | rfl <;> assumption
 | false =>
  refine ⟨eqOk_str hwo.2 ok_lit, ?_⟩
  rw [eqB_str]
  cases decide (w = "mend") with
  | true =>
   refine ⟨log_ok n1, by show 3 <= 100000; decide, [w, nS n, nS m], rfl, ws_of (by show 1 <= 3; decide) (by show 3 <= 5; decide) fun v hv => ?_⟩
   simp only [List.mem_cons, List.not_mem_nil, or_false] at hv
   rcases hv with rfl | rfl | rfl <;> assumption
  | false =>
   refine ⟨log_ok n1, by show 2 <= 100000; decide, by show 2 <= 100000; decide, ⟨by rw [layD]; exact hwo.2, by decide +kernel, Nat.le_trans (Nat.min_le_right _ _) (by show 0 <= 50; decide)⟩, ?_⟩
   show (fun b : Bool => _) (inB (.str w) [.str "strike", .str "allow"])
   generalize inB (.str w) [.str "strike", .str "allow"] = b
   have fin : ∀ t : Str, t.length <= 11 /\ okS t = true -> [D.str w, .str t].length <= 100000 /\ ∃ ws : List Str, D.lst true [.str w, .str t] = .lst true (ws.map D.str) /\ Ws 0 0 ws := fun t ht => ⟨by show 2 <= 100000; decide, [w, t], rfl, ws_of (by show 1 <= 2; decide) (by show 2 <= 5; decide) fun v hv => by
    simp only [List.mem_cons, List.not_mem_nil, or_false] at hv
    rcases hv with rfl | rfl <;> assumption⟩
   cases b with
   | true => exact fin (nS n) hn'
   | false => exact fin x hx
theorem cut_lo {α : Type} {xs : List α} {k : Nat} (h : k <= xs.length) : cutD xs none (some (k : Int)) = xs.take k := by
 unfold cutD
 rw [HT.sIx_nat]
 show List.take (min k xs.length - 0) (xs.drop 0) = _
 rw [Nat.min_eq_left h]; rfl
theorem cut_hi {α : Type} {xs : List α} {k : Nat} (h : k <= xs.length) : cutD xs (some (k : Int)) none = xs.drop k := by
 unfold cutD
 rw [HT.sIx_nat, Nat.min_eq_left h]
 show List.take (xs.length - k) (xs.drop k) = _
 exact List.take_of_length_le (by simp)
theorem old_strs (ws : List Str) : (ws.map D.str).map D.old = ws.map D.str := by
 rw [List.map_map]
 exact List.map_congr_left fun w _ => old_str w
theorem Ws.up1 {i j : Nat} {ws ws' : List Str} (h : Ws i j ws) (h1 : 1 <= ws'.length) (h2 : ws'.length <= ws.length + 1) (h3 : ∀ w ∈ ws', w ∈ ws \/ w = sE) : Ws (i + 1) j ws' := ⟨h1, by have := h.le; omega, fun w hw => by
 rcases h3 w hw with z | z
 ·exact h.ok w z
 ·rw [z]
  have p : 1 <= 3 ^ j := Nat.pow_pos (by decide)
  exact ⟨(show 0 + 1 <= 12 * 3 ^ j by omega), ok_lit⟩⟩
theorem Ws.up2 {i j : Nat} {ws ws' : List Str} (h : Ws i j ws) (h1 : 1 <= ws'.length) (h2 : ws'.length <= ws.length) (h3 : ∀ w ∈ ws', w ∈ ws \/ (w.length + 1 <= 12 * 3 ^ (j + 1) /\ okS w = true)) : Ws i (j + 1) ws' := ⟨h1, by have := h.le; omega, fun w hw => by
 rcases h3 w hw with z | z
 ·have := h.ok w z
  exact ⟨by rw [Nat.pow_succ]; omega, this.2⟩
 ·exact z⟩
theorem Ws.put {i j : Nat} {ws : List Str} {v : Str} {k : Nat} (h : Ws i j ws) (hk : k < ws.length) (hv : v.length + 1 <= 12 * 3 ^ (j + 1) /\ okS v = true) : Ws i (j + 1) (ws.take k ++ [v] ++ ws.drop (k + 1)) :=
 h.up2 (by simp; omega) (by simp; omega) fun w hw => by
  rcases List.mem_append.mp hw with z | z
  ·rcases List.mem_append.mp z with y | y
   ·exact .inl (List.mem_of_mem_take y)
   ·rw [List.mem_singleton.mp y]; exact .inr hv
  ·exact .inl (List.mem_of_mem_drop z)
abbrev SGN : Str := " !\"#$&'()*+,-./0123456789:;<=>?@ABCDEFGHIJKLMNOPQRSTUVWXYZ[\\]^_`abcdefghijklmnopqrstuvwxyz{|}~\n"
theorem okS_app {x y : Str} (hx : okS x = true) (hy : okS y = true) : okS (x ++ y) = true := okS_of fun ch hc => by
 rw [sg_app] at hc
 rcases List.mem_append.mp hc with z | z
 ·exact okS_mem hx ch z
 ·exact okS_mem hy ch z
theorem len_app (x y : Str) : (x ++ y).length = x.length + y.length := by rw [len_sg, len_sg, len_sg, sg_app, List.length_append]
abbrev SpQ (i j : Nat) (d : D) : Prop := ∃ ws', d = .lst true (ws'.map D.str) /\ (Ws (i + 1) j ws' \/ Ws i (j + 1) ws')
def sqE : WS := (seqW (asgW (.nm 6) (kW (.str " !\"#$&'()*+,-./0123456789:;<=>?@ABCDEFGHIJKLMNOPQRSTUVWXYZ[\\]^_`abcdefghijklmnopqrstuvwxyz{|}~\n")))
  (seqW (asgW (.nm 7) (binW ixXD (vW 6) (callW 2 w__law_take (consA (vW 0) (consA (cbW lenXF (consA (vW 6) nilA)) nilA)))))
  (seqW (asgW (.nm 8) (callW 2 w__law_take (consA (vW 0) (consA (binW addD (cbW lenXF (consA (vW 4) nilA)) (kW (.int 1))) nilA))))
  (seqW (asgW (.nm 9) (binW addD (binW addD (slXW (vW 4) noO (someO (vW 8))) (vW 7)) (slXW (vW 4) (someO (binW addD (vW 8) (binW modD (vW 2) (kW (.int 2))))) noO)))
  (retW (binW addD (binW addD (slXW (vW 1) noO (someO (vW 3))) (valW (lstW (consA (vW 9) nilA)))) (slXW (vW 1) (someO (binW addD (vW 3) (kW (.int 1)))) noO)))))))
def sqD : WS := seqW (ifS (blW (binW eqD (vW 2) (kW (.int 3)))) (seqW (asgW (.nm 5) (valW (lstW (consA (binW addD (kW (.str "0")) (vW 4)) (consA (binW addD (vW 4) (kW (.str "a"))) (consA (binW addD (vW 4) (kW (.str "0"))) (consA (binW addD (kW (.str "-")) (vW 4)) (consA (binW mulXD (vW 4) (kW (.int 3))) nilA))))))))
  (retW (binW addD (binW addD (slXW (vW 1) noO (someO (vW 3))) (valW (lstW (consA (binW ixXD (vW 5) (callW 2 w__law_take (consA (vW 0) (consA (kW (.int 5)) nilA)))) nilA)))) (slXW (vW 1) (someO (binW addD (vW 3) (kW (.int 1)))) noO)))) nilS) sqE
def sqC : WS := seqW (ifS (blW (binW eqD (vW 2) (kW (.int 2)))) (retW (binW addD (binW addD (slXW (vW 1) noO (someO (binW addD (vW 3) (kW (.int 1))))) (valW (lstW (consA (kW (.str "")) nilA)))) (slXW (vW 1) (someO (binW addD (vW 3) (kW (.int 1)))) noO))) nilS) sqD
def sqB : WS := seqW (ifS (blW (binW eqD (vW 2) (kW (.int 1)))) (retW (binW addD (binW addD (slXW (vW 1) noO (someO (vW 3))) (valW (lstW (consA (vW 4) nilA)))) (slXW (vW 1) (someO (vW 3)) noO))) nilS) sqC
abbrev ρS (ws : List Str) (way : Int) (k : Nat) (here : Str) : Env := [.val .box, .val (.lst false (ws.map D.str)), .val (.int way), .val (.int (k : Int)), .val (.str here), .un, .un, .un, .un, .un]
theorem sp_end {i j : Nat} {ws : List Str} {E : En} {k : Nat} {ρ : Env} {A : WE} (h : Ws i j ws) (hi : i <= 2) (hk : k < ws.length) (h1 : ρ[1]? = some (.val (.lst false (ws.map D.str)))) (h3 : ρ[3]? = some (.val (.int (k : Int)))) (hA : ∀ Q : D -> Prop, (∀ v : Str, v.length + 1 <= 12 * 3 ^ (j + 1) /\ okS v = true -> Q (.str v)) -> A ρ Q) (q : ∀ d, SpQ i j d -> E.rt d) :
  retW (binW addD (binW addD (slXW (vW 1) noO (someO (vW 3))) (valW (lstW (consA A nilA)))) (slXW (vW 1) (someO (binW addD (vW 3) (kW (.int 1)))) noO)) E ρ := by
 have h2 := h.le
 refine use_v h1 (use_v h3 ?_)
 show slXD (.lst false (ws.map D.str)) none (some (k : Int)) _
 show A ρ _
 refine hA _ fun v hv => ?_
 have hl : (ws.map D.str).length = ws.length := List.length_map _
 refine ⟨by show 1 <= 100000; decide, ?_, ?_⟩
 ·rw [cut_lo (by omega), List.length_take]; show _ + 1 <= _; omega
 refine use_v h1 (use_v h3 ?_)
 have e2 : (k : Int) + 1 = ((k + 1 : Nat) : Int) := rfl
 refine ⟨?_, q _ ⟨ws.take k ++ [v] ++ ws.drop (k + 1), ?_, .inr (h.put hk hv)⟩⟩
 ·rw [e2, cut_lo (by omega), cut_hi (by omega), List.length_append, List.length_take, List.length_drop]; show _ + 1 + _ <= _; omega
 ·rw [e2, cut_lo (by omega), cut_hi (by omega), List.map_append, List.map_append, List.map_take, List.map_drop]; rfl
theorem sqE_ok {i j : Nat} {ws : List Str} {E : En} {way : Int} {k : Nat} {here : Str} {s5 : Sl} (h : Ws i j ws) (hi : i <= 2) (hj : j <= 2) (hk : k < ws.length) (hh : here ∈ ws) (q : ∀ d, SpQ i j d -> E.rt d) : sqE E [.val .box, .val (.lst false (ws.map D.str)), .val (.int way), .val (.int (k : Int)), .val (.str here), s5, .un, .un, .un, .un] := by
 have p3 : 3 ^ j <= 9 := Nat.pow_le_pow_right (n := 3) (by decide) hj
 have hho := h.ok here hh
 have hl : here.length <= 107 := by omega
 refine ⟨by decide +kernel, rfl, use_take (by decide +kernel) (by decide +kernel) fun a a0 a1 => ?_⟩
 refine ixX_sign (z := SGN) (by decide +kernel) a0 a1 fun ch hc => ?_
 refine ⟨by omega, rfl, use_take (by omega) (by omega) fun p p0 p1 => ?_⟩
 have os : okS ⟨#[ch]⟩ = true := sg1 (okS_mem (x := SGN) ok_lit ch hc)
 have l1 := cutS_len here none (some p)
 have l2 := cutS_len here (some (p + way % 2)) none
 have e1 : (⟨#[ch]⟩ : Str).length = 1 := rfl
 have l3 := len_app (cutS here none (some p)) ⟨#[ch]⟩
 have l4 := len_app (cutS here none (some p) ++ ⟨#[ch]⟩) (cutS here (some (p + way % 2)) none)
 refine ⟨by omega, by rw [e1]; omega, by decide, by omega, by omega, ?_⟩
 have go : retW (binW addD (binW addD (slXW (vW 1) noO (someO (vW 3))) (valW (lstW (consA (vW 9) nilA)))) (slXW (vW 1) (someO (binW addD (vW 3) (kW (.int 1)))) noO)) E [.val .box, .val (.lst false (ws.map D.str)), .val (.int way), .val (.int (k : Int)), .val (.str here), s5, .val (.str SGN), .val (.str ⟨#[ch]⟩), .val (.int p), .val (.str (cutS here none (some p) ++ ⟨#[ch]⟩ ++ cutS here (some (p + way % 2)) none))] :=
  sp_end h hi hk rfl rfl (fun Q g => use_v rfl (g _ ⟨by rw [Nat.pow_succ]; omega, okS_app (okS_app (okS_cut hho.2 _ _) os) (okS_cut hho.2 _ _)⟩)) q
 exact go
theorem sqD_ok {i j : Nat} {ws : List Str} {E : En} {way : Int} {k : Nat} {here : Str} (h : Ws i j ws) (hi : i <= 2) (hj : j <= 2) (hk : k < ws.length) (hh : here ∈ ws) (q : ∀ d, SpQ i j d -> E.rt d) : sqD E (ρS ws way k here) := by
 have p3 : 3 ^ j <= 9 := Nat.pow_le_pow_right (n := 3) (by decide) hj
 have hho := h.ok here hh
 have hl : here.length <= 107 := by omega
 refine ⟨eqOk_int _ _, ?_⟩
 rw [eqB_int]
 cases decide (way = 3) with
 | false => exact sqE_ok h hi hj hk hh q
 | true =>
  have z0 : (("0" : String) : Str).length = 1 := by decide +kernel
  have za : (("a" : String) : Str).length = 1 := by decide +kernel
  have zm : (("-" : String) : Str).length = 1 := by decide +kernel
  refine ⟨by rw [z0]; omega, by rw [za]; omega, by rw [z0]; omega, by rw [zm]; omega, ⟨by decide, by decide, by omega⟩, fun u hu hu2 => ⟨by show 5 <= 100000; decide, ?_⟩⟩
  have fin : ∀ v ∈ [("0" : Str) ++ here, here ++ ("a" : Str), here ++ ("0" : Str), ("-" : Str) ++ here, u], v.length + 1 <= 12 * 3 ^ (j + 1) /\ okS v = true := fun v hv => by
   have hu : u.length <= 3 * here.length := hu
   have ou : okS u = true := okS_of fun ch hc => okS_mem hho.2 ch (hu2 ch hc)
   have l1 := len_app ("0" : Str) here
   have l2 := len_app here ("a" : Str)
   have l3 := len_app here ("0" : Str)
   have l4 := len_app ("-" : Str) here
   rw [Nat.pow_succ]
   simp only [List.mem_cons, List.not_mem_nil, or_false] at hv
   rcases hv with rfl | rfl | rfl | rfl | rfl
   ·exact ⟨by omega, okS_app ok_lit hho.2⟩
   ·exact ⟨by omega, okS_app hho.2 ok_lit⟩
   ·exact ⟨by omega, okS_app hho.2 ok_lit⟩
   ·exact ⟨by omega, okS_app ok_lit hho.2⟩
   ·exact ⟨by omega, ou⟩
  have go : retW (binW addD (binW addD (slXW (vW 1) noO (someO (vW 3))) (valW (lstW (consA (binW ixXD (vW 5) (callW 2 w__law_take (consA (vW 0) (consA (kW (.int 5)) nilA)))) nilA)))) (slXW (vW 1) (someO (binW addD (vW 3) (kW (.int 1)))) noO)) E [.val .box, .val (.lst false (ws.map D.str)), .val (.int way), .val (.int (k : Int)), .val (.str here), .val (.lst true ([("0" : Str) ++ here, here ++ ("a" : Str), here ++ ("0" : Str), ("-" : Str) ++ here, u].map D.str)), .un, .un, .un, .un] :=
   sp_end h hi hk rfl rfl (fun Q g => use_v rfl ⟨rfl, use_take (by decide) (by decide) fun a a0 a1 => ixX_strs a0 a1 fun v hv => g v (fin v hv)⟩) q
  exact go
theorem mid_mem {ws : List Str} {a b : Nat} {v : Str} (hv : v ∈ ws \/ v = sE) : ∀ w ∈ ws.take a ++ [v] ++ ws.drop b, w ∈ ws \/ w = sE := fun w hw => by
 rcases List.mem_append.mp hw with z | z
 ·rcases List.mem_append.mp z with y | y
  ·exact .inl (List.mem_of_mem_take y)
  ·rw [List.mem_singleton.mp y]; exact hv
 ·exact .inl (List.mem_of_mem_drop z)
theorem sqC_ok {i j : Nat} {ws : List Str} {E : En} {way : Int} {k : Nat} {here : Str} (h : Ws i j ws) (hi : i <= 2) (hj : j <= 2) (hk : k < ws.length) (hh : here ∈ ws) (q : ∀ d, SpQ i j d -> E.rt d) : sqC E (ρS ws way k here) := by
 have h2 := h.le
 have hl : (ws.map D.str).length = ws.length := List.length_map _
 refine ⟨eqOk_int _ _, ?_⟩
 rw [eqB_int]
 cases decide (way = 2) with
 | false => exact sqD_ok h hi hj hk hh q
 | true =>
  have e2 : (k : Int) + 1 = ((k + 1 : Nat) : Int) := rfl
  have e3 : cutD (ws.map D.str) none (some ((k : Int) + 1)) = (ws.map D.str).take (k + 1) := by rw [e2, cut_lo (by omega)]
  have e4 : cutD (ws.map D.str) (some ((k : Int) + 1)) none = (ws.map D.str).drop (k + 1) := by rw [e2, cut_hi (by omega)]
  refine ⟨by show 1 <= 100000; decide, by rw [e3, List.length_take]; show _ + 1 <= _; omega, by rw [e3, e4, List.length_append, List.length_take, List.length_drop]; show _ + 1 + _ <= _; omega, q _ ⟨ws.take (k + 1) ++ [sE] ++ ws.drop (k + 1), by rw [e3, e4, List.map_append, List.map_append, List.map_take, List.map_drop]; rfl, .inl (h.up1 (by simp; omega) (by simp; omega) (mid_mem (.inr rfl)))⟩⟩
theorem sqB_ok {i j : Nat} {ws : List Str} {E : En} {way : Int} {k : Nat} {here : Str} (h : Ws i j ws) (hi : i <= 2) (hj : j <= 2) (hk : k < ws.length) (hh : here ∈ ws) (q : ∀ d, SpQ i j d -> E.rt d) : sqB E (ρS ws way k here) := by
 have h2 := h.le
 have hl : (ws.map D.str).length = ws.length := List.length_map _
 refine ⟨eqOk_int _ _, ?_⟩
 rw [eqB_int]
 cases decide (way = 1) with
 | false => exact sqC_ok h hi hj hk hh q
 | true =>
  have e3 : cutD (ws.map D.str) none (some (k : Int)) = (ws.map D.str).take k := cut_lo (by omega)
  have e4 : cutD (ws.map D.str) (some (k : Int)) none = (ws.map D.str).drop k := cut_hi (by omega)
  refine ⟨by show 1 <= 100000; decide, by rw [e3, List.length_take]; show _ + 1 <= _; omega, by rw [e3, e4, List.length_append, List.length_take, List.length_drop]; show _ + 1 + _ <= _; omega, q _ ⟨ws.take k ++ [here] ++ ws.drop k, by rw [e3, e4, List.map_append, List.map_append, List.map_take, List.map_drop]; rfl, .inl (h.up1 (by simp; omega) (by simp; omega) (mid_mem (.inl hh)))⟩⟩
theorem sem_spoilt {i j : Nat} {ws : List Str} {b : Bool} (h : Ws i j ws) (hi : i <= 2) (hj : j <= 2) : w__law_spoilt [.box, .lst b (ws.map D.str)] (SpQ i j) := by
 have h1 := h.ne
 have h2 := h.le
 have p3 : 3 ^ j <= 9 := Nat.pow_le_pow_right (n := 3) (by decide) hj
 have len : ∀ w ∈ ws, w.length <= 107 := fun w hw => by have := (h.ok w hw).1; omega
 unfold w__law_spoilt fnW
 rw [startE2 .box _ 8, old_box, D.old, old_strs]
 refine ⟨rfl, use_take (by decide) (by decide) fun way w0 w1 => ?_⟩
 refine ⟨rfl, use_take (by rw [List.length_map]; omega) (by rw [List.length_map]; omega) fun at_ a0 a1 => ?_⟩
 rw [List.length_map] at a1
 obtain ⟨k, rfl⟩ := Int.eq_ofNat_of_zero_le a0
 have hk : k < ws.length := by omega
 refine ixX_strs (b := false) (hs := ws) a0 a1 fun here hh => ?_
 have hho := h.ok here hh
 have hhl := len here hh
 have go : sqB { nx := fun _ => SpQ i j .non, rt := SpQ i j, bk := fun _ => False, ct := fun _ => False } (ρS ws way k here) := sqB_ok h hi hj hk hh fun _ z => z
 refine ⟨eqOk_int _ _, ?_⟩
 rw [eqB_int]
 cases decide (way = 0) with
 | false => exact go
 | true =>
  show if decide (((ws.map D.str).length : Int) > 1) = true then _ else _
  by_cases hl1 : ((ws.map D.str).length : Int) > 1
  ·rw [if_pos (decide_eq_true hl1)]
   have hl : (ws.map D.str).length = ws.length := List.length_map _
   have e3 : cutD (ws.map D.str) none (some (k : Int)) = (ws.map D.str).take k := cut_lo (by omega)
   have e2 : (k : Int) + 1 = ((k + 1 : Nat) : Int) := rfl
   have e4 : cutD (ws.map D.str) (some ((k : Int) + 1)) none = (ws.map D.str).drop (k + 1) := by rw [e2, cut_hi (by omega)]
   refine ⟨by rw [e3, e4, List.length_take, List.length_drop]; omega, ws.take k ++ ws.drop (k + 1), by rw [e3, e4, List.map_append, List.map_take, List.map_drop], .inl (h.up1 (by simp; omega) (by simp; omega) fun w hw => ?_)⟩
   rcases List.mem_append.mp hw with z | z
   ·exact .inl (List.mem_of_mem_take z)
   ·exact .inl (List.mem_of_mem_drop z)
  ·rw [if_neg (by rw [decide_eq_false hl1]; decide)]
   exact go
def k41d : WS := ifS (notT (truW (callW 2 (w__law_same 6) (consA (callW 1 w__law_told_of_row (consA (vW 5) nilA)) (consA (vW 6) nilA))))) (retW (kW (.bl false))) nilS
def k41c : WS := (seqW (asgW (.nm 5) (smW joF (kW (.str " ")) (vW 3)))
  (seqW (asgW (.nm 6) (tupW (consA (callW 1 w__law_read (consA (vW 5) nilA)) (consA (valW (lstW nilA)) nilA))))
  (seqW (ifS (blW (isNW (binW ixXD (vW 6) (kW (.int 0))))) (asgW (.nm 6) (tupW (consA (kW .non) (consA (valW (lstW (consA (kW (.bl true)) (consA (kW (.bl false)) (consA (kW (.bl false)) nilA))))) nilA)))) nilS)
  k41d)))
theorem k41d_ok {E : En} {s2 s3 s4 : Sl} {x : Str} {d : D} (ht : w__law_told_of_row [.str x] (· = d)) (hs : sameOk d 5 = true) (q : ∀ s3 s4 s5 s6, E.nx [.un, .val .box, s2, s3, s4, s5, s6]) : k41d E [.un, .val .box, s2, s3, s4, .val (.str x), .val d] := by
 refine ⟨rfl, up_of ht fun e he => ?_⟩
 subst he
 refine ⟨rfl, up_of (same_self 5 _ _ rfl hs) fun e he => ?_⟩
 subst he
 exact q _ _ _ _
theorem k41c_ok {E : En} {s2 s4 s5 s6 : Sl} {ws : List Str} {i j : Nat} (h : Ws i j ws) (hij : i + j <= 2) (q : ∀ s3 s4 s5 s6, E.nx [.un, .val .box, s2, s3, s4, s5, s6]) : k41c E [.un, .val .box, s2, .val (.lst true (ws.map D.str)), s4, s5, s6] := by
 have h2 := h.le
 have hb : ∀ w ∈ ws, w.length <= 12 * 3 ^ j - 1 := fun w hw => by have := (h.ok w hw).1; omega
 have p1 : 1 <= 3 ^ j := Nat.pow_pos (by decide)
 have hl := join_len ws (12 * 3 ^ j - 1) hb
 have hl2 : (Str.join sB ws).length <= 640 := by
  rw [show 12 * 3 ^ j - 1 + 1 = 12 * 3 ^ j by omega] at hl
  have := Nat.mul_le_mul_right (12 * 3 ^ j) h2
  rcases (show j = 0 \/ j = 1 \/ j = 2 by omega) with rfl | rfl | rfl <;> omega
 have p3 : 3 ^ j <= 9 := Nat.pow_le_pow_right (n := 3) (by decide) (show j <= 2 by omega)
 have ho : okS (Str.join sB ws) = true := okS_of fun ch hc => by
  rcases join_mem hc with z | ⟨w, hw, z⟩
  ·omega
  ·exact okS_mem (h.ok w hw).2 ch z
 refine ⟨ws, rfl, fun w hw => by have := hb w hw; omega, by omega, by decide +kernel, ?_⟩
 rcases both hl2 ho with ⟨d, ⟨xs, rfl⟩, od, sd, rd, dd⟩ | ⟨rd, dd⟩
 ·refine ⟨rfl, up_of rd fun e he => ?_⟩
  subst he
  refine ⟨by show 0 <= 100000; decide, by show 2 <= 100000; decide, ?_⟩
  have go : k41d E [.un, .val .box, s2, .val (.lst true (ws.map D.str)), s4, .val (.str (Str.join sB ws)), .val (.tup [.tup xs, .lst true []])] := k41d_ok (sem_told_ok dd) (by rw [sameOk, sameOks, sd 3, sameOks, sameOk, sameOks, sameOks]; rfl) q
  exact go
 ·refine ⟨rfl, up_of rd fun e he => ?_⟩
  subst he
  refine ⟨by show 0 <= 100000; decide, by show 2 <= 100000; decide, ?_⟩
  refine ⟨by show 3 <= 100000; decide, by show 2 <= 100000; decide, ?_⟩
  have go : k41d E [.un, .val .box, s2, .val (.lst true (ws.map D.str)), s4, .val (.str (Str.join sB ws)), .val (.tup [.non, .lst true [.bl true, .bl false, .bl false]])] := k41d_ok (sem_told_no dd) (by decide +kernel) q
  exact go
theorem law_k41 : lawW 5 w_law_k41 := by
 unfold lawW w_law_k41
 refine ⟨⟨by decide, by decide⟩, ?_⟩
 refine loop_inv (fun _ ρ => ∃ s2 s3 s4 s5 s6, ρ = [.un, .val .box, s2, s3, s4, s5, s6]) ?_ ?_ _ _ ⟨_, _, _, _, _, rfl⟩
 ·rintro k rest ρ E' hn hc hr hb ⟨s2, s3, s4, s5, s6, rfl⟩
  refine ⟨rfl, up_of sem_row fun dd ⟨ws, hd, hw⟩ => ?_⟩
  subst hd
  refine ⟨rfl, use_take (by decide) (by decide) fun a a0 a1 => ⟨⟨by omega, by omega⟩, ?_⟩⟩
  have hr3 : (rngL 0 a.toNat).length <= 2 := by rw [rngL_length]; omega
  refine loop_inv (fun rest ρ => ∃ (ws : List Str) (i j : Nat) (s4 : Sl), ρ = [.un, .val .box, .val k, .val (.lst true (ws.map D.str)), s4, s5, s6] /\ Ws i j ws /\ i + j + rest.length <= 2) ?_ ?_ _ _ ⟨ws, 0, 0, s4, rfl, hw, by omega⟩
  ·rintro t rest2 ρ E2 hn2 hc2 hr2 hb2 ⟨ws, i, j, s4, rfl, hw, hij⟩
   rw [List.length_cons] at hij
   refine ⟨rfl, up_of (sem_spoilt hw (by omega) (by omega)) fun dd ⟨ws', hd, hw'⟩ => ?_⟩
   subst hd
   rcases hw' with z | z
   ·exact hn2 _ ⟨ws', i + 1, j, .val t, rfl, z, by omega⟩
   ·exact hn2 _ ⟨ws', i, j + 1, .val t, rfl, z, by omega⟩
  ·rintro ρ ⟨ws, i, j, s4, rfl, hw, hij⟩
   have go : k41c E' [.un, .val .box, .val k, .val (.lst true (ws.map D.str)), s4, s5, s6] := k41c_ok hw (by simpa using hij) fun s3 s4 s5 s6 => hn _ ⟨_, _, _, _, _, rfl⟩
   exact go
 ·rintro ρ ⟨s2, s3, s4, s5, s6, rfl⟩
  rfl
end Fd
namespace Fen
open PySem L2
def top (i : Nat) : Stmt := PySem.Challenge.pw_fenlevel_k41_rows_read_or_refused.main.body.getD i (.Pass ⟨0, 0, 0, 0⟩)
abbrev pIsMadeOf : Stmt := top 10
abbrev pIsName : Stmt := top 11
abbrev pIsNumber : Stmt := top 12
abbrev pIsRise : Stmt := top 13
abbrev pIsWrittenAs : Stmt := top 16
abbrev pDeedOf : Stmt := top 17
abbrev sBox : Stmt := top 19
abbrev sTake : Stmt := top 20
abbrev sSame : Stmt := top 21
abbrev sNames : Stmt := top 22
abbrev sNamed : Stmt := top 23
abbrev sIsNumber : Stmt := top 24
abbrev sPart : Stmt := top 25
abbrev sRead : Stmt := top 26
abbrev sRow : Stmt := top 27
abbrev sSpoilt : Stmt := top 28
abbrev sToldOfRow : Stmt := top 29
abbrev sLaw : Stmt := top 30
section
variable {P : Program} {w : PySem.World} {K : PySem.W.Frag} {mg : Str -> Option Value} {base : Heap}
theorem scBox : FnScope ["_law_script"] ["_law_script"] (defScope sBox) := ⟨rfl, rfl, rfl, by decide +kernel, rfl, by decide +kernel, by decide +kernel⟩
theorem ok_box {f : Addr} {fd : FuncData} (F : Fun K "_law_box" "_law_box" sBox f fd) (T : Txt K mg) : FnOk P w K mg base CX0 1 f fd ["_law_script"] (spBox K) := by
 refine F.ok scBox (fun vs H Q E h => ?_) (fun cdv A outer s H vs Q E hr h => ?_)
 ·obtain ⟨a, ns, rfl, _⟩ := h
  rfl
 ·obtain ⟨a, ns, rfl, hS, hl, k⟩ := h
  refine ⟨_, pss_one (ps_ret (pe_lst (pa_cons (pe_callTy call_list_of rfl T.list PyProof.Rows.boot_list (pa_cons (pe_slice sl_list (pv 0) po_none (po_some pe_int)) pa_nil)) (pa_cons pe_int (pa_cons pe_int (pa_cons pe_int pa_nil)))))), ?_⟩
  refine ⟨_, rfl, _, rfl, a, _, rfl, hS, fun p hp => ?_⟩
  rw [cut63 hl]
  refine ⟨p, _, rfl, .inl (SqL.of upd_same), fun c hc => ⟨by show 4 <= sizeLine; decide, fun b hb => ?_⟩⟩
  have hcp : c ≠ p := fun z => by rw [z, upd_same] at hc; cases hc
  have hbc : b ≠ c := fun z => by rw [z, upd_same] at hb; cases hb
  have hb1 : upd H p (.lst (ns.map V.int)) b = none := by rw [upd_ne hbc] at hb; exact hb
  have hbp : b ≠ p := fun z => by rw [z, upd_same] at hb1; cases hb1
  have hc0 : H c = none := by rw [upd_ne hcp] at hc; exact hc
  have hb0 : H b = none := by rw [upd_ne hbp] at hb1; exact hb1
  refine k b c _ hb0 ⟨⟨0, 0, 17, upd_same, by decide, by decide, by decide, by decide⟩, by rw [upd_ne hbc.symm, upd_same], hl⟩ fun x o e => ?_
  rw [upd_ne (ne_of_none e hb0), upd_ne (ne_of_none e hc0), upd_ne (ne_of_none e hp)]
  exact e
theorem scTake : FnScope ["_law_box_here", "_law_many", "_law_rest", "_law_cell", "_law_seed"] ["_law_box_here", "_law_many"] (defScope sTake) := ⟨rfl, rfl, rfl, by decide +kernel, rfl, by decide +kernel, by decide +kernel⟩
theorem ok_take {f : Addr} {fd : FuncData} (F : Fun K "_law_take" "_law_take" sTake f fd) (T : Txt K mg) : FnOk P w K mg base CX0 1 f fd ["_law_box_here", "_law_many"] spTake := by
 refine F.ok scTake (fun vs H Q E h => ?_) (fun cdv A outer s H vs Q E hr h => ?_)
 ·obtain ⟨b, c, ns, m, rfl, _⟩ := h
  rfl
 ·obtain ⟨b, c, ns, m, rfl, B, m0, m1, k⟩ := h
  refine ⟨_, pss_cons (ps_if (pt_cmpR op_gt (pe_ix ix_list (pv 0) pe_int (fun _ _ => rfl)) pe_int (nomark _))
    (pss_cons (ps_set (i := 2) scTake.nd rfl (Or.inl rfl) (pe_ix ix_list (pv 0) pe_int (fun _ _ => rfl)))
    (pss_cons (ps_asg (pe_op op_fdivW (pv 2) (pv 1)) (pg_sub (pv 0) pe_int set_list))
    (pss_one (ps_ret (pe_op op_mod (pv 2) (pv 1)))))) pss_nil)
   (pss_cons (ps_set (i := 3) scTake.nd rfl (Or.inl rfl) pe_int)
   (pss_cons (ps_if (pt_cmpR op_lt (pe_ix ix_list (pv 0) pe_int (fun _ _ => rfl)) (pe_callB call_len_seq rfl T.len PySem.boot_len (pa_cons (pe_ix ix_list (pv 0) pe_int (fun _ _ => rfl)) pa_nil)) (nomark _))
    (pss_cons (ps_set (i := 3) scTake.nd rfl (Or.inl rfl) (pe_ix ix_list (pe_ix ix_list (pv 0) pe_int (fun _ _ => rfl)) (pe_ix ix_list (pv 0) pe_int (fun _ _ => rfl)) (fun _ _ => rfl)))
    (pss_one (ps_augS (pv 0) pe_int get_list pe_int ip_add set_list))) pss_nil)
   (pss_cons (ps_if (pt_cmpR op_ge (pv 3) (pe_op op_pow pe_int pe_int) (nomark _))
    (pss_cons (ps_asg (pe_op op_fdivW (pv 3) (pv 1)) (pg_sub (pv 0) pe_int set_list))
    (pss_one (ps_ret (pe_op op_mod (pv 3) (pv 1))))) pss_nil)
   (pss_cons (ps_set (i := 4) scTake.nd rfl (Or.inl rfl) (pe_ix ix_list (pv 0) pe_int (fun _ _ => rfl)))
   (pss_cons (ps_set (i := 4) scTake.nd rfl (Or.inl rfl) (pe_op op_add (pe_op op_add (pe_op op_pow (pv 4) pe_int) (pe_op op_mul pe_int (pv 4))) (pe_op op_mul pe_int (pe_op op_mod (pv 3) pe_int))))
   (pss_cons (ps_asg (pe_op op_mod (pe_op op_add (pv 4) pe_int) pe_int) (pg_sub (pv 0) pe_int set_list))
   (pss_one (ps_ret (pe_op op_mod (pe_op op_fdiv (pe_ix ix_list (pv 0) pe_int (fun _ _ => rfl)) pe_int) (pv 1)))))))))), ?_⟩
  obtain ⟨p, r, d, e, hp0, hr0, hd0, hd1⟩ := B.ex
  refine ⟨_, rfl, b, _, _, .int r, rfl, rfl, SqL.of e, rfl, _, _, rfl, rfl, _, rfl, ?_⟩
  refine ite2 (fun h0 => ?_) (fun h0 => ?_)
  ·refine ⟨_, rfl, b, _, _, .int r, rfl, rfl, SqL.of e, rfl, ?_⟩
   refine ⟨_, rfl, _, rfl, _, _, rfl, rfl, ⟨m0, m1⟩, _, rfl, b, _, _, 2, rfl, rfl, e, rfl, ?_⟩
   refine ⟨_, rfl, _, rfl, _, _, rfl, rfl, m0, ?_⟩
   exact k _ _ (Int.emod_nonneg _ (by omega)) (Int.emod_lt_of_pos _ m0) (B.put hp0 (Int.ediv_nonneg hr0 (by omega)) hd0 hd1) Ext.upd
  refine ⟨_, rfl, b, _, _, .int p, rfl, rfl, SqL.of e, rfl, _, rfl, b, _, _, .ref c, rfl, rfl, SqL.of e, rfl, c, _, rfl, .inl (SqL.of B.cells), _, _, rfl, rfl, _, rfl, ?_⟩
  refine ite2 (fun h1 => ?_) (fun h1 => ?_)
  ·have hlt := of_decide_eq_true h1
   rw [List.length_map] at hlt
   obtain ⟨z, hz⟩ : ∃ z, ns[p.toNat]? = some z := ⟨_, List.getElem?_eq_getElem (by omega)⟩
   have hat : atI (ns.map V.int) p = some (.int z) := by
    have q := atI_nat (xs := ns.map V.int) (j := p.toNat) (v := .int z) (by rw [List.getElem?_map, hz]; rfl)
    rwa [Int.toNat_of_nonneg hp0] at q
   refine ⟨_, rfl, b, _, _, .ref c, rfl, rfl, SqL.of e, rfl, _, rfl, b, _, _, .int p, rfl, rfl, SqL.of e, rfl, c, _, _, .int z, rfl, rfl, SqL.of B.cells, hat, ?_⟩
   refine ⟨_, rfl, b, _, 1, .int p, rfl, rfl, SqL.of e, rfl, _, _, rfl, rfl, b, _, _, 1, rfl, rfl, e, rfl, ?_⟩
   have e1 : upd H b (boxV c (p + 1) r d) b = some (boxV c (p + 1) r d) := upd_same
   have hp1 : 0 <= p + 1 := by omega
   have B1 := B.put hp1 hr0 hd0 hd1
   have X1 : Ext b H (upd H b (boxV c (p + 1) r d)) := Ext.upd
   refine ⟨_, rfl, _, _, rfl, rfl, ⟨by decide, by decide, by decide⟩, _, _, rfl, rfl, _, rfl, ?_⟩
   refine ite2 (fun h2 => ?_) (fun h2 => ?_)
   ·refine ⟨_, rfl, _, rfl, _, _, rfl, rfl, ⟨m0, m1⟩, _, rfl, b, _, _, 2, rfl, rfl, e1, rfl, _, rfl, _, rfl, _, _, rfl, rfl, m0, ?_⟩
    have hz0 : (0 : Int) <= z := by
     have := of_decide_eq_true h2
     exact Int.le_trans (by decide) this
    exact k _ _ (Int.emod_nonneg _ (by omega)) (Int.emod_lt_of_pos _ m0) (B1.put hp1 (Int.ediv_nonneg hz0 (by omega)) hd0 hd1) (X1.trans Ext.upd)
   ·refine ⟨_, rfl, b, _, _, .int d, rfl, rfl, SqL.of e1, rfl, ?_⟩
    refine ⟨_, rfl, _, _, rfl, rfl, ⟨by decide, by decide, by omega⟩, _, rfl, _, _, rfl, rfl, .inl ⟨by decide, by decide⟩, _, _, rfl, rfl, _, rfl, _, _, rfl, rfl, (by show (0 : Int) < 2147483629; decide), _, _, rfl, rfl, .inl ⟨by decide, by decide⟩, _, _, rfl, rfl, ?_⟩
    refine ⟨_, rfl, _, _, rfl, rfl, _, _, rfl, rfl, (by show (0 : Int) < 2147483629; decide), _, rfl, b, _, _, 3, rfl, rfl, e1, rfl, ?_⟩
    refine ⟨_, rfl, b, _, _, _, rfl, rfl, SqL.of upd_same, rfl, _, _, rfl, rfl, ⟨by decide, by decide⟩, _, rfl, _, _, rfl, rfl, m0, ?_⟩
    exact k _ _ (Int.emod_nonneg _ (by omega)) (Int.emod_lt_of_pos _ m0) (B1.put hp1 hr0 (Int.emod_nonneg _ (by decide)) (Int.emod_lt_of_pos _ (by decide))) (X1.trans Ext.upd)
  ·have e1 := e
   have hp1 := hp0
   have B1 := B
   have X1 : Ext b H H := Ext.refl _ _
   refine ⟨_, rfl, _, _, rfl, rfl, ⟨by decide, by decide, by decide⟩, _, _, rfl, rfl, _, rfl, ?_⟩
   refine ite2 (fun h2 => ?_) (fun h2 => ?_)
   ·refine ⟨_, rfl, _, rfl, _, _, rfl, rfl, ⟨m0, m1⟩, _, rfl, b, _, _, 2, rfl, rfl, e1, rfl, _, rfl, _, rfl, _, _, rfl, rfl, m0, ?_⟩
    have hz0 : (0 : Int) <= 0 := Int.le_refl _
    exact k _ _ (Int.emod_nonneg _ (by omega)) (Int.emod_lt_of_pos _ m0) (B1.put hp1 (Int.ediv_nonneg hz0 (by omega)) hd0 hd1) (X1.trans Ext.upd)
   ·refine ⟨_, rfl, b, _, _, .int d, rfl, rfl, SqL.of e1, rfl, ?_⟩
    refine ⟨_, rfl, _, _, rfl, rfl, ⟨by decide, by decide, by omega⟩, _, rfl, _, _, rfl, rfl, .inl ⟨by decide, by decide⟩, _, _, rfl, rfl, _, rfl, _, _, rfl, rfl, (by show (0 : Int) < 2147483629; decide), _, _, rfl, rfl, .inl ⟨by decide, by decide⟩, _, _, rfl, rfl, ?_⟩
    refine ⟨_, rfl, _, _, rfl, rfl, _, _, rfl, rfl, (by show (0 : Int) < 2147483629; decide), _, rfl, b, _, _, 3, rfl, rfl, e1, rfl, ?_⟩
    refine ⟨_, rfl, b, _, _, _, rfl, rfl, SqL.of upd_same, rfl, _, _, rfl, rfl, ⟨by decide, by decide⟩, _, rfl, _, _, rfl, rfl, m0, ?_⟩
    exact k _ _ (Int.emod_nonneg _ (by omega)) (Int.emod_lt_of_pos _ m0) (B1.put hp1 hr0 (Int.emod_nonneg _ (by decide)) (Int.emod_lt_of_pos _ (by decide))) (X1.trans Ext.upd)
end
end Fen
namespace Fd
open PySem L2
section
variable {P : Program} {w : World} {K : PySem.W.Frag} {mg : Str -> Option Value} {base : Heap}
theorem ok_take {f : Addr} {fd : FuncData} (F : Fun K "_law_take" "_law_take" Fen.sTake f fd) (T : Bt mg) : FnOk P w K mg base CX0 1 f fd ["_law_box_here", "_law_many"] (spD K 2 w__law_take) := by
 refine (Fen.ok_take F ⟨T.list, T.len, T.range⟩).imp fun vs H Q E ⟨β, G, ds, gh, bx, hv, hl, P', q, hP⟩ => ?_
 unfold w__law_take at q
 split at q
 ·rename_i m
  obtain ⟨v1, v2, rfl, e1, e2⟩ := reps2 hv
  cases e1; cases e2
  obtain ⟨cc, p, r, d, ns, hb, p0, r0, d0, d1, hc, hn⟩ := bx.ex
  refine ⟨β, cc, ns, m, rfl, ⟨⟨p, r, d, hb, p0, r0, d0, d1⟩, gh _ _ hc, hn⟩, q.1.1, q.1.2, fun x H' x0 x1 B X => ?_⟩
  refine hP _ (q.2 x x0 x1) _ H' G ⟨Same.refl _, fun a o e => ?_, fun a o n e => X a o n e, fun a e => .inl e, ⟨?_, bx.still⟩, fun z => by (rw [hb] at z; cases z), fun cc2 p2 r2 d2 h2 => by
   rw [hb] at h2
   cases h2
   obtain ⟨p', r', d', e', _⟩ := B.ex
   exact ⟨p', r', d', e'⟩⟩ rfl
  ·have na : a ≠ β := fun z => by rw [z, bx.still] at e; cases e
   exact X a o na (gh a o e)
  ·obtain ⟨p', r', d', e', q'⟩ := B.ex
   exact ⟨cc, p', r', d', ns, e', q'.1, q'.2.1, q'.2.2.1, q'.2.2.2, hc, hn⟩
 ·exact q.elim
def spLaw (K : PySem.W.Frag) : Sp := fun vs H Q _ => ∃ (a : Addr) (ns : List Int), vs = [.ref a] /\ SqL K H a (ns.map V.int) /\ ns.length <= 63 /\ ∀ H', Q (.bl true) H'
theorem law_ok {f : Addr} {fd : FuncData} {st : Stmt} {rest : List Stmt} {N : List Str} {n k : Nat} {B : WS} {p1 p2 p3 p4 p5 : Pos} (F : Fun K "law" "law" st f fd)
  (hbd : defBody st = .Assign [.Name "_law_box_here" p1] (.Call (.Name "_law_box" p2) [.Name "_law_script" p3] [] p4) p5 :: rest)
  (cB : Cal P w K mg base "_law_box" 1 ["_law_script"] (Fen.spBox K))
  (hB : ∀ {cdv : Value} {A : Around} {outer : List PySem.Env} {s : Shared} {H : Hp} {E : XK} {β : Addr} {H1 G1 : Hp}, (("_law_script" :: "_law_box_here" :: N : List Str)).Nodup -> Room k (A.deeper (PyProof.Rows.envOfC "law" (defScope st) s.heap.objs.size f cdv)) ->
   DSs (cxOf CX0 P w K mg base ("_law_script" :: "_law_box_here" :: N) "law" (defScope st) f cdv A outer s H E).nox ⟨K, β, H1, G1⟩ rest B)
  (h : lawW n B) (hN : N.length = n := by rfl) (S : FnScope ("_law_script" :: "_law_box_here" :: N) ["_law_script"] (defScope st) := by exact ⟨rfl, rfl, rfl, by decide +kernel, rfl, by decide +kernel, by decide +kernel⟩)
  (hgl : (defScope st).names.lookup ("_law_box" : Str) = some .globalImplicit := by decide +kernel) (hs0 : (defScope st).names.lookup ("_law_script" : Str) = some .local := by decide +kernel) (hs1 : (defScope st).names.lookup ("_law_box_here" : Str) = some .local \/ (defScope st).names.lookup ("_law_box_here" : Str) = some .cell := by decide +kernel) (hk : 1 <= k := by decide) : FnOk P w K mg base CX0 (k + 1) f fd ["_law_script"] (spLaw K) := by
 refine F.ok S (fun vs H Q E ⟨a, ns, e, _⟩ => by rw [e]; rfl) (fun cdv A outer s H vs Q E hr ⟨a, ns, e, hS, hl, q⟩ => ?_)
 subst e
 have hrest : PSs (cxOf CX0 P w K mg base ("_law_script" :: "_law_box_here" :: N) "law" (defScope st) f cdv A outer s H E).nox rest (fun D σ H' => ∃ β H1 G1, tDS ⟨K, β, H1, G1⟩ B D σ H') := fun pins s' σ H' D I ⟨β, H1, G1, z⟩ => (@hB cdv A outer s H E β H1 G1 S.nd hr).pss pins s' σ H' D I z
 rw [hbd]
 obtain ⟨fB, fdB, FB, mB, kB, bB⟩ := cB.ex
 refine ⟨_, pss_cons (ps_set (i := 1) S.nd rfl hs1 (pe_call FB (hr.mono hk) hgl mB kB bB .nil pass0 (pa_cons (pe_var (i := 0) rfl (.inl hs0)) pa_nil)) rfl (.inl rfl)) hrest, ?_⟩
 refine ⟨.ref a, rfl, a, ns, rfl, hS, hl, fun b cc H1 hb Bx Sm => ?_⟩
 obtain ⟨p, r, d, e, p0, r0, d0, d1⟩ := Bx.ex
 have hcc := Bx.cells
 have nb : b ≠ cc := Bx.ne
 let G1 : Hp := fun x => if x = cc then some (.lst (ns.map V.int)) else none
 have gcc : G1 cc = some (.lst (ns.map V.int)) := by show (if cc = cc then _ else _) = _; rw [if_pos rfl]
 have gb : G1 b = none := by show (if b = cc then _ else _) = _; rw [if_neg nb]
 have gh : Same G1 H1 := fun x o ex => by
  have ex' : (if x = cc then some (HO.lst (ns.map V.int)) else none) = some o := ex
  split at ex'
  ·rename_i z; rw [z, hcc]; exact ex'
  ·cases ex'
 have bx : BoxD b H1 G1 := ⟨⟨cc, p, r, d, ns, e, p0, r0, d0, d1, gcc, Bx.few⟩, gb⟩
 refine ⟨b, H1, G1, .un :: .val .box :: List.replicate n .un, G1, ⟨?_, Stp.refl gh bx, fun i sl ei => ?_, fun i j x xs ys ei => ?_⟩, (@hB cdv A outer s H E b H1 G1 S.nd hr).mono { nx := fun _ => False, rt := fun d => d = .bl true, bk := fun _ => False, ct := fun _ => False } _ _ ⟨fun ρ z => z.elim, fun d z v H' G' t ev => ?_, fun ρ z => z.elim, fun ρ z => z.elim⟩ h⟩
 ·simp [L2.start, hN]
 ·match i with
  | 0 => cases ei; trivial
  | 1 => cases ei; exact ⟨.ref b, rfl, rfl⟩
  | i + 2 =>
   rw [List.getElem?_cons_succ, List.getElem?_cons_succ, List.getElem?_replicate] at ei
   split at ei <;> cases ei
   trivial
 ·match i with
  | 0 => cases ei
  | 1 => cases ei
  | i + 2 =>
   rw [List.getElem?_cons_succ, List.getElem?_cons_succ, List.getElem?_replicate] at ei
   split at ei <;> cases ei
 ·subst z
  cases ev
  exact q H'
end
end Fd
namespace Fd
open PySem L2 Fen
section
variable {P : Program} {w : World} {K : PySem.W.Frag} {mg : Str -> Option Value} {base : Heap}
local macro_rules | `(tactic| decreasing_trivial) => `(tactic| first | assumption | exact Bt.len ‹_› | exact Bt.range ‹_› | exact Bt.list ‹_› | exact Bt.isinstance ‹_› | exact Bt.all ‹_› | exact Bt.tuple ‹_› | exact Bt.sorted ‹_› | exact Bt.set ‹_› | exact Bt.zip ‹_› | exact Bt.enumerate ‹_› | exact Bt.any ‹_› | exact Bt.min ‹_› | exact Bt.max ‹_› | exact Bt.int ‹_› | exact Bt.bool ‹_› | exact Bt.str ‹_› | exact Room.mono ‹_› (by first | decide | omega) | exact Room.units ‹_› | exact PyProof.Rows.boot_list | exact PyProof.Rows.boot_tuple | exact PyProof.Rows.boot_int | exact PyProof.Rows.boot_bool | exact PyProof.Rows.boot_str | decide | exact ndB_of (by kernel_rfl))
structure Xh (K : PySem.W.Frag) (mg : Str -> Option Value) (aFenError aBadName aNoDeed aNoPage : Addr) : Prop where
 m_FenError : mg "FenError" = some (.ref aFenError)
 m_BadName : mg "BadName" = some (.ref aBadName)
 m_NoDeed : mg "NoDeed" = some (.ref aNoDeed)
 m_NoPage : mg "NoPage" = some (.ref aNoPage)
 o_NoDeed : PySem.W.excIn K aNoDeed mroVE "ValueError.__new__" = true
 x_NoDeed : PySem.W.exmOne K (.ref aNoDeed) (.ref aFenError) = some true
 k_NoDeed : ExK K aNoDeed
 t_NoDeed_NoDeed : PySem.W.kitOne K (.ref aNoDeed) (.ref aNoDeed) = some true
 t_NoDeed_NoPage : PySem.W.kitOne K (.ref aNoDeed) (.ref aNoPage) = some false
 t_NoDeed_BadName : PySem.W.kitOne K (.ref aNoDeed) (.ref aBadName) = some false
theorem ok_is_made_of (F : Fun K "is_made_of" "is_made_of" pIsMadeOf f fd) (T : Bt mg)  : FnOk P w K mg base CX0 1 f fd ["text", "signs", "longest"] (spD K 3 w_is_made_of) :=
 fn_ok (N := ["text", "signs", "longest"]) F fun _ _ =>
 (s_one (s_ret (d_and (d_leLe dk_int (d_lenX (a_cons (dv 0) a_nil)) (dv 2)) (d_one (d_all (a_cons (DF.de (f_lcomp (Nc := ["sign", "signs"]) (.nm 0) (i_seqX (dv 0)) (gn 0) if_none (d_inX (dv 0) (dv 1)))) a_nil))))))
theorem ok_is_name (F : Fun K "is_name" "is_name" pIsName f fd) (T : Bt mg) (c_is_made_of : Cal P w K mg base "is_made_of" 1 ["text", "signs", "longest"] (spD K 3 w_is_made_of)) {t_LONGEST_NAME : Tok} (g_LONGEST_NAME : mg "LONGEST_NAME" = some (.int 8 t_LONGEST_NAME)) {t_LETTERS : Tok} (g_LETTERS : mg "LETTERS" = some (.str "abcdefghijklmnopqrstuvwxyz" t_LETTERS)) : FnOk P w K mg base CX0 2 f fd ["text"] (spD K 1 w_is_name) :=
 fn_ok (N := ["text"]) F fun _ _ =>
 (s_one (s_ret (d_call c_is_made_of (a_cons (dv 0) (a_cons (dg_str g_LETTERS) (a_cons (dg_int g_LONGEST_NAME) a_nil))))))
theorem ok_is_number (F : Fun K "is_number" "is_number" pIsNumber f fd) (T : Bt mg) (c_is_made_of : Cal P w K mg base "is_made_of" 1 ["text", "signs", "longest"] (spD K 3 w_is_made_of)) {t_LONGEST_NUMBER : Tok} (g_LONGEST_NUMBER : mg "LONGEST_NUMBER" = some (.int 10 t_LONGEST_NUMBER)) {t_FIGURES : Tok} (g_FIGURES : mg "FIGURES" = some (.str "0123456789" t_FIGURES)) : FnOk P w K mg base CX0 2 f fd ["text"] (spD K 1 w_is_number) :=
 fn_ok (N := ["text"]) F fun _ _ =>
 (s_one (s_ret (d_and (d_call c_is_made_of (a_cons (dv 0) (a_cons (dg_str g_FIGURES) (a_cons (dg_int g_LONGEST_NUMBER) a_nil)))) (d_one (d_or (d_eq (dv 0) dk_str) (d_one (d_not (d_sw (dv 0) dk_str))))))))
theorem ok_is_rise (F : Fun K "is_rise" "is_rise" pIsRise f fd) (T : Bt mg) (c_is_number : Cal P w K mg base "is_number" 2 ["text"] (spD K 1 w_is_number)) : FnOk P w K mg base CX0 3 f fd ["text"] (spD K 1 w_is_rise) :=
 fn_ok (N := ["text"]) F fun _ _ =>
 (s_cons (s_if (t_tru (d_sw (dv 0) dk_str)) (s_one (s_ret (d_and (d_ne (dv 0) dk_str) (d_one (d_call c_is_number (a_cons (d_slX (dv 0) (o_some dk_int) o_none) a_nil)))))) s_nil)
  (s_one (s_ret (d_call c_is_number (a_cons (dv 0) a_nil)))))
theorem ok_is_written_as (F : Fun K "is_written_as" "is_written_as" pIsWrittenAs f fd) (T : Bt mg) (c_is_rise : Cal P w K mg base "is_rise" 3 ["text"] (spD K 1 w_is_rise)) (c_is_name : Cal P w K mg base "is_name" 2 ["text"] (spD K 1 w_is_name)) (c_is_number : Cal P w K mg base "is_number" 2 ["text"] (spD K 1 w_is_number)) : FnOk P w K mg base CX0 4 f fd ["kind", "text"] (spD K 2 w_is_written_as) :=
 fn_ok (N := ["kind", "text"]) F fun _ _ =>
 (s_cons (s_if (t_eq (dv 0) dk_str) (s_one (s_ret (d_call c_is_name (a_cons (dv 1) a_nil)))) s_nil)
  (s_cons (s_if (t_eq (dv 0) dk_str) (s_one (s_ret (d_call c_is_number (a_cons (dv 1) a_nil)))) s_nil)
  (s_one (s_ret (d_call c_is_rise (a_cons (dv 1) a_nil))))))
theorem ok_deed_of (F : Fun K "deed_of" "deed_of" pDeedOf f fd) (T : Bt mg) (c_is_written_as : Cal P w K mg base "is_written_as" 4 ["kind", "text"] (spD K 2 w_is_written_as)) {aFenError aBadName aNoDeed aNoPage : Addr} (xh : Xh K mg aFenError aBadName aNoDeed aNoPage) (g_FORMS : GDict P w K mg "FORMS" kv_FORMS) : FnOk P w K mg base (CXN P w) 5 f fd ["text"] (spDX K mg 1 w_deed_ofX) :=
 fn_okX (N := ["text", "word", "texts", "kinds", "parts"]) F fun Y hY _ _ =>
 (s_cons (DS.nox (s_star 1 2 (d_split (dv 0) dk_str)))
  (s_cons (s_if (DT.nox (DW.dt (w_or (t_notInG g_FORMS (dv 1)) (w_or1 (t_ne (d_lenX (a_cons (d_ixG g_FORMS (dv 1)) a_nil)) (d_lenX (a_cons (dv 2) a_nil))))))) (s_one (s_raise (a_cons dk_str a_nil) (fun _ _ _ _ _ _ _ _ I t m y => raised I m (hY _ _ _ _ y xh.m_NoDeed t)) xh.o_NoDeed xh.m_NoDeed)) s_nil)
  (s_cons (DS.nox (s_set 3 (d_ixG g_FORMS (dv 1))))
  (s_cons (s_if (DT.nox (t_not (t_tru (d_all (a_cons (DF.de (f_lcomp (Nc := ["kind", "part"]) (.tp 2 (.cons (.nm 0) (.cons (.nm 1) .nil))) (i_zipX (dv 3) (dv 2)) (pg_seq (n := 2) rfl (pgs_cons (gn 0) (pgs_cons (gn 1) pgs_nil))) if_none (d_call c_is_written_as (a_cons (dv 0) (a_cons (dv 1) a_nil))))) a_nil))))) (s_one (s_raise (a_cons dk_str a_nil) (fun _ _ _ _ _ _ _ _ I t m y => raised I m (hY _ _ _ _ y xh.m_NoDeed t)) xh.o_NoDeed xh.m_NoDeed)) s_nil)
  (s_cons (DS.nox (s_setL 4 (Nc := ["kind", "part"]) (.tp 2 (.cons (.nm 0) (.cons (.nm 1) .nil))) (i_zipX (dv 3) (dv 2)) (pg_seq (n := 2) rfl (pgs_cons (gn 0) (pgs_cons (gn 1) pgs_nil))) if_none (d_if (t_eq (dv 0) dk_str) (dv 1) (d_intX (a_cons (dv 1) a_nil)))))
  (s_one (DS.nox (s_ret (d_tupOf (a_cons (d_add (DF.de (f_lst (a_cons (dv 1) a_nil))) (dv 4)) a_nil))))))))))
theorem ok__law_same (F : Fun K "_law_same" "_law_same" sSame f fd) (hm : mg "_law_same" = some (.ref f)) (hb : Binds K fd ["_law_found", "_law_due"] []) (T : Bt mg)  : ∀ n, FnOk P w K mg base CX0 (1 + n) f fd ["_law_found", "_law_due"] (spD K 2 (w__law_same n))
 | 0 => ⟨fun vs H Q E ⟨β, G, ds, _, _, _, h, _⟩ => h, fun A outer s H args us vs Q E _ _ _ _ ⟨β, G, ds, _, _, _, _, P, z, _⟩ => z.elim⟩
 | n + 1 => by
  have cSelf : Cal P w K mg base "_law_same" (1 + n) ["_law_found", "_law_due"] (spD K 2 (w__law_same n)) := Cal.of F (ok__law_same F hm hb T  n) hm hb
  exact fn_ok (N := ["_law_found", "_law_due"]) (k := 1 + n) F fun _ _ =>
   (s_cons (s_if (DW.dt (w_or (t_tru (d_isi (dv 1))) (w_or1 (t_tru (d_isi (dv 1)))))) (s_cons (s_if (DW.dt (w_or (t_ne (d_isi (dv 0)) (d_isi (dv 1))) (w_or1 (t_ne (d_isi (dv 0)) (d_isi (dv 1)))))) (s_one (s_ret dk_bl)) s_nil)
  (s_one (s_ret (d_and (d_eq (d_lenX (a_cons (dv 0) a_nil)) (d_lenX (a_cons (dv 1) a_nil))) (d_one (d_all (a_cons (DF.de (f_lcomp (Nc := ["_law_one", "_law_other"]) (.tp 2 (.cons (.nm 0) (.cons (.nm 1) .nil))) (i_zipX (dv 0) (dv 1)) (pg_seq (n := 2) rfl (pgs_cons (gn 0) (pgs_cons (gn 1) pgs_nil))) if_none (d_call cSelf (a_cons (dv 0) (a_cons (dv 1) a_nil))))) a_nil))))))) s_nil)
  (s_cons (s_if (DW.dt (w_or (t_isN (dv 0)) (w_or1 (t_isN (dv 1))))) (s_one (s_ret (d_and (d_isN (dv 0)) (d_one (d_isN (dv 1)))))) s_nil)
  (s_cons (s_if (DW.dt (w_or (t_ne (d_isi (dv 0)) (d_isi (dv 1))) (w_or1 (t_ne (d_isi (dv 0)) (d_isi (dv 1)))))) (s_one (s_ret dk_bl)) s_nil)
  (s_one (s_ret (d_and (d_eq (d_isi (dv 0)) (d_isi (dv 1))) (d_one (d_eq (dv 0) (dv 1)))))))))
theorem ok__law_names (F : Fun K "_law_names" "_law_names" sNames f fd) (T : Bt mg) (c__law_take : Cal P w K mg base "_law_take" 1 ["_law_box_here", "_law_many"] (spD K 2 w__law_take)) : FnOk P w K mg base CX0 2 f fd ["_law_box_here", "_law_many"] (spD K 2 w__law_names) :=
 fn_ok (N := ["_law_box_here", "_law_many", "_law_letters", "_law_size", "_law_place", "_law_like", "_law_first", "_law_rows", "_law_k", "_law_row_here"]) F fun _ _ =>
 (s_cons (s_set 2 dk_str)
  (s_cons (s_set 3 (d_add dk_int (d_call c__law_take (a_cons (dv 0) (a_cons dk_int a_nil)))))
  (s_cons (s_set 4 (d_call c__law_take (a_cons (dv 0) (a_cons (dv 3) a_nil))))
  (s_cons (s_set 5 (d_eq (d_call c__law_take (a_cons (dv 0) (a_cons dk_int a_nil))) dk_int))
  (s_cons (s_setL 6 (Nc := ["_law_k", "_law_box_here"]) (.nm 0) (i_rng1 (dv 3)) (gn 0) if_none (d_call c__law_take (a_cons (dv 1) (a_cons dk_int a_nil))))
  (s_cons (s_own 7 (f_lst a_nil))
  (s_cons (s_for (.nm 8) (i_rng1 (dv 1)) (gn 8) (s_cons (s_own 9 (f_list (dv 6)))
  (s_cons (s_if (t_not (t_tru (dv 5))) (s_one (s_ownL 9 (Nc := ["_law_step", "_law_box_here"]) (.nm 0) (i_rng1 (d_add (d_add (dv 4) dk_int) (d_call c__law_take (a_cons (dv 0) (a_cons (d_sub (dv 3) (dv 4)) a_nil))))) (gn 0) if_none (d_call c__law_take (a_cons (dv 1) (a_cons dk_int a_nil))))) s_nil)
  (s_cons (s_put 9 (d_mod (d_add (d_ixX (dv 6) (dv 4)) (d_mul dk_int (dv 8))) dk_int) (dv 4))
  (s_one (s_frz 9 (s_app 7 (d_join dk_str (DF.de (f_lcomp (Nc := ["_law_one", "_law_letters"]) (.nm 0) (i_seqX (dv 9)) (gn 0) if_none (d_ixX (dv 1) (dv 0))))))))))))
  (s_one (s_frz 7 (s_ret (dv 7)))))))))))
theorem ok__law_named (F : Fun K "_law_named" "_law_named" sNamed f fd) (T : Bt mg)  : FnOk P w K mg base CX0 1 f fd ["_law_word"] (spD K 1 w__law_named) :=
 fn_ok (N := ["_law_word"]) F fun _ _ =>
 (s_one (s_ret (d_and (d_leLe dk_int (d_lenX (a_cons (dv 0) a_nil)) dk_int) (d_one (d_all (a_cons (DF.de (f_lcomp (Nc := ["_law_sign"]) (.nm 0) (i_seqX (dv 0)) (gn 0) if_none (d_inX (dv 0) dk_str))) a_nil))))))
theorem ok__law_is_number (F : Fun K "_law_is_number" "_law_is_number" sIsNumber f fd) (T : Bt mg)  : FnOk P w K mg base CX0 1 f fd ["_law_word"] (spD K 1 w__law_is_number) :=
 fn_ok (N := ["_law_word"]) F fun _ _ =>
 (s_cons (s_if (DW.dt (w_or (t_not (t_leLe dk_int (d_lenX (a_cons (dv 0) a_nil)) dk_int)) (w_or1 (t_not (t_tru (d_all (a_cons (DF.de (f_lcomp (Nc := ["_law_sign"]) (.nm 0) (i_seqX (dv 0)) (gn 0) if_none (d_inX (dv 0) dk_str))) a_nil))))))) (s_one (s_ret dk_bl)) s_nil)
  (s_one (s_ret (d_or (d_eq (dv 0) dk_str) (d_one (d_ne (d_ixX (dv 0) dk_int) dk_str))))))
theorem ok__law_part (F : Fun K "_law_part" "_law_part" sPart f fd) (T : Bt mg) (c__law_is_number : Cal P w K mg base "_law_is_number" 1 ["_law_word"] (spD K 1 w__law_is_number)) (c__law_named : Cal P w K mg base "_law_named" 1 ["_law_word"] (spD K 1 w__law_named)) : FnOk P w K mg base CX0 2 f fd ["_law_kind", "_law_word"] (spD K 2 w__law_part) :=
 fn_ok (N := ["_law_kind", "_law_word"]) F fun _ _ =>
 (s_cons (s_if (t_eq (dv 0) dk_str) (s_one (s_ret (d_ixX (DF.de (f_lst (a_cons dk_non (a_cons (dv 1) a_nil)))) (d_intX (a_cons (d_call c__law_named (a_cons (dv 1) a_nil)) a_nil))))) s_nil)
  (s_cons (s_if (DW.dt (w_and (t_eq (dv 0) dk_str) (w_and (t_eq (d_slX (dv 1) o_none (o_some dk_int)) dk_str) (w_and (t_ne (dv 1) dk_str) (w_and1 (t_tru (d_call c__law_is_number (a_cons (d_slX (dv 1) (o_some dk_int) o_none) a_nil)))))))) (s_one (s_ret (d_neg (d_intX (a_cons (d_slX (dv 1) (o_some dk_int) o_none) a_nil))))) s_nil)
  (s_cons (s_if (t_tru (d_call c__law_is_number (a_cons (dv 1) a_nil))) (s_one (s_ret (d_intX (a_cons (dv 1) a_nil)))) s_nil)
  (s_one (s_ret dk_non)))))
theorem ok__law_read (F : Fun K "_law_read" "_law_read" sRead f fd) (T : Bt mg) (c__law_part : Cal P w K mg base "_law_part" 2 ["_law_kind", "_law_word"] (spD K 2 w__law_part)) : FnOk P w K mg base CX0 3 f fd ["_law_text"] (spD K 1 w__law_read) :=
 fn_ok (N := ["_law_text", "_law_words", "_law_shapes", "_law_shape", "_law_things"]) F fun _ _ =>
 (s_cons (s_set 1 (d_split (dv 0) dk_str))
  (s_shape 2 3 [("mark", "n"), ("hand", "n"), ("run", "nnrn"), ("strike", "c"), ("mend", "cr"), ("settle", "n"), ("aside", "n")] (pps_cons pe_str pe_str (pps_cons pe_str pe_str (pps_cons pe_str pe_str (pps_cons pe_str pe_str (pps_cons pe_str pe_str (pps_cons pe_str pe_str (pps_cons pe_str pe_str pps_nil))))))) (d_ixX (dv 1) dk_int)
  (s_cons (s_if (DW.dt (w_or (t_eq (dv 3) dk_str) (w_or1 (t_ne (d_lenX (a_cons (dv 1) a_nil)) (d_add (d_lenX (a_cons (dv 3) a_nil)) dk_int))))) (s_one (s_ret dk_non)) s_nil)
  (s_cons (s_setL 4 (Nc := ["_law_at", "_law_shape", "_law_words"]) (.nm 0) (i_rng1 (d_lenX (a_cons (dv 3) a_nil))) (gn 0) if_none (d_call c__law_part (a_cons (d_ixX (dv 1) (dv 0)) (a_cons (d_ixX (dv 2) (d_add (dv 0) dk_int)) a_nil))))
  (s_cons (s_if (t_inX dk_non (dv 4)) (s_one (s_ret dk_non)) s_nil)
  (s_one (s_ret (d_add (d_tup (a_cons (d_ixX (dv 1) dk_int) a_nil)) (d_tupOf (a_cons (dv 4) a_nil))))))))))
theorem ok__law_row (F : Fun K "_law_row" "_law_row" sRow f fd) (T : Bt mg) (c__law_names : Cal P w K mg base "_law_names" 2 ["_law_box_here", "_law_many"] (spD K 2 w__law_names)) (c__law_take : Cal P w K mg base "_law_take" 1 ["_law_box_here", "_law_many"] (spD K 2 w__law_take)) : FnOk P w K mg base CX0 3 f fd ["_law_box_here"] (spD K 1 w__law_row) :=
 fn_ok (N := ["_law_box_here", "_law_names_here", "_law_word", "_law_number", "_law_rise"]) F fun _ _ =>
 (s_cons (s_set 1 (d_call c__law_names (a_cons (dv 0) (a_cons dk_int a_nil))))
  (s_cons (s_set 2 (d_ixX (DF.de (f_lst (a_cons dk_str (a_cons dk_str (a_cons dk_str (a_cons dk_str (a_cons dk_str (a_cons dk_str (a_cons dk_str (a_cons dk_str (a_cons dk_str a_nil))))))))))) (d_call c__law_take (a_cons (dv 0) (a_cons dk_int a_nil)))))
  (s_cons (s_set 3 (d_ixX (DF.de (f_lst (a_cons dk_int (a_cons (d_call c__law_take (a_cons (dv 0) (a_cons (d_pow dk_int dk_int) a_nil))) (a_cons (d_call c__law_take (a_cons (dv 0) (a_cons dk_int a_nil))) (a_cons dk_int a_nil)))))) (d_call c__law_take (a_cons (dv 0) (a_cons dk_int a_nil)))))
  (s_cons (s_set 4 (d_str (a_cons (d_mul (dv 3) (d_sub dk_int (d_mul dk_int (d_call c__law_take (a_cons (dv 0) (a_cons dk_int a_nil)))))) a_nil)))
  (s_cons (s_if (t_eq (dv 2) dk_str) (s_one (s_ret (DF.de (f_lst (a_cons (dv 2) (a_cons (d_ixX (dv 1) dk_int) (a_cons (d_ixX (dv 1) dk_int) (a_cons (dv 4) (a_cons (d_ixX (dv 1) dk_int) a_nil))))))))) s_nil)
  (s_cons (s_if (t_eq (dv 2) dk_str) (s_one (s_ret (DF.de (f_lst (a_cons (dv 2) (a_cons (d_str (a_cons (dv 3) a_nil)) (a_cons (dv 4) a_nil))))))) s_nil)
  (s_one (s_ret (DF.de (f_lst (a_cons (dv 2) (a_cons (d_ixX (DF.de (f_lst (a_cons (d_ixX (dv 1) dk_int) (a_cons (d_str (a_cons (dv 3) a_nil)) a_nil)))) (d_intX (a_cons (d_inX (dv 2) (d_tup (a_cons dk_str (a_cons dk_str a_nil)))) a_nil))) a_nil))))))))))))
theorem ok__law_spoilt (F : Fun K "_law_spoilt" "_law_spoilt" sSpoilt f fd) (T : Bt mg) (c__law_take : Cal P w K mg base "_law_take" 1 ["_law_box_here", "_law_many"] (spD K 2 w__law_take)) : FnOk P w K mg base CX0 2 f fd ["_law_box_here", "_law_words"] (spD K 2 w__law_spoilt) :=
 fn_ok (N := ["_law_box_here", "_law_words", "_law_way", "_law_at", "_law_here", "_law_some", "_law_signs", "_law_sign", "_law_place", "_law_word"]) F fun _ _ =>
 (s_cons (s_set 2 (d_call c__law_take (a_cons (dv 0) (a_cons dk_int a_nil))))
  (s_cons (s_set 3 (d_call c__law_take (a_cons (dv 0) (a_cons (d_lenX (a_cons (dv 1) a_nil)) a_nil))))
  (s_cons (s_set 4 (d_ixX (dv 1) (dv 3)))
  (s_cons (s_if (DW.dt (w_and (t_eq (dv 2) dk_int) (w_and1 (t_gt (d_lenX (a_cons (dv 1) a_nil)) dk_int)))) (s_one (s_ret (d_add (d_slX (dv 1) o_none (o_some (dv 3))) (d_slX (dv 1) (o_some (d_add (dv 3) dk_int)) o_none)))) s_nil)
  (s_cons (s_if (t_eq (dv 2) dk_int) (s_one (s_ret (d_add (d_add (d_slX (dv 1) o_none (o_some (dv 3))) (DF.de (f_lst (a_cons (dv 4) a_nil)))) (d_slX (dv 1) (o_some (dv 3)) o_none)))) s_nil)
  (s_cons (s_if (t_eq (dv 2) dk_int) (s_one (s_ret (d_add (d_add (d_slX (dv 1) o_none (o_some (d_add (dv 3) dk_int))) (DF.de (f_lst (a_cons dk_str a_nil)))) (d_slX (dv 1) (o_some (d_add (dv 3) dk_int)) o_none)))) s_nil)
  (s_cons (s_if (t_eq (dv 2) dk_int) (s_cons (s_set 5 (DF.de (f_lst (a_cons (d_add dk_str (dv 4)) (a_cons (d_add (dv 4) dk_str) (a_cons (d_add (dv 4) dk_str) (a_cons (d_add dk_str (dv 4)) (a_cons (d_mulX (dv 4) dk_int) a_nil))))))))
  (s_one (s_ret (d_add (d_add (d_slX (dv 1) o_none (o_some (dv 3))) (DF.de (f_lst (a_cons (d_ixX (dv 5) (d_call c__law_take (a_cons (dv 0) (a_cons dk_int a_nil)))) a_nil)))) (d_slX (dv 1) (o_some (d_add (dv 3) dk_int)) o_none))))) s_nil)
  (s_cons (s_set 6 dk_str)
  (s_cons (s_set 7 (d_ixX (dv 6) (d_call c__law_take (a_cons (dv 0) (a_cons (d_lenX (a_cons (dv 6) a_nil)) a_nil)))))
  (s_cons (s_set 8 (d_call c__law_take (a_cons (dv 0) (a_cons (d_add (d_lenX (a_cons (dv 4) a_nil)) dk_int) a_nil))))
  (s_cons (s_set 9 (d_add (d_add (d_slX (dv 4) o_none (o_some (dv 8))) (dv 7)) (d_slX (dv 4) (o_some (d_add (dv 8) (d_mod (dv 2) dk_int))) o_none)))
  (s_one (s_ret (d_add (d_add (d_slX (dv 1) o_none (o_some (dv 3))) (DF.de (f_lst (a_cons (dv 9) a_nil)))) (d_slX (dv 1) (o_some (d_add (dv 3) dk_int)) o_none)))))))))))))))
theorem ok__law_told_of_row (F : Fun K "_law_told_of_row" "_law_told_of_row" sToldOfRow f fd) (T : Bt mg) (c_deed_of : CalX P w K mg base "deed_of" 5 ["text"] (spDX K mg 1 w_deed_ofX)) {aFenError aBadName aNoDeed aNoPage : Addr} (xh : Xh K mg aFenError aBadName aNoDeed aNoPage) : FnOk P w K mg base CX0 6 f fd ["_law_text"] (spD K 1 w__law_told_of_row) :=
 fn_ok (N := ["_law_text", "_law_found", "_law_kinds", "e"]) F fun _ _ =>
 (s_cons (s_set 1 dk_non)
  (s_cons (s_set 2 (DF.de (f_lst a_nil)))
  (s_cons (s_try 1 3 2 kd__law_told_of_row c_deed_of (a_cons (dv 0) a_nil) xh.m_FenError (fun nm bs C hk hm => by unfold kd__law_told_of_row at hk; (split at hk; (rename_i e; subst e; cases hk; cases xh.m_NoDeed.symm.trans hm; exact ⟨xh.x_NoDeed, xh.k_NoDeed, fun ea oe => ⟨(.cons rfl xh.m_NoDeed xh.t_NoDeed_NoDeed rfl rfl rfl rfl rfl (.cons rfl xh.m_NoPage xh.t_NoDeed_NoPage rfl rfl rfl rfl rfl (.cons rfl xh.m_BadName xh.t_NoDeed_BadName rfl rfl rfl rfl rfl .nil))), by decide⟩⟩); cases hk)) T.isinstance)
  (s_one (s_ret (d_tup (a_cons (dv 1) (a_cons (dv 2) a_nil))))))))
theorem ok_law (F : Fun K "law" "law" sLaw f fd) (T : Bt mg) (cB : Cal P w K mg base "_law_box" 1 ["_law_script"] (Fen.spBox K)) (c__law_row : Cal P w K mg base "_law_row" 3 ["_law_box_here"] (spD K 1 w__law_row)) (c__law_take : Cal P w K mg base "_law_take" 1 ["_law_box_here", "_law_many"] (spD K 2 w__law_take)) (c__law_spoilt : Cal P w K mg base "_law_spoilt" 2 ["_law_box_here", "_law_words"] (spD K 2 w__law_spoilt)) (c__law_read : Cal P w K mg base "_law_read" 3 ["_law_text"] (spD K 1 w__law_read)) (c__law_same : Cal P w K mg base "_law_same" (1 + 6) ["_law_found", "_law_due"] (spD K 2 (w__law_same 6))) (c__law_told_of_row : Cal P w K mg base "_law_told_of_row" 6 ["_law_text"] (spD K 1 w__law_told_of_row)) (hw : lawW 5 w_law_k41) : FnOk P w K mg base CX0 8 f fd ["_law_script"] (spLaw K) := by
 refine law_ok (N := ["_law_turn", "_law_words", "_law_k", "_law_text", "_law_due"]) (k := 7) F rfl cB (fun _ _ => ?_) hw
 unfold w_law_k41
 exact (s_cons (s_for (.nm 2) (i_rng1 dk_int) (gn 2) (s_cons (s_set 3 (d_call c__law_row (a_cons (dv 1) a_nil)))
  (s_cons (s_for (.nm 4) (i_rng1 (d_call c__law_take (a_cons (dv 1) (a_cons dk_int a_nil)))) (gn 4) (s_one (s_set 3 (d_call c__law_spoilt (a_cons (dv 1) (a_cons (dv 3) a_nil))))))
  (s_cons (s_set 5 (d_join dk_str (dv 3)))
  (s_cons (s_set 6 (d_tup (a_cons (d_call c__law_read (a_cons (dv 5) a_nil)) (a_cons (DF.de (f_lst a_nil)) a_nil))))
  (s_cons (s_if (t_isN (d_ixX (dv 6) dk_int)) (s_one (s_set 6 (d_tup (a_cons dk_non (a_cons (DF.de (f_lst (a_cons dk_bl (a_cons dk_bl (a_cons dk_bl a_nil))))) a_nil))))) s_nil)
  (s_one (s_if (t_not (t_tru (d_call c__law_same (a_cons (d_call c__law_told_of_row (a_cons (dv 5) a_nil)) (a_cons (dv 6) a_nil))))) (s_one (s_ret dk_bl)) s_nil))))))))
  (s_one (s_ret dk_bl)))
end
theorem all_mk {l : PySem.W.OpenLaw} {w : PySem.World} {K : PySem.W.Frag} {h : Heap} {mg : Str -> Option Value} {fa f1 f2 f3 f4 f5 f6 f7 f8 f9 f10 f11 f12 f13 f14 f15 f16 f17 f18 : Addr} (X : K.In h) (G : h.Ns mainGlobals mg) (hfa : mg "law" = some (.ref fa))
  {od1 an1 od2 an2 od3 an3 od4 an4 od5 an5 od6 an6 od7 an7 od8 an8 od9 an9 od10 an10 od11 an11 od12 an12 od13 an13 od14 an14 od15 an15 od16 an16 od17 an17 od18 an18 : Option Addr} {sl1 sl2 sl3 sl4 sl5 sl6 sl7 sl8 sl9 sl10 sl11 sl12 sl13 sl14 sl15 sl16 sl17 sl18 : Array (Option Value)} {oc1 kV1 dc1 pm1 cd1 ct1 oc2 kV2 dc2 pm2 cd2 ct2 oc3 kV3 dc3 pm3 cd3 ct3 oc4 kV4 dc4 pm4 cd4 ct4 oc5 kV5 dc5 pm5 cd5 ct5 oc6 kV6 dc6 pm6 cd6 ct6 oc7 kV7 dc7 pm7 cd7 ct7 oc8 kV8 dc8 pm8 cd8 ct8 oc9 kV9 dc9 pm9 cd9 ct9 oc10 kV10 dc10 pm10 cd10 ct10 oc11 kV11 dc11 pm11 cd11 ct11 oc12 kV12 dc12 pm12 cd12 ct12 oc13 kV13 dc13 pm13 cd13 ct13 oc14 kV14 dc14 pm14 cd14 ct14 oc15 kV15 dc15 pm15 cd15 ct15 oc16 kV16 dc16 pm16 cd16 ct16 oc17 kV17 dc17 pm17 cd17 ct17 oc18 kV18 dc18 pm18 cd18 ct18 : Value}
  (a1 : PySem.W.nsIn K mainGlobals "is_made_of" = some (some (.ref f1))) (l1 : K.lookup f1 = some ⟨oc1, od1, .func (PySem.W.fnOf "is_made_of" "is_made_of" (defArgs pIsMadeOf) (defBody pIsMadeOf) (defScope pIsMadeOf) .none kV1 dc1 pm1 an1 cd1 ct1), sl1⟩) (c1 : PySem.W.codeIn K cd1 "is_made_of" = true) (k1 : PySem.W.keepIn K (.ref f1) = true)
  (a2 : PySem.W.nsIn K mainGlobals "is_name" = some (some (.ref f2))) (l2 : K.lookup f2 = some ⟨oc2, od2, .func (PySem.W.fnOf "is_name" "is_name" (defArgs pIsName) (defBody pIsName) (defScope pIsName) .none kV2 dc2 pm2 an2 cd2 ct2), sl2⟩) (c2 : PySem.W.codeIn K cd2 "is_name" = true) (k2 : PySem.W.keepIn K (.ref f2) = true)
  (a3 : PySem.W.nsIn K mainGlobals "is_number" = some (some (.ref f3))) (l3 : K.lookup f3 = some ⟨oc3, od3, .func (PySem.W.fnOf "is_number" "is_number" (defArgs pIsNumber) (defBody pIsNumber) (defScope pIsNumber) .none kV3 dc3 pm3 an3 cd3 ct3), sl3⟩) (c3 : PySem.W.codeIn K cd3 "is_number" = true) (k3 : PySem.W.keepIn K (.ref f3) = true)
  (a4 : PySem.W.nsIn K mainGlobals "is_rise" = some (some (.ref f4))) (l4 : K.lookup f4 = some ⟨oc4, od4, .func (PySem.W.fnOf "is_rise" "is_rise" (defArgs pIsRise) (defBody pIsRise) (defScope pIsRise) .none kV4 dc4 pm4 an4 cd4 ct4), sl4⟩) (c4 : PySem.W.codeIn K cd4 "is_rise" = true) (k4 : PySem.W.keepIn K (.ref f4) = true)
  (a5 : PySem.W.nsIn K mainGlobals "is_written_as" = some (some (.ref f5))) (l5 : K.lookup f5 = some ⟨oc5, od5, .func (PySem.W.fnOf "is_written_as" "is_written_as" (defArgs pIsWrittenAs) (defBody pIsWrittenAs) (defScope pIsWrittenAs) .none kV5 dc5 pm5 an5 cd5 ct5), sl5⟩) (c5 : PySem.W.codeIn K cd5 "is_written_as" = true) (k5 : PySem.W.keepIn K (.ref f5) = true)
  (a6 : PySem.W.nsIn K mainGlobals "deed_of" = some (some (.ref f6))) (l6 : K.lookup f6 = some ⟨oc6, od6, .func (PySem.W.fnOf "deed_of" "deed_of" (defArgs pDeedOf) (defBody pDeedOf) (defScope pDeedOf) .none kV6 dc6 pm6 an6 cd6 ct6), sl6⟩) (c6 : PySem.W.codeIn K cd6 "deed_of" = true) (k6 : PySem.W.keepIn K (.ref f6) = true)
  (a7 : PySem.W.nsIn K mainGlobals "_law_box" = some (some (.ref f7))) (l7 : K.lookup f7 = some ⟨oc7, od7, .func (PySem.W.fnOf "_law_box" "_law_box" (defArgs sBox) (defBody sBox) (defScope sBox) .none kV7 dc7 pm7 an7 cd7 ct7), sl7⟩) (c7 : PySem.W.codeIn K cd7 "_law_box" = true) (k7 : PySem.W.keepIn K (.ref f7) = true)
  (a8 : PySem.W.nsIn K mainGlobals "_law_take" = some (some (.ref f8))) (l8 : K.lookup f8 = some ⟨oc8, od8, .func (PySem.W.fnOf "_law_take" "_law_take" (defArgs sTake) (defBody sTake) (defScope sTake) .none kV8 dc8 pm8 an8 cd8 ct8), sl8⟩) (c8 : PySem.W.codeIn K cd8 "_law_take" = true) (k8 : PySem.W.keepIn K (.ref f8) = true)
  (a9 : PySem.W.nsIn K mainGlobals "_law_same" = some (some (.ref f9))) (l9 : K.lookup f9 = some ⟨oc9, od9, .func (PySem.W.fnOf "_law_same" "_law_same" (defArgs sSame) (defBody sSame) (defScope sSame) .none kV9 dc9 pm9 an9 cd9 ct9), sl9⟩) (c9 : PySem.W.codeIn K cd9 "_law_same" = true) (k9 : PySem.W.keepIn K (.ref f9) = true)
  (a10 : PySem.W.nsIn K mainGlobals "_law_names" = some (some (.ref f10))) (l10 : K.lookup f10 = some ⟨oc10, od10, .func (PySem.W.fnOf "_law_names" "_law_names" (defArgs sNames) (defBody sNames) (defScope sNames) .none kV10 dc10 pm10 an10 cd10 ct10), sl10⟩) (c10 : PySem.W.codeIn K cd10 "_law_names" = true) (k10 : PySem.W.keepIn K (.ref f10) = true)
  (a11 : PySem.W.nsIn K mainGlobals "_law_named" = some (some (.ref f11))) (l11 : K.lookup f11 = some ⟨oc11, od11, .func (PySem.W.fnOf "_law_named" "_law_named" (defArgs sNamed) (defBody sNamed) (defScope sNamed) .none kV11 dc11 pm11 an11 cd11 ct11), sl11⟩) (c11 : PySem.W.codeIn K cd11 "_law_named" = true) (k11 : PySem.W.keepIn K (.ref f11) = true)
  (a12 : PySem.W.nsIn K mainGlobals "_law_is_number" = some (some (.ref f12))) (l12 : K.lookup f12 = some ⟨oc12, od12, .func (PySem.W.fnOf "_law_is_number" "_law_is_number" (defArgs sIsNumber) (defBody sIsNumber) (defScope sIsNumber) .none kV12 dc12 pm12 an12 cd12 ct12), sl12⟩) (c12 : PySem.W.codeIn K cd12 "_law_is_number" = true) (k12 : PySem.W.keepIn K (.ref f12) = true)
  (a13 : PySem.W.nsIn K mainGlobals "_law_part" = some (some (.ref f13))) (l13 : K.lookup f13 = some ⟨oc13, od13, .func (PySem.W.fnOf "_law_part" "_law_part" (defArgs sPart) (defBody sPart) (defScope sPart) .none kV13 dc13 pm13 an13 cd13 ct13), sl13⟩) (c13 : PySem.W.codeIn K cd13 "_law_part" = true) (k13 : PySem.W.keepIn K (.ref f13) = true)
  (a14 : PySem.W.nsIn K mainGlobals "_law_read" = some (some (.ref f14))) (l14 : K.lookup f14 = some ⟨oc14, od14, .func (PySem.W.fnOf "_law_read" "_law_read" (defArgs sRead) (defBody sRead) (defScope sRead) .none kV14 dc14 pm14 an14 cd14 ct14), sl14⟩) (c14 : PySem.W.codeIn K cd14 "_law_read" = true) (k14 : PySem.W.keepIn K (.ref f14) = true)
  (a15 : PySem.W.nsIn K mainGlobals "_law_row" = some (some (.ref f15))) (l15 : K.lookup f15 = some ⟨oc15, od15, .func (PySem.W.fnOf "_law_row" "_law_row" (defArgs sRow) (defBody sRow) (defScope sRow) .none kV15 dc15 pm15 an15 cd15 ct15), sl15⟩) (c15 : PySem.W.codeIn K cd15 "_law_row" = true) (k15 : PySem.W.keepIn K (.ref f15) = true)
  (a16 : PySem.W.nsIn K mainGlobals "_law_spoilt" = some (some (.ref f16))) (l16 : K.lookup f16 = some ⟨oc16, od16, .func (PySem.W.fnOf "_law_spoilt" "_law_spoilt" (defArgs sSpoilt) (defBody sSpoilt) (defScope sSpoilt) .none kV16 dc16 pm16 an16 cd16 ct16), sl16⟩) (c16 : PySem.W.codeIn K cd16 "_law_spoilt" = true) (k16 : PySem.W.keepIn K (.ref f16) = true)
  (a17 : PySem.W.nsIn K mainGlobals "_law_told_of_row" = some (some (.ref f17))) (l17 : K.lookup f17 = some ⟨oc17, od17, .func (PySem.W.fnOf "_law_told_of_row" "_law_told_of_row" (defArgs sToldOfRow) (defBody sToldOfRow) (defScope sToldOfRow) .none kV17 dc17 pm17 an17 cd17 ct17), sl17⟩) (c17 : PySem.W.codeIn K cd17 "_law_told_of_row" = true) (k17 : PySem.W.keepIn K (.ref f17) = true)
  (a18 : PySem.W.nsIn K mainGlobals "law" = some (some (.ref f18))) (l18 : K.lookup f18 = some ⟨oc18, od18, .func (PySem.W.fnOf "law" "law" (defArgs sLaw) (defBody sLaw) (defScope sLaw) .none kV18 dc18 pm18 an18 cd18 ct18), sl18⟩) (c18 : PySem.W.codeIn K cd18 "law" = true) (k18 : PySem.W.keepIn K (.ref f18) = true)
  (z1 : PySem.W.nsIn K mainGlobals "list" = some none)
  (z2 : PySem.W.nsIn K mainGlobals "len" = some none)
  (z3 : PySem.W.nsIn K mainGlobals "range" = some none)
  (z4 : PySem.W.nsIn K mainGlobals "all" = some none)
  (z5 : PySem.W.nsIn K mainGlobals "any" = some none)
  (z6 : PySem.W.nsIn K mainGlobals "isinstance" = some none)
  (z7 : PySem.W.nsIn K mainGlobals "tuple" = some none)
  (z8 : PySem.W.nsIn K mainGlobals "bool" = some none)
  (z9 : PySem.W.nsIn K mainGlobals "int" = some none)
  (z10 : PySem.W.nsIn K mainGlobals "str" = some none)
  (z11 : PySem.W.nsIn K mainGlobals "sorted" = some none)
  (z12 : PySem.W.nsIn K mainGlobals "set" = some none)
  (z13 : PySem.W.nsIn K mainGlobals "zip" = some none)
  (z14 : PySem.W.nsIn K mainGlobals "enumerate" = some none)
  (z15 : PySem.W.nsIn K mainGlobals "min" = some none)
  (z16 : PySem.W.nsIn K mainGlobals "max" = some none)
  {t_LETTERS : Tok} (n_LETTERS : PySem.W.nsIn K mainGlobals "LETTERS" = some (some (.str "abcdefghijklmnopqrstuvwxyz" t_LETTERS)))
  {t_FIGURES : Tok} (n_FIGURES : PySem.W.nsIn K mainGlobals "FIGURES" = some (some (.str "0123456789" t_FIGURES)))
  {t_LONGEST_NAME : Tok} (n_LONGEST_NAME : PySem.W.nsIn K mainGlobals "LONGEST_NAME" = some (some (.int 8 t_LONGEST_NAME)))
  {t_LONGEST_NUMBER : Tok} (n_LONGEST_NUMBER : PySem.W.nsIn K mainGlobals "LONGEST_NUMBER" = some (some (.int 10 t_LONGEST_NUMBER)))
  {a_FORMS : Addr} {e_FORMS : Nat} {t_FORMS0 t_FORMS1 t_FORMS2 t_FORMS3 t_FORMS4 t_FORMS5 t_FORMS6 t_FORMS7 t_FORMS8 : Tok} {a_FORMS0 a_FORMS1 a_FORMS2 a_FORMS3 a_FORMS4 a_FORMS5 a_FORMS6 a_FORMS7 a_FORMS8 : Addr}
  (n_FORMS : PySem.W.nsIn K mainGlobals "FORMS" = some (some (.ref a_FORMS)))
  (l_FORMS : K.lookup a_FORMS = some ⟨.type "dict", none, .dict #[⟨PyData.keyHash w.params "mark", .str "mark" t_FORMS0, .ref a_FORMS0⟩, ⟨PyData.keyHash w.params "hand", .str "hand" t_FORMS1, .ref a_FORMS1⟩, ⟨PyData.keyHash w.params "run", .str "run" t_FORMS2, .ref a_FORMS2⟩, ⟨PyData.keyHash w.params "strike", .str "strike" t_FORMS3, .ref a_FORMS3⟩, ⟨PyData.keyHash w.params "mend", .str "mend" t_FORMS4, .ref a_FORMS4⟩, ⟨PyData.keyHash w.params "settle", .str "settle" t_FORMS5, .ref a_FORMS5⟩, ⟨PyData.keyHash w.params "aside", .str "aside" t_FORMS6, .ref a_FORMS6⟩, ⟨PyData.keyHash w.params "heed", .str "heed" t_FORMS7, .ref a_FORMS7⟩, ⟨PyData.keyHash w.params "allow", .str "allow" t_FORMS8, .ref a_FORMS8⟩] e_FORMS, #[]⟩)
  (s_FORMS : (a_FORMS == sysModules) = false)
  {t_FORMS0_0 : Tok} {e_FORMS0 : Nat} {o_FORMS0 : Option Addr} {y_FORMS0 : Array (Option Value)} (l_FORMS0 : K.lookup a_FORMS0 = some ⟨.type "tuple", o_FORMS0, .seq #[.str "name" t_FORMS0_0] e_FORMS0, y_FORMS0⟩)
  {t_FORMS1_0 : Tok} {e_FORMS1 : Nat} {o_FORMS1 : Option Addr} {y_FORMS1 : Array (Option Value)} (l_FORMS1 : K.lookup a_FORMS1 = some ⟨.type "tuple", o_FORMS1, .seq #[.str "name" t_FORMS1_0] e_FORMS1, y_FORMS1⟩)
  {t_FORMS2_0 t_FORMS2_1 t_FORMS2_2 t_FORMS2_3 : Tok} {e_FORMS2 : Nat} {o_FORMS2 : Option Addr} {y_FORMS2 : Array (Option Value)} (l_FORMS2 : K.lookup a_FORMS2 = some ⟨.type "tuple", o_FORMS2, .seq #[.str "name" t_FORMS2_0, .str "name" t_FORMS2_1, .str "rise" t_FORMS2_2, .str "name" t_FORMS2_3] e_FORMS2, y_FORMS2⟩)
  {t_FORMS3_0 : Tok} {e_FORMS3 : Nat} {o_FORMS3 : Option Addr} {y_FORMS3 : Array (Option Value)} (l_FORMS3 : K.lookup a_FORMS3 = some ⟨.type "tuple", o_FORMS3, .seq #[.str "number" t_FORMS3_0] e_FORMS3, y_FORMS3⟩)
  {t_FORMS4_0 t_FORMS4_1 : Tok} {e_FORMS4 : Nat} {o_FORMS4 : Option Addr} {y_FORMS4 : Array (Option Value)} (l_FORMS4 : K.lookup a_FORMS4 = some ⟨.type "tuple", o_FORMS4, .seq #[.str "number" t_FORMS4_0, .str "rise" t_FORMS4_1] e_FORMS4, y_FORMS4⟩)
  {t_FORMS5_0 : Tok} {e_FORMS5 : Nat} {o_FORMS5 : Option Addr} {y_FORMS5 : Array (Option Value)} (l_FORMS5 : K.lookup a_FORMS5 = some ⟨.type "tuple", o_FORMS5, .seq #[.str "name" t_FORMS5_0] e_FORMS5, y_FORMS5⟩)
  {t_FORMS6_0 : Tok} {e_FORMS6 : Nat} {o_FORMS6 : Option Addr} {y_FORMS6 : Array (Option Value)} (l_FORMS6 : K.lookup a_FORMS6 = some ⟨.type "tuple", o_FORMS6, .seq #[.str "name" t_FORMS6_0] e_FORMS6, y_FORMS6⟩)
  {t_FORMS7_0 : Tok} {e_FORMS7 : Nat} {o_FORMS7 : Option Addr} {y_FORMS7 : Array (Option Value)} (l_FORMS7 : K.lookup a_FORMS7 = some ⟨.type "tuple", o_FORMS7, .seq #[.str "name" t_FORMS7_0] e_FORMS7, y_FORMS7⟩)
  {t_FORMS8_0 : Tok} {e_FORMS8 : Nat} {o_FORMS8 : Option Addr} {y_FORMS8 : Array (Option Value)} (l_FORMS8 : K.lookup a_FORMS8 = some ⟨.type "tuple", o_FORMS8, .seq #[.str "number" t_FORMS8_0] e_FORMS8, y_FORMS8⟩)
  {aFenError aBadName aNoDeed aNoPage : Addr}
  (n_FenError : PySem.W.nsIn K mainGlobals "FenError" = some (some (.ref aFenError)))
  (n_BadName : PySem.W.nsIn K mainGlobals "BadName" = some (some (.ref aBadName)))
  (n_NoDeed : PySem.W.nsIn K mainGlobals "NoDeed" = some (some (.ref aNoDeed)))
  (n_NoPage : PySem.W.nsIn K mainGlobals "NoPage" = some (some (.ref aNoPage)))
  (o_NoDeed : PySem.W.excIn K aNoDeed mroVE "ValueError.__new__" = true)
  (x_NoDeed : PySem.W.exmOne K (.ref aNoDeed) (.ref aFenError) = some true)
  (k_NoDeed : ExK K aNoDeed)
  (t_NoDeed_NoDeed : PySem.W.kitOne K (.ref aNoDeed) (.ref aNoDeed) = some true)
  (t_NoDeed_NoPage : PySem.W.kitOne K (.ref aNoDeed) (.ref aNoPage) = some false)
  (t_NoDeed_BadName : PySem.W.kitOne K (.ref aNoDeed) (.ref aBadName) = some false)
  : ∃ fd : FuncData, (∀ (s : Shared) (v : Value), BindsTo s fd ⟨[v], []⟩ [("_law_script", v)]) /\ ∀ base : Heap, K.In base -> base.Ns mainGlobals mg -> FnOk l.prog w K mg base CX0 8 fa fd ["_law_script"] (spLaw K) := by
 have e := hfa.symm.trans (PySem.W.mg_of X G a18)
 cases e
 have T : Bt mg := ⟨PySem.W.mg_none_of X G z1, PySem.W.mg_none_of X G z2, PySem.W.mg_none_of X G z3, PySem.W.mg_none_of X G z4, PySem.W.mg_none_of X G z5, PySem.W.mg_none_of X G z6, PySem.W.mg_none_of X G z7, PySem.W.mg_none_of X G z8, PySem.W.mg_none_of X G z9, PySem.W.mg_none_of X G z10, PySem.W.mg_none_of X G z11, PySem.W.mg_none_of X G z12, PySem.W.mg_none_of X G z13, PySem.W.mg_none_of X G z14, PySem.W.mg_none_of X G z15, PySem.W.mg_none_of X G z16⟩
 have g_LETTERS := PySem.W.mg_of X G n_LETTERS
 have g_FIGURES := PySem.W.mg_of X G n_FIGURES
 have g_LONGEST_NAME := PySem.W.mg_of X G n_LONGEST_NAME
 have g_LONGEST_NUMBER := PySem.W.mg_of X G n_LONGEST_NUMBER
 have g_FORMS : GDict l.prog w K mg "FORMS" kv_FORMS := gdict (ps := [("mark", t_FORMS0, .ref a_FORMS0), ("hand", t_FORMS1, .ref a_FORMS1), ("run", t_FORMS2, .ref a_FORMS2), ("strike", t_FORMS3, .ref a_FORMS3), ("mend", t_FORMS4, .ref a_FORMS4), ("settle", t_FORMS5, .ref a_FORMS5), ("aside", t_FORMS6, .ref a_FORMS6), ("heed", t_FORMS7, .ref a_FORMS7), ("allow", t_FORMS8, .ref a_FORMS8)]) X G n_FORMS l_FORMS (.cons (grow_strs (its := [("name", t_FORMS0_0)]) l_FORMS0) (.cons (grow_strs (its := [("name", t_FORMS1_0)]) l_FORMS1) (.cons (grow_strs (its := [("name", t_FORMS2_0), ("name", t_FORMS2_1), ("rise", t_FORMS2_2), ("name", t_FORMS2_3)]) l_FORMS2) (.cons (grow_strs (its := [("number", t_FORMS3_0)]) l_FORMS3) (.cons (grow_strs (its := [("number", t_FORMS4_0), ("rise", t_FORMS4_1)]) l_FORMS4) (.cons (grow_strs (its := [("name", t_FORMS5_0)]) l_FORMS5) (.cons (grow_strs (its := [("name", t_FORMS6_0)]) l_FORMS6) (.cons (grow_strs (its := [("name", t_FORMS7_0)]) l_FORMS7) (.cons (grow_strs (its := [("number", t_FORMS8_0)]) l_FORMS8) .nil))))))))) s_FORMS (by simp only [List.map_cons, List.map_nil]; decide +kernel)
 have xh : Xh K mg aFenError aBadName aNoDeed aNoPage := ⟨PySem.W.mg_of X G n_FenError, PySem.W.mg_of X G n_BadName, PySem.W.mg_of X G n_NoDeed, PySem.W.mg_of X G n_NoPage, o_NoDeed, x_NoDeed, k_NoDeed, t_NoDeed_NoDeed, t_NoDeed_NoPage, t_NoDeed_BadName⟩
 have F1 := fun_mk (st := pIsMadeOf) l1 c1 k1
 have b1 := F1.binds (ps := ["text", "signs", "longest"]) fun _ _ _ _ _ _ us hl => match us, hl with | [_, _, _], _ => rfl
 have m1 := PySem.W.mg_of X G a1
 have F2 := fun_mk (st := pIsName) l2 c2 k2
 have b2 := F2.binds (ps := ["text"]) fun _ _ _ _ _ _ us hl => match us, hl with | [_], _ => rfl
 have m2 := PySem.W.mg_of X G a2
 have F3 := fun_mk (st := pIsNumber) l3 c3 k3
 have b3 := F3.binds (ps := ["text"]) fun _ _ _ _ _ _ us hl => match us, hl with | [_], _ => rfl
 have m3 := PySem.W.mg_of X G a3
 have F4 := fun_mk (st := pIsRise) l4 c4 k4
 have b4 := F4.binds (ps := ["text"]) fun _ _ _ _ _ _ us hl => match us, hl with | [_], _ => rfl
 have m4 := PySem.W.mg_of X G a4
 have F5 := fun_mk (st := pIsWrittenAs) l5 c5 k5
 have b5 := F5.binds (ps := ["kind", "text"]) fun _ _ _ _ _ _ us hl => match us, hl with | [_, _], _ => rfl
 have m5 := PySem.W.mg_of X G a5
 have F6 := fun_mk (st := pDeedOf) l6 c6 k6
 have b6 := F6.binds (ps := ["text"]) fun _ _ _ _ _ _ us hl => match us, hl with | [_], _ => rfl
 have m6 := PySem.W.mg_of X G a6
 have F7 := fun_mk (st := sBox) l7 c7 k7
 have b7 := F7.binds (ps := ["_law_script"]) fun _ _ _ _ _ _ us hl => match us, hl with | [_], _ => rfl
 have m7 := PySem.W.mg_of X G a7
 have F8 := fun_mk (st := sTake) l8 c8 k8
 have b8 := F8.binds (ps := ["_law_box_here", "_law_many"]) fun _ _ _ _ _ _ us hl => match us, hl with | [_, _], _ => rfl
 have m8 := PySem.W.mg_of X G a8
 have F9 := fun_mk (st := sSame) l9 c9 k9
 have b9 := F9.binds (ps := ["_law_found", "_law_due"]) fun _ _ _ _ _ _ us hl => match us, hl with | [_, _], _ => rfl
 have m9 := PySem.W.mg_of X G a9
 have F10 := fun_mk (st := sNames) l10 c10 k10
 have b10 := F10.binds (ps := ["_law_box_here", "_law_many"]) fun _ _ _ _ _ _ us hl => match us, hl with | [_, _], _ => rfl
 have m10 := PySem.W.mg_of X G a10
 have F11 := fun_mk (st := sNamed) l11 c11 k11
 have b11 := F11.binds (ps := ["_law_word"]) fun _ _ _ _ _ _ us hl => match us, hl with | [_], _ => rfl
 have m11 := PySem.W.mg_of X G a11
 have F12 := fun_mk (st := sIsNumber) l12 c12 k12
 have b12 := F12.binds (ps := ["_law_word"]) fun _ _ _ _ _ _ us hl => match us, hl with | [_], _ => rfl
 have m12 := PySem.W.mg_of X G a12
 have F13 := fun_mk (st := sPart) l13 c13 k13
 have b13 := F13.binds (ps := ["_law_kind", "_law_word"]) fun _ _ _ _ _ _ us hl => match us, hl with | [_, _], _ => rfl
 have m13 := PySem.W.mg_of X G a13
 have F14 := fun_mk (st := sRead) l14 c14 k14
 have b14 := F14.binds (ps := ["_law_text"]) fun _ _ _ _ _ _ us hl => match us, hl with | [_], _ => rfl
 have m14 := PySem.W.mg_of X G a14
 have F15 := fun_mk (st := sRow) l15 c15 k15
 have b15 := F15.binds (ps := ["_law_box_here"]) fun _ _ _ _ _ _ us hl => match us, hl with | [_], _ => rfl
 have m15 := PySem.W.mg_of X G a15
 have F16 := fun_mk (st := sSpoilt) l16 c16 k16
 have b16 := F16.binds (ps := ["_law_box_here", "_law_words"]) fun _ _ _ _ _ _ us hl => match us, hl with | [_, _], _ => rfl
 have m16 := PySem.W.mg_of X G a16
 have F17 := fun_mk (st := sToldOfRow) l17 c17 k17
 have b17 := F17.binds (ps := ["_law_text"]) fun _ _ _ _ _ _ us hl => match us, hl with | [_], _ => rfl
 have m17 := PySem.W.mg_of X G a17
 have F18 := fun_mk (st := sLaw) l18 c18 k18
 refine ⟨PySem.W.fnOf "law" "law" (defArgs sLaw) (defBody sLaw) (defScope sLaw) .none kV18 dc18 pm18 an18 cd18 ct18, fun s v => .of_eq rfl, fun base _ _ => ?_⟩
 have c_is_made_of := Cal.of F1 (ok_is_made_of (P := l.prog) (w := w) (base := base) F1 T) m1 b1
 have c_is_name := Cal.of F2 (ok_is_name (P := l.prog) (w := w) (base := base) F2 T c_is_made_of g_LONGEST_NAME g_LETTERS) m2 b2
 have c_is_number := Cal.of F3 (ok_is_number (P := l.prog) (w := w) (base := base) F3 T c_is_made_of g_LONGEST_NUMBER g_FIGURES) m3 b3
 have c_is_rise := Cal.of F4 (ok_is_rise (P := l.prog) (w := w) (base := base) F4 T c_is_number) m4 b4
 have c_is_written_as := Cal.of F5 (ok_is_written_as (P := l.prog) (w := w) (base := base) F5 T c_is_rise c_is_name c_is_number) m5 b5
 have c_deed_of := CalX.of F6 (ok_deed_of (P := l.prog) (w := w) (base := base) F6 T c_is_written_as xh g_FORMS) m6 b6
 have cB := Cal.of F7 (Fen.ok_box (P := l.prog) (w := w) (base := base) F7 ⟨T.list, T.len, T.range⟩) m7 b7
 have c__law_take := Cal.of F8 (ok_take (P := l.prog) (w := w) (base := base) F8 T) m8 b8
 have r__law_same := ok__law_same (P := l.prog) (w := w) (base := base) F9 m9 b9 T
 have c__law_names := Cal.of F10 (ok__law_names (P := l.prog) (w := w) (base := base) F10 T c__law_take) m10 b10
 have c__law_named := Cal.of F11 (ok__law_named (P := l.prog) (w := w) (base := base) F11 T) m11 b11
 have c__law_is_number := Cal.of F12 (ok__law_is_number (P := l.prog) (w := w) (base := base) F12 T) m12 b12
 have c__law_part := Cal.of F13 (ok__law_part (P := l.prog) (w := w) (base := base) F13 T c__law_is_number c__law_named) m13 b13
 have c__law_read := Cal.of F14 (ok__law_read (P := l.prog) (w := w) (base := base) F14 T c__law_part) m14 b14
 have c__law_row := Cal.of F15 (ok__law_row (P := l.prog) (w := w) (base := base) F15 T c__law_names c__law_take) m15 b15
 have c__law_spoilt := Cal.of F16 (ok__law_spoilt (P := l.prog) (w := w) (base := base) F16 T c__law_take) m16 b16
 have c__law_told_of_row := Cal.of F17 (ok__law_told_of_row (P := l.prog) (w := w) (base := base) F17 T c_deed_of xh) m17 b17
 exact ok_law F18 T cB c__law_row c__law_take c__law_spoilt c__law_read (Cal.of F9 (r__law_same 6) m9 b9) c__law_told_of_row  law_k41
theorem walk {l : PySem.W.OpenLaw} {q : Program} {loose : List Str} {XP : (Str -> Option Value) -> Heap -> Prop} {YP : PySem.World -> Heap -> Prop} {d : DefRec} {K : Params -> PySem.W.Frag} (hn : l.most = some 63) (hdf : d.params.defaults = [])
  (hY : ∀ (w : PySem.World) (h : Heap), YP w h -> (K w.params).In h)
  (F : ∀ (w : PySem.World) (mg : Str -> Option Value) (fa : Addr) (h : Heap), (K w.params).In h -> h.Ns mainGlobals mg -> mg d.name = some (.ref fa) ->
   ∃ fd : FuncData, (∀ (s : Shared) (u : Value), BindsTo s fd ⟨[u], []⟩ [("_law_script", u)]) /\ ∀ base : Heap, (K w.params).In base -> base.Ns mainGlobals mg -> FnOk l.prog w (K w.params) mg base CX0 8 fa fd ["_law_script"] (spLaw (K w.params))) :
  PySem.W.WalkO q loose XP YP l.row.toRowW d [] (fun f vs => PySem.call f vs) :=
 L2.walk_of (n := 63) (k := 8) (x := "_law_script") (CX := fun _ => CX0) (sp := fun w => spLaw (K w.params)) hn (by decide) hdf ⟨rfl, by decide, by decide⟩ hY F (fun _ _ a ns hl _ hS => ⟨a, ns, rfl, hS, hl, fun _ => rfl⟩) fun _ _ _ _ _ z => z
end Fd
open PySem PySem.W PyProof.Rows
set_option maxRecDepth 100000 in
set_option maxHeartbeats 0 in
theorem PySem.Challenge.cw_fenlevel_k41_rows_read_or_refused_holds : PySem.Challenge.rw_fenlevel_k41_rows_read_or_refused.Holds := by
 w_on; o_law; k_head; (case hw => w_witness2)
 k_fill
 refine Fd.walk (l := PySem.Challenge.rw_fenlevel_k41_rows_read_or_refused) rfl rfl (fun w h Y => PySem.W.kIn_of Y) ?F
 case F =>
  intro w mg fa h KX G hmg
  refine' Fd.all_mk KX G hmg ?a1 ?l1 ?c1 ?k1 ?a2 ?l2 ?c2 ?k2 ?a3 ?l3 ?c3 ?k3 ?a4 ?l4 ?c4 ?k4 ?a5 ?l5 ?c5 ?k5 ?a6 ?l6 ?c6 ?k6 ?a7 ?l7 ?c7 ?k7 ?a8 ?l8 ?c8 ?k8 ?a9 ?l9 ?c9 ?k9 ?a10 ?l10 ?c10 ?k10 ?a11 ?l11 ?c11 ?k11 ?a12 ?l12 ?c12 ?k12 ?a13 ?l13 ?c13 ?k13 ?a14 ?l14 ?c14 ?k14 ?a15 ?l15 ?c15 ?k15 ?a16 ?l16 ?c16 ?k16 ?a17 ?l17 ?c17 ?k17 ?a18 ?l18 ?c18 ?k18 ?z1 ?z2 ?z3 ?z4 ?z5 ?z6 ?z7 ?z8 ?z9 ?z10 ?z11 ?z12 ?z13 ?z14 ?z15 ?z16 ?n_LETTERS ?n_FIGURES ?n_LONGEST_NAME ?n_LONGEST_NUMBER ?n_FORMS ?l_FORMS ?s_FORMS ?l_FORMS0 ?l_FORMS1 ?l_FORMS2 ?l_FORMS3 ?l_FORMS4 ?l_FORMS5 ?l_FORMS6 ?l_FORMS7 ?l_FORMS8 ?n_FenError ?n_BadName ?n_NoDeed ?n_NoPage ?o_NoDeed ?x_NoDeed ?k_NoDeed ?t_NoDeed_NoDeed ?t_NoDeed_NoPage ?t_NoDeed_BadName
  (case a1 => k_is); (case l1 => k_is); (case c1 => k_is); (case k1 => k_is); (case a2 => k_is); (case l2 => k_is)
  (case c2 => k_is); (case k2 => k_is); (case a3 => k_is); (case l3 => k_is); (case c3 => k_is); (case k3 => k_is)
  (case a4 => k_is); (case l4 => k_is); (case c4 => k_is); (case k4 => k_is); (case a5 => k_is); (case l5 => k_is)
  (case c5 => k_is); (case k5 => k_is); (case a6 => k_is); (case l6 => k_is); (case c6 => k_is); (case k6 => k_is)
  (case a7 => k_is); (case l7 => k_is); (case c7 => k_is); (case k7 => k_is); (case a8 => k_is); (case l8 => k_is)
  (case c8 => k_is); (case k8 => k_is); (case a9 => k_is); (case l9 => k_is); (case c9 => k_is); (case k9 => k_is)
  (case a10 => k_is); (case l10 => k_is); (case c10 => k_is); (case k10 => k_is); (case a11 => k_is); (case l11 => k_is)
  (case c11 => k_is); (case k11 => k_is); (case a12 => k_is); (case l12 => k_is); (case c12 => k_is); (case k12 => k_is)
  (case a13 => k_is); (case l13 => k_is); (case c13 => k_is); (case k13 => k_is); (case a14 => k_is); (case l14 => k_is)
  (case c14 => k_is); (case k14 => k_is); (case a15 => k_is); (case l15 => k_is); (case c15 => k_is); (case k15 => k_is)
  (case a16 => k_is); (case l16 => k_is); (case c16 => k_is); (case k16 => k_is); (case a17 => k_is); (case l17 => k_is)
  (case c17 => k_is); (case k17 => k_is); (case a18 => k_is); (case l18 => k_is); (case c18 => k_is); (case k18 => k_is)
  (case z1 => k_is); (case z2 => k_is); (case z3 => k_is); (case z4 => k_is); (case z5 => k_is); (case z6 => k_is)
  (case z7 => k_is); (case z8 => k_is); (case z9 => k_is); (case z10 => k_is); (case z11 => k_is); (case z12 => k_is)
  (case z13 => k_is); (case z14 => k_is); (case z15 => k_is); (case z16 => k_is); (case n_LETTERS => k_is); (case n_FIGURES => k_is)
  (case n_LONGEST_NAME => k_is); (case n_LONGEST_NUMBER => k_is); (case n_FORMS => k_is); (case l_FORMS => k_is); (case s_FORMS => first | k_is | rfl | decide); (case l_FORMS0 => k_is)
  (case l_FORMS1 => k_is); (case l_FORMS2 => k_is); (case l_FORMS3 => k_is); (case l_FORMS4 => k_is); (case l_FORMS5 => k_is); (case l_FORMS6 => k_is)
  (case l_FORMS7 => k_is); (case l_FORMS8 => k_is); (case n_FenError => k_is); (case n_BadName => k_is); (case n_NoDeed => k_is); (case n_NoPage => k_is)
  (case o_NoDeed => kernel_rfl); (case x_NoDeed => kernel_rfl); (case k_NoDeed => exact ⟨by kernel_rfl, by k_is, by k_is, by k_is, by k_is, by k_is, by k_is, by k_is⟩); (case t_NoDeed_NoDeed => kernel_rfl); (case t_NoDeed_NoPage => kernel_rfl); (case t_NoDeed_BadName => kernel_rfl)
