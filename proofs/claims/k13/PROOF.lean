import PyProof.Rows.All
import Wide.All
import OpenK.AllK
import Wide.FinOn
import Lean
import PyProof.EqAt
import PyProof.EqKinds
import PyProof.TupleCall
import PyProof.SetKind
import PyProof.Rows.SortShell
import PyProof.SetRoads
import PyProof.ListNew
import PyProof.CollectWalk
import PyProof.Rows.SetFrom
import PyProof.NeKinds
import PyProof.IsiHeapPairs
import PyProof.IsiNone
import PyProof.IsiPairs
import PyProof.ZipIter
import PyProof.Draws
import PyProof.WalksMore
import PyProof.EnumMake
import PyProof.EnumFor
import PyProof.ListRange
import PyProof.RangeFor
import PyProof.DictUpdate
import PyProof.DictItemsLoops
import PyProof.DictWalks
import PyProof.DictIter
import PyProof.P3Eq
import PyProof.P3In
import PyProof.NeData
import KE.KSortAsk
import KE.KSortTup
import PySem.Challenge.RW_fenlevel_k13_whole_no_reading_or_a_paper
theorem YAa:type_of% @PySem.wpAny_bind:=@PySem.wpAny_bind
theorem YAb:type_of% @List.map_cons:=@List.map_cons
theorem YAc:type_of% @PySem.Heap.get?_push_of_some:=@PySem.Heap.get?_push_of_some
theorem YAd:type_of% @List.length_map:=@List.length_map
theorem YAe:type_of% @List.getElem?_eq_getElem:=@List.getElem?_eq_getElem
theorem YAf:type_of% @PySem.wpAny_pure:=@PySem.wpAny_pure
theorem YAg:type_of% @List.mem_singleton:=@List.mem_singleton
theorem YAh:type_of% @List.mem_cons_self:=@List.mem_cons_self
theorem YAi:type_of% @List.getElem?_eq_some_iff:=@List.getElem?_eq_some_iff
theorem YAj:type_of% @List.mem_cons_of_mem:=@List.mem_cons_of_mem
theorem YAk:type_of% @List.mem_cons:=@List.mem_cons
theorem YAl:type_of% @decide_eq_true:=@decide_eq_true
theorem YAm:type_of% @Nat.le_refl:=@Nat.le_refl
theorem YAn:type_of% @PySem.Heap.lt_size:=@PySem.Heap.lt_size
theorem YAo:type_of% @List.mem_append_right:=@List.mem_append_right
theorem YAp:type_of% @PySem.Heap.get?_push_size:=@PySem.Heap.get?_push_size
theorem YAq:type_of% @List.size_toArray:=@List.size_toArray
theorem YAr:type_of% @List.mem_append:=@List.mem_append
theorem YAs:type_of% @List.length_append:=@List.length_append
theorem YAt:type_of% @List.getD_eq_getElem?_getD:=@List.getD_eq_getElem?_getD
theorem YAu:type_of% @List.getElem?_map:=@List.getElem?_map
theorem YAv:type_of% @Nat.lt_of_lt_of_le:=@Nat.lt_of_lt_of_le
theorem YAw:type_of% @Nat.ne_of_lt:=@Nat.ne_of_lt
theorem YAx:type_of% @Bool.false_ne_true:=@Bool.false_ne_true
theorem YAy:type_of% @List.map_append:=@List.map_append
theorem YAz:type_of% @decide_eq_false:=@decide_eq_false
theorem YAA:type_of% @List.mem_of_getElem?:=@List.mem_of_getElem?
theorem YAB:type_of% @List.mem_append_left:=@List.mem_append_left
theorem YAC:type_of% @Int.toNat_natCast:=@Int.toNat_natCast
theorem YAD:type_of% @List.mem_map:=@List.mem_map
theorem YAE:type_of% @List.length_cons:=@List.length_cons
theorem YAF:type_of% @Nat.zero_le:=@Nat.zero_le
theorem YAG:type_of% @List.getElem?_set_ne:=@List.getElem?_set_ne
theorem YAH:type_of% @List.map_map:=@List.map_map
theorem YAI:type_of% @List.getElem?_set_self:=@List.getElem?_set_self
theorem YAJ:type_of% @PyProof.Rows.slot_tuple_getitem:=@PyProof.Rows.slot_tuple_getitem
theorem YAK:type_of% @Nat.le_trans:=@Nat.le_trans
theorem YAL:type_of% @Bool.and_eq_true:=@Bool.and_eq_true
theorem YAM:type_of% @of_decide_eq_true:=@of_decide_eq_true
theorem YAN:type_of% @List.not_mem_nil:=@List.not_mem_nil
theorem YAO:type_of% @PySem.wpAny_setField_rec:=@PySem.wpAny_setField_rec
theorem YAP:type_of% @PySem.F.called_set:=@PySem.F.called_set
theorem YAQ:type_of% @PySem.wpAny_newObj_type:=@PySem.wpAny_newObj_type
theorem YAR:type_of% @PySem.sizeLine_eq:=@PySem.sizeLine_eq
theorem YAS:type_of% @List.replicate_succ:=@List.replicate_succ
theorem YAT:type_of% @List.drop_eq_getElem_cons:=@List.drop_eq_getElem_cons
theorem YAU:type_of% @List.filterMap_cons:=@List.filterMap_cons
theorem YAV:type_of% @PySem.wpAny_call_entry:=@PySem.wpAny_call_entry
theorem YAW:type_of% @List.mem_map_of_mem:=@List.mem_map_of_mem
theorem YAX:type_of% @PySem.wpAny_holding:=@PySem.wpAny_holding
theorem YAY:type_of% @PySem.wpAny_callSpecial?_slot:=@PySem.wpAny_callSpecial?_slot
theorem YAZ:type_of% @List.pairwise_iff_getElem:=@List.pairwise_iff_getElem
theorem YA0:type_of% @PySem.wpAny_mono:=@PySem.wpAny_mono
theorem YA1:type_of% @List.append_assoc:=@List.append_assoc
theorem YA2:type_of% @Bool.false_eq_true:=@Bool.false_eq_true
theorem YA3:type_of% @List.append_nil:=@List.append_nil
theorem YA4:type_of% @List.mem_range:=@List.mem_range
theorem YA5:type_of% @PySem.wpAny_field:=@PySem.wpAny_field
theorem YA6:type_of% @Array.getElem?_eq_getElem:=@Array.getElem?_eq_getElem
theorem YA7:type_of% @List.map_congr_left:=@List.map_congr_left
theorem YA8:type_of% @Nat.lt_irrefl:=@Nat.lt_irrefl
theorem YA9:type_of% @List.mem_filter:=@List.mem_filter
theorem YBa:type_of% @PySem.wpAny_truthy_bool:=@PySem.wpAny_truthy_bool
theorem YBb:type_of% @Nat.lt_succ_of_lt:=@Nat.lt_succ_of_lt
theorem YBc:type_of% @PySem.wpAny_standAt:=@PySem.wpAny_standAt
theorem YBd:type_of% @List.pairwise_cons:=@List.pairwise_cons
theorem YBe:type_of% @Nat.ne_of_gt:=@Nat.ne_of_gt
theorem YBf:type_of% @List.nodup_cons:=@List.nodup_cons
theorem YBg:type_of% @PySem.wpAny_loadPart':=@PySem.wpAny_loadPart'
theorem YBh:type_of% @List.nil_append:=@List.nil_append
theorem YBi:type_of% @List.all_eq_true:=@List.all_eq_true
theorem YBj:type_of% @List.filter_cons:=@List.filter_cons
theorem YBk:type_of% @List.flatten_cons:=@List.flatten_cons
theorem YBl:type_of% @PySem.Heap.size_push:=@PySem.Heap.size_push
theorem YBm:type_of% @PySem.PassesOwn.never:=@PySem.PassesOwn.never
theorem YBn:type_of% @List.lookup_cons:=@List.lookup_cons
theorem YBo:type_of% @PySem.W.mg_of:=@PySem.W.mg_of
theorem YBp:type_of% @PySem.mem_of_lookup:=@PySem.mem_of_lookup
theorem YBq:type_of% @Int.toNat_of_nonneg:=@Int.toNat_of_nonneg
theorem YBr:type_of% @List.length_singleton:=@List.length_singleton
theorem YBs:type_of% @PySem.wpAny_seqItems:=@PySem.wpAny_seqItems
theorem YBt:type_of% @PySem.F.plainAttrs_list:=@PySem.F.plainAttrs_list
theorem YBu:type_of% @Int.emod_lt_of_pos:=@Int.emod_lt_of_pos
theorem YBv:type_of% @List.length_take:=@List.length_take
theorem YBw:type_of% @List.nodup_append:=@List.nodup_append
theorem YBx:type_of% @List.length_range:=@List.length_range
theorem YBy:type_of% @Array.getElem?_toList:=@Array.getElem?_toList
theorem YBz:type_of% @PySem.codeAny_builtin:=@PySem.codeAny_builtin
theorem YBA:type_of% @Nat.le_add_right:=@Nat.le_add_right
theorem YBB:type_of% @List.ext_getElem:=@List.ext_getElem
theorem YBC:type_of% @Array.getElem_toList:=@Array.getElem_toList
theorem YBD:type_of% @Array.length_toList:=@Array.length_toList
theorem YBE:type_of% @List.find?_cons:=@List.find?_cons
theorem YBF:type_of% @Int.emod_nonneg:=@Int.emod_nonneg
theorem YBG:type_of% @or_false:=@or_false
theorem YBH:type_of% @PySem.wpAny_rule:=@PySem.wpAny_rule
theorem YBI:type_of% @List.getElem_mem:=@List.getElem_mem
theorem YBJ:type_of% @List.drop_length:=@List.drop_length
theorem YBK:type_of% @List.take_length:=@List.take_length
theorem YBL:type_of% @List.any_cons:=@List.any_cons
theorem YBM:type_of% @if_false:=@if_false
theorem YBN:type_of% @PySem.wpAny_passesOwn:=@PySem.wpAny_passesOwn
theorem YBO:type_of% @PySem.wpAny_pyIter_list:=@PySem.wpAny_pyIter_list
theorem YBP:type_of% @Bool.eq_iff_iff:=@Bool.eq_iff_iff
theorem YBQ:type_of% @bne_self_eq_false:=@bne_self_eq_false
theorem YBR:type_of% @List.flatMap_cons:=@List.flatMap_cons
theorem YBS:type_of% @PySem.Heap.get?_push_ne:=@PySem.Heap.get?_push_ne
theorem YBT:type_of% @Nat.lt_or_ge:=@Nat.lt_or_ge
theorem YBU:type_of% @PySem.wpAny_askSetting:=@PySem.wpAny_askSetting
theorem YBV:type_of% @Nat.lt_succ_self:=@Nat.lt_succ_self
set_option Elab.async false
set_option linter.all false
set_option maxRecDepth 100000
namespace L2
open PySem PySem.Spec PyProof.Rows
abbrev Key:=Sum Int Str
def zi3:Key->Value->Bool
 | .inl k,v=>Value.isInt k v
 | .inr x,v=>Value.isStrOf x v
def keyH (w:World):Key->Int
 | .inl k=>hashInt k
 | .inr x=>hashStr w x
theorem zaW:∀ {k:Key} {v:Value},zi3 k v = true->(∃ i t,k = Sum.inl i/\v = Value.int i t)\/(∃ x t,k = Sum.inr x/\v = Value.str x t)
 | .inl i,v,h=>by
  obtain ⟨t,e⟩:=Value.isInt_shape (k:=i) (v:=v) h;exact .inl ⟨i,t,rfl,e⟩
 | .inr x,v,h=>by
  obtain ⟨t,e⟩:=Value.isStrOf_shape (x:=x) (v:=v) h;exact .inr ⟨x,t,rfl,e⟩
theorem zk4 (i:Int) (t:Tok):zi3 (.inl i) (.int i t) = true:=by simp [zi3,Value.isInt]
theorem zmx (x:Str) (t:Tok):zi3 (.inr x) (.str x t) = true:=by simp [zi3,Value.isStrOf]
theorem zrn (a b:Int):decide ((Sum.inl a:Key) = Sum.inl b) = (a == b):=by
 by_cases e:a = b
 ·subst e;simp
 ·have h:¬ (Sum.inl a:Key) = Sum.inl b:=λq=>e (Sum.inl.inj q);rw [YAz h];exact (beq_eq_false_iff_ne.mpr e).symm
theorem zqT (a b:Str):decide ((Sum.inr a:Key) = Sum.inr b) = decide (a = b):=by
 by_cases e:a = b
 ·subst e;simp
 ·have h:¬ (Sum.inr a:Key) = Sum.inr b:=λq=>e (Sum.inr.inj q);rw [YAz h,YAz e]
theorem zq6 (a:Int) (b:Str):decide ((Sum.inl a:Key) = Sum.inr b) = false:=YAz (λq=>nomatch q)
theorem zq0 (a:Str) (b:Int):decide ((Sum.inr a:Key) = Sum.inl b) = false:=YAz (λq=>nomatch q)
def zaO (prog:Program) (w:World):PySem.KeyKind prog w Key where
 is:=zi3
 hash:=keyH w
 inj:=λv a b ha hb=>by
  rcases zaW ha with ⟨i,t,rfl,rfl⟩ | ⟨x,t,rfl,rfl⟩
  ·rcases zaW hb with ⟨j,u,rfl,e⟩ | ⟨y,u,rfl,e⟩
   ·injection e with e1 _;rw [e1]
   ·exact nomatch e
  ·rcases zaW hb with ⟨j,u,rfl,e⟩ | ⟨y,u,rfl,e⟩
   ·exact nomatch e
   ·injection e with e1 _;rw [e1]
 byValue:=λk v h=>by
  rcases zaW h with ⟨i,t,rfl,rfl⟩ | ⟨x,t,rfl,rfl⟩ <;> rfl
 pyHash:=λhv h=>by
  rcases zaW hv with ⟨i,t,rfl,rfl⟩ | ⟨x,t,rfl,rfl⟩
  ·exact wpAny_pyHash_int h
  ·exact wpAny_pyHash_str h
 eqBool:=λhu hv h=>by
  rcases zaW hu with ⟨i,t,rfl,rfl⟩ | ⟨x,t,rfl,rfl⟩
  ·rcases zaW hv with ⟨j,u,rfl,rfl⟩ | ⟨y,u,rfl,rfl⟩
   ·rw [zrn] at h;exact wpAny_eqBool_int h
   ·rw [zq6] at h;exact SeqAt.EqAt.int_str i t y u _ _ _ _ h
  ·rcases zaW hv with ⟨j,u,rfl,rfl⟩ | ⟨y,u,rfl,rfl⟩
   ·rw [zq0] at h;exact SeqAt.EqAt.str_int x t j u _ _ _ _ h
   ·rw [zqT] at h;exact wpAny_eqBool_str h
 «strs»:=λk x t v h=>by
  rcases zaW h with ⟨i,u,rfl,e⟩ | ⟨y,u,rfl,e⟩
  ·exact nomatch e
  ·injection e with e1 _
   subst e1;cases v <;> rfl
theorem zjq (prog:Program) (w:World) (i:Int) (t:Tok):(zaO prog w).is (.inl i) (.int i t) = true:=zk4 i t
theorem zi2 (prog:Program) (w:World) (x:Str) (t:Tok):(zaO prog w).is (.inr x) (.str x t) = true:=zmx x t
inductive V where
 | non | bl (b:Bool) | int (i:Int) | str (x:Str) | byt (b:Array UInt8) | flt (b:UInt64) | ref (a:Addr) | ty (n:String)
 deriving DecidableEq
def RelV:V->Value->Prop
 | .non,u=>u = Value.none
 | .bl b,u=>u = Value.bool b
 | .int i,u=>∃ t,u = Value.int i t
 | .str x,u=>∃ t,u = Value.str x t
 | .byt b,u=>∃ t,u = Value.bytes b t
 | .flt b,u=>∃ t,u = Value.float b t
 | .ref a,u=>u = Value.ref a
 | .ty n,u=>u = Value.type n
abbrev Vals:List V->List Value->Prop:=Paired RelV
theorem Vals.length {xs:List V} {us:List Value} (r:Vals xs us):xs.length = us.length:=Paired.length r
theorem Vals.get:∀ {xs:List V} {us:List Value} {i:Nat} {x:V},Vals xs us->xs[i]? = some x->∃ u,us[i]? = some u/\RelV x u
 | _,_,_,_,.nil,e=>by simp at e
 | _,_,0,_,.cons r _,e=>by simp at e;subst e;exact ⟨_,rfl,r⟩
 | _,_,i + 1,x,.cons _ t,e=>by
  obtain ⟨u,h1,h2⟩:=Vals.get (i:=i) (x:=x) t (by simpa using e);exact ⟨u,by simpa using h1,h2⟩
theorem Vals.set  (r:RelV x u):∀ {xs:List V} {us:List Value} (i:Nat),Vals xs us->Vals (xs.set i x) (us.set i u)
 | _,_,_,.nil=>.nil
 | _,_,0,.cons _ t=>.cons r t
 | _,_,i + 1,.cons q t=>.cons q (Vals.set r i t)
theorem Vals.append:∀ {xs ys:List V} {us ws:List Value},Vals xs us->Vals ys ws->Vals (xs ++ ys) (us ++ ws)
 | _,_,_,_,.nil,s=>s
 | _,_,_,_,.cons r t,s=>.cons r (Vals.append t s)
theorem Vals.take:∀ {xs:List V} {us:List Value} (n:Nat),Vals xs us->Vals (xs.take n) (us.take n)
 | _,_,0,_=>.nil
 | _,_,_ + 1,.nil=>.nil
 | _,_,n + 1,.cons r t=>.cons r (Vals.take n t)
theorem Vals.drop:∀ {xs:List V} {us:List Value} (n:Nat),Vals xs us->Vals (xs.drop n) (us.drop n)
 | _,_,0,r=>r
 | _,_,_ + 1,.nil=>.nil
 | _,_,n + 1,.cons _ t=>Vals.drop n t
def RelO:Option V->Option Value->Prop
 | some v,some u=>RelV v u
 | none,none=>True
 | _,_=>False
def KV {κ:Type}:List (κ × V)->List (κ × Value)->Prop:=Paired λ(p:κ × V) (q:κ × Value)=>p.1 = q.1/\RelV p.2 q.2
def kV:Key->V
 | .inl i=>.int i
 | .inr x=>.str x
inductive HO where
 /-- a list -/
 | lst (xs:List V)
 /-- a tuple (never changes) -/
 | tup (xs:List V)
 /-- a dict whose keys are ints and texts;one whose keys are tuples of ints and texts (the empty one is both) -/
 | dK (kvs:List (Key × V)) | dT (kvs:List (List Key × V))
 /-- a set of ints: its members,its size -/
 | set (S:Int->Bool) (n:Nat)
 /-- an instance of the class at C,its dict at dx,its attributes -/
 | ins (C dx:Addr) (fs:List (Str × V))
 /-- the dict of the instance at x -/
 | own (x:Addr)
 /-- the dict of an exception -/
 | xd (fs:List (Str × V))
 /-- a bound method,f of x -/
 | met (f x:Addr)
 /-- a range object lo,lo + 1,.. below hi -/
 | rng (lo hi:Int)
 /-- a thing that is known to the object (the script;a dict while a loop walks it): read,never written while it is so -/
 | frz (o:Obj) (u:HO)
 /-- a code object's table -/
 | tbl (ps:Array Value)
 /-- any other thing,by what is true of its one object (a def of one's own: SetO a S n:=HO.ext λh=>..) -/
 | ext (φ:Heap->Prop)
abbrev Hp:=Addr->Option HO
def upd (H:Hp) (a:Addr) (o:HO):Hp:=λb=>if b = a then some o else H b
theorem zad  : upd H a o a = some o:=by unfold upd;rw [if_pos rfl]
theorem zaf  (h:b ≠ a):upd H a o b = H b:=by unfold upd;rw [if_neg h]
theorem zpF  : upd (upd H a o) a u = upd H a u:=by
 funext b;unfold upd;split <;> rfl
theorem zro {H:Hp} {a b:Addr} {o u:HO} (h:H a = some o) (h':H b = some u) (d:o ≠ u):a ≠ b:=by
 intro e;subst e;rw [h] at h';exact d (Option.some.inj h')
theorem zae {H:Hp} {a b:Addr} {o:HO} (h:H a = some o) (h':H b = none):a ≠ b:=by
 intro e;subst e;rw [h] at h';cases h'
section
variable (P:Program) (w:World)
def ObjOk (H:Hp) (h:Heap) (a:Addr):HO->Prop
 | .lst xs=>xs.length <= sizeLine/\∃ (its:List Value) (n:Nat),Vals xs its/\h.get? a = some { cls:=.type "list",data:=.seq its.toArray n }
 | .tup xs=>xs.length <= sizeLine/\∃ its:List Value,Vals xs its/\IsTup h a its.toArray
 | .dK kvs=>kvs.length <= sizeLine/\(a == sysModules) = false/\∃ vs,KV kvs vs/\h.DictOf (zaO P w) a vs
 | .dT kvs=>kvs.length <= sizeLine/\(a == sysModules) = false/\∃ xs:List (List Key × Addr × Value),
   Paired (λ(p:List Key × V) (q:List Key × Addr × Value)=>p.1 = q.1/\H q.2.1 = some (.tup (p.1.map kV))/\RelV p.2 q.2.2) kvs xs /\
   ∃ o es ep,h.get? a = some o/\o.ExactDict/\o.data = .dict es ep/\es.toList = xs.map (entryOfKey (tupleKind (zaO P w)))/\(xs.map (·.1)).Nodup
 | .set S n=>h.SetOf (intKind P w) a S n
 | .ins C dx fs=>H dx = some (.own a)/\fs.length <= 1000/\dx ≠ a/\h.get? a = some (PySem.W.instObj C dx) /\
   ∃ mA,h.Ns1 dx mA/\(∀ f,RelO (fs.lookup f) (mA f))/\PySem.Within mA (fs.map (·.1))
 | .own _=>∃ o,h.get? a = some o
 | .xd fs=>∃ mA,h.Ns1 a mA/\∀ f,RelO (fs.lookup f) (mA f)
 | .rng lo hi=>∃ t u v,h.get? a = some { cls:=.type "range",data:=.fields #[.int lo t,.int hi u,.int 1 v] }
 | .frz o u=>h.get? a = some o/\ObjOk H h a u
 | .tbl ps=>h.get? a = some { cls:=.none,data:=.fields ps }
 | .met f x=>h.get? a = some (PySem.W.methodObj (.ref f) (.ref x))
 | .ext φ=>φ h/\(∃ o,h.get? a = some o)/\∀ h1 h2:Heap,φ h1->(∀ o,h1.get? a = some o->h2.get? a = some o)->φ h2
def HOk (H:Hp) (h:Heap):Prop:=∀ a o,H a = some o->ObjOk P w H h a o
end
section
variable {P:Program} {w:World} {H H':Hp} {h h':Heap} {a:Addr} {o:HO}
theorem ObjOk.lt (x:ObjOk P w H h a o):a < h.objs.size:=by
 cases o with
 | lst xs=>obtain ⟨_,_,_,_,e⟩:=x;exact YAn e
 | tup xs=>obtain ⟨_,_,_,p⟩:=x;exact p.lt
 | dK kvs=>obtain ⟨_,_,_,_,o,_,_,e,_⟩:=x;exact YAn e
 | dT kvs=>obtain ⟨_,_,_,_,o,_,_,e,_⟩:=x;exact YAn e
 | set S n=>obtain ⟨o,_,_,_,e,_⟩:=x;exact YAn e
 | ins C dx fs=>obtain ⟨_,_,_,e,_⟩:=x;exact YAn e
 | own y=>obtain ⟨_,e⟩:=x;exact YAn e
 | xd fs=>obtain ⟨_,⟨_,_,_,e,_⟩,_⟩:=x;exact YAn e
 | rng lo hi=>obtain ⟨_,_,_,e⟩:=x;exact YAn e
 | frz ob u=>obtain ⟨e,_⟩:=x;exact YAn e
 | tbl ps=>exact YAn (show h.get? a = some _ from x)
 | met f y=>exact YAn (show h.get? a = some _ from x)
 | ext φ=>obtain ⟨_,⟨_,e⟩,_⟩:=x;exact YAn e
theorem Paired.mapP {α β:Type} {F G:α->β->Prop}:∀ {l₁:List α} {l₂:List β},Paired F l₁ l₂->(∀ a b,F a b->G a b)->Paired G l₁ l₂
 | _,_,.nil,_=>.nil
 | _,_,.cons r t,f=>.cons (f _ _ r) (Paired.mapP t f)
theorem ObjOk.stay (x:ObjOk P w H h a o) (k:∀ b u,(b = a\/H b = some (.own a))->h.get? b = some u->h'.get? b = some u)
  (ho:∀ b,H b = some (.own a)->H' b = some (.own a)) (ht:∀ b xs,H b = some (.tup xs)->H' b = some (.tup xs)):ObjOk P w H' h' a o:=by
 induction o with
 | lst xs=>obtain ⟨z,its,n,r,e⟩:=x;exact ⟨z,its,n,r,k _ _ (.inl rfl) e⟩
 | tup xs=>obtain ⟨z,its,r,ob,e,c⟩:=x;exact ⟨z,its,r,ob,k _ _ (.inl rfl) e,c⟩
 | dK kvs=>obtain ⟨z,y,vs,r,ob,es,ep,e,c⟩:=x;exact ⟨z,y,vs,r,ob,es,ep,k _ _ (.inl rfl) e,c⟩
 | dT kvs=>
  obtain ⟨z,y,xs,r,ob,es,ep,e,c⟩:=x;exact ⟨z,y,xs,Paired.mapP r λp q z=>⟨z.1,ht _ _ z.2.1,z.2.2⟩,ob,es,ep,k _ _ (.inl rfl) e,c⟩
 | set S n=>obtain ⟨ob,es,ep,t,e,c⟩:=x;exact ⟨ob,es,ep,t,k _ _ (.inl rfl) e,c⟩
 | ins C dx fs=>
  obtain ⟨d,z,ne,e,mA,⟨od,es,ep,e2,c⟩,r⟩:=x;exact ⟨ho _ d,z,ne,k _ _ (.inl rfl) e,mA,⟨od,es,ep,k _ _ (.inr d) e2,c⟩,r⟩
 | own y=>obtain ⟨ob,e⟩:=x;exact ⟨ob,k _ _ (.inl rfl) e⟩
 | xd fs=>obtain ⟨mA,⟨od,es,ep,e,c⟩,r⟩:=x;exact ⟨mA,⟨od,es,ep,k _ _ (.inl rfl) e,c⟩,r⟩
 | rng lo hi=>obtain ⟨t,u,v,e⟩:=x;exact ⟨t,u,v,k _ _ (.inl rfl) e⟩
 | frz ob u ih=>obtain ⟨e,q⟩:=x;exact ⟨k _ _ (.inl rfl) e,ih q⟩
 | tbl ps=>
  have e:h.get? a = some { cls:=.none,data:=.fields ps }:=x;show h'.get? a = some { cls:=.none,data:=.fields ps };exact k a _ (.inl rfl) e
 | met f y=>
  have e:h.get? a = some (PySem.W.methodObj (.ref f) (.ref y)):=x;show h'.get? a = some (PySem.W.methodObj (.ref f) (.ref y));exact k a _ (.inl rfl) e
 | ext φ=>obtain ⟨p,⟨o,e⟩,st⟩:=x;exact ⟨st _ _ p λo q=>k _ _ (.inl rfl) q,⟨o,k _ _ (.inl rfl) e⟩,st⟩
theorem HOk.lt (x:HOk P w H h) (e:H a = some o):a < h.objs.size:=(x a o e).lt
theorem HOk.fresh (x:HOk P w H h) (e:h.objs.size <= a):H a = none:=by
 cases q:H a with
 | none=>rfl
 | some u=>exact absurd (YAv (x.lt q) e) (YA8 _)
theorem HOk.kept (x:HOk P w H h) (k:∀ b u,h.get? b = some u->h'.get? b = some u):HOk P w H h':=λa o e=>
 (x a o e).stay (λb u _ q=>k b u q) (λ_ q=>q) λ_ _ q=>q
theorem HOk.laid (x:HOk P w H h) (k:∀ b u,h.get? b = some u->h'.get? b = some u) (hp:h.objs.size <= a) (new:ObjOk P w (upd H a o) h' a o):HOk P w (upd H a o) h':=λb u e=>by
 have hn:=x.fresh hp;by_cases hb:b = a
 ·subst hb;rw [zad] at e;cases e;exact new
 ·rw [zaf hb] at e;exact (x b u e).stay (λc v _ q=>k c v q) (λc q=>by rw [zaf (zae q hn)];exact q) λc xs q=>by rw [zaf (zae q hn)];exact q
end
def Rd (H:Hp) (a:Addr) (u:HO):Prop:=H a = some u\/∃ o,H a = some (.frz o u)
theorem Rd.ok {P:Program} {w:World} {H:Hp} {h:Heap} {a:Addr} {u:HO} (r:Rd H a u) (x:HOk P w H h):ObjOk P w H h a u:=by
 rcases r with r | ⟨o,r⟩
 ·exact x a u r
 ·obtain ⟨_,q⟩:=x a _ r;exact q
def Mut:Option HO->Prop
 | some (.lst _)=>True
 | some (.dK _)=>True
 | some (.dT _)=>True
 | some (.set _ _)=>True
 | some (.ins _ _ _)=>True
 | some (.ext _)=>True
 | _=>False
section
variable {P:Program} {w:World} {H:Hp} {h h':Heap} {x e:Addr} {o':HO}
theorem HOk.write (ok:HOk P w H h) (mu:Mut (H x)) (he:e = x\/H e = some (.own x)) (k:∀ b u,b ≠ e->h.get? b = some u->h'.get? b = some u) (heo:∃ u,h'.get? e = some u)
  (new:ObjOk P w (upd H x o') h' x o'):HOk P w (upd H x o') h':=λb u q=>by
 have nown:∀ c y,H c = some (.own y)->c ≠ x:=λc y r z=>by subst z;rw [r] at mu;exact mu
 have ntup:∀ c xs,H c = some (.tup xs)->c ≠ x:=λc xs r z=>by subst z;rw [r] at mu;exact mu
 by_cases hb:b = x
 ·subst hb;rw [zad] at q;cases q;exact new
 ·rw [zaf hb] at q;by_cases hbe:b = e
  ·have q':H b = some (.own x):=by
    rcases he with z | z
    ·exact absurd (hbe.trans z) hb
    ·rw [hbe];exact z
   rw [q] at q';cases q';obtain ⟨v,hv⟩:=heo;exact ⟨v,by rw [hbe];exact hv⟩
  ·refine (ok b u q).stay (λc v hc r=>k c v ?_ r) (λc r=>by rw [zaf (nown c b r)];exact r) λc xs r=>by rw [zaf (ntup c xs r)];exact r
   rcases hc with rfl | hc
   ·exact hbe
   ·rintro rfl;rcases he with z | z
    ·exact nown c b hc z
    ·rw [hc] at z;cases z;exact hb rfl
end
structure Un (fs ex:List Addr) (H H':Hp) (h h':Heap):Prop where
 keep:∀ b o,h.get? b = some o->H b = none->b ∉ fs->b ∉ ex->h'.get? b = some o
 slot:∀ b o,h.get? b = some o->H b = none->b ∈ fs->b ∉ ex->∃ sl,h'.get? b = some { o with slots:=sl }
 free:∀ b o,h.get? b = some o->H b = none->b ∉ ex->H' b = none
 there:∀ b o,h.get? b = some o->b ∉ ex->∃ o',h'.get? b = some o'
 tups:∀ b xs,H b = some (.tup xs)->H' b = some (.tup xs)
 frzs:∀ b o u,H b = some (.frz o u)->H' b = some (.frz o u)
 tbls:∀ b ps,H b = some (.tbl ps)->∃ more,H' b = some (.tbl (ps ++ more))
section
variable {fs fs' ex ex':List Addr} {H H1 H2:Hp} {h h1 h2 h':Heap} {a x e:Addr} {o:HO}
theorem Un.any (u:Un fs ex H H1 h h1) {b:Addr} {ob:Obj} (q:h.get? b = some ob) (n:H b = none) (hx:b ∉ ex):∃ sl,h1.get? b = some { ob with slots:=sl }:=by
 by_cases hb:b ∈ fs
 ·exact u.slot b ob q n hb hx
 ·exact ⟨ob.slots,u.keep b ob q n hb hx⟩
theorem Un.kept (k:∀ b u,h.get? b = some u->h'.get? b = some u):Un fs ex H H h h':=
 ⟨λb ob q _ _ _=>k b ob q,λb ob q _ _ _=>⟨ob.slots,k b ob q⟩,λ_ _ _ n _=>n,λb ob q _=>⟨ob,k b ob q⟩,λ_ _ q=>q,λ_ _ _ q=>q,λ_ ps q=>⟨#[],by rw [q];simp⟩⟩
theorem Un.refl:Un fs ex H H h h:=Un.kept λ_ _ q=>q
theorem Un.laid (k:∀ b u,h.get? b = some u->h'.get? b = some u) (hp:h.objs.size <= a) (hn:H a = none):Un fs ex H (upd H a o) h h' where
 keep:=λb u q _ _ _=>k b u q
 slot:=λb u q _ _ _=>⟨u.slots,k b u q⟩
 free:=λb u q n _=>by rw [zaf (YAw (YAv (YAn q) hp))];exact n
 there:=λb u q _=>⟨u,k b u q⟩
 tups:=λb xs q=>by rw [zaf (zae q hn)];exact q
 frzs:=λb u xs q=>by rw [zaf (zae q hn)];exact q
 tbls:=λb ps q=>⟨#[],by rw [zaf (zae q hn),q];simp⟩
theorem Un.write (mu:Mut (H x)) (he:e = x\/H e = some (.own x)) (k:∀ b u,b ≠ e->h.get? b = some u->h'.get? b = some u) (heo:∃ u,h'.get? e = some u):Un fs ex H (upd H x o) h h':=by
 have hx:∀ b,H b = none->b ≠ x:=λb n z=>by subst z;rw [n] at mu;exact mu
 have hb:∀ b,H b = none->b ≠ e:=λb n z=>by
  subst z;rcases he with r | r
  ·exact hx b n r
  ·rw [n] at r;cases r
 have hm:∀ b u,H b = some u->¬ Mut (some u)->b ≠ x:=λb u q nm z=>by subst z;rw [q] at mu;exact nm mu
 refine ⟨λb u q n _ _=>k b u (hb b n) q,λb u q n _ _=>⟨u.slots,k b u (hb b n) q⟩,λb u q n _=>by rw [zaf (hx b n)];exact n,λb u q _=>?_,
  λb xs q=>by rw [zaf (hm b _ q λz=>z)];exact q,λb u xs q=>by rw [zaf (hm b _ q λz=>z)];exact q,λb ps q=>⟨#[],by rw [zaf (hm b _ q λz=>z),q];simp⟩⟩
 by_cases hbe:b = e
 ·subst hbe;exact heo
 ·exact ⟨u,k b u hbe q⟩
end
def trk (h:Heap) (H:Hp):List Addr:=(List.range h.objs.size).filter λa=>(H a).isSome
def hidT (h:Heap) (H:Hp):Heap:=PySem.W.hideAll h (trk h H)
theorem zm4 (h:Heap) (H:Hp):(hidT h H).objs.size = h.objs.size:=PySem.W.hideAll_size _ _
theorem zok {h:Heap} {H:Hp} {b:Addr} {o:Obj} (e:h.get? b = some o) (n:H b = none):(hidT h H).get? b = some o:=
 PySem.W.hideAll_get _ e λhm=>by
  have q:(H b).isSome = true:=(YA9.mp hm).2;rw [n] at q;simp at q
theorem zpr {h:Heap} {H:Hp} {b:Addr} {o:Obj} (e:(hidT h H).get? b = some o):h.get? b = some o/\H b = none:=by
 have e':h.get? b = some o:=PySem.W.of_hideAll (trk h H) e;refine ⟨e',?_⟩;cases q:H b with
 | none=>rfl
 | some x=>
  have hm:b ∈ trk h H:=YA9.mpr ⟨YA4.mpr (YAn e'),by simp [q]⟩;have z:(hidT h H).get? b = none:=PySem.W.hideAll_none (trk h H) hm;rw [z] at e;cases e
structure Mod (K:PySem.W.Frag) (mg:Str->Option Value) (base:Heap):Prop where
 kin:K.In base
 glob:base.Ns mainGlobals mg
 blt:∃ mb,base.Ns builtinsNs mb/\∀ x:Str,x ≠ "__name__" -> mb x = bootBuiltins x
 nolimit:base.NoLimit
structure Cx where
 prog:Program
 w:World
 K:PySem.W.Frag
 mg:Str->Option Value
 base:Heap
 A:Around
 N:List Str
 s₀:Shared
 H₀:Hp
 env:Env
 outer:List Env
 stack:List Env
 ex:List Addr
 fn:Str->Bool
 calm:Bool
 pn:List (Addr × Obj)
 xe:Value->Shared->Prop
def frs (l:List Env):List Addr:=l.filterMap (·.frame)
abbrev Cx.fs (X:Cx):List Addr:=frs X.outer
def Vis (sc:Scope) (x:Str):Prop:=sc.names.lookup x = some .local\/sc.names.lookup x = some .cell\/sc.names.lookup x = some .free
def Loc (sc:Scope) (x:Str):Prop:=sc.names.lookup x = some .local\/sc.names.lookup x = some .cell
def Look (env:Env) (h:Heap) (m:Str->Option Value) (x:Str) (u:Value):Prop:=
 (env.kindOf x = some .local/\m x = some u)\/((env.kindOf x = some .cell\/env.kindOf x = some .free)/\∃ c,env.cells.lookup x = some c/\h.IsCell c (some u))
structure Cx.Ok (X:Cx):Prop where
 mod:Mod X.K X.mg X.base
 kind:X.env.scope.kind = .function
 glob:X.env.globals = mainGlobals
 blt:X.env.builtins = builtinsNs
 above:X.s₀.heap.objs.size <= X.env.locals
 inj:∀ x y c,X.env.cells.lookup x = some c->X.env.cells.lookup y = some c->x = y
 has:∀ x,(X.env.kindOf x = some .cell\/X.env.kindOf x = some .free)->∃ c,X.env.cells.lookup x = some c
 cab:∀ x c,X.fn x = true->X.env.cells.lookup x = some c->X.s₀.heap.objs.size <= c
 hd:X.calm = true->X.A.handled = none
 frames:X.A.frames = some X.stack
 stk:X.stack = X.outer\/(X.stack = X.env :: X.outer/\X.env.frame = some X.env.locals)
 exf:∀ b ∈ X.ex,b ≠ X.env.locals/\∀ x c,X.env.cells.lookup x = some c->c ≠ b
 bs:∀ b o,X.base.get? b = some o->X.s₀.heap.get? b = some o/\X.H₀ b = none
 bsz:X.base.objs.size <= X.s₀.heap.objs.size
 noex:∀ b o,X.base.get? b = some o->b ∉ X.ex
 exfs:∀ b ∈ X.ex,b ∉ X.fs
 funs:X.s₀.heap.FunFrames X.base X.outer
 frf:∀ b ∈ X.fs,X.H₀ b = none
structure Inv (X:Cx) (pins:List (Addr × Obj)) (σ:List (Option V)) (H:Hp) (s:Shared):Prop where
 ok:X.Ok
 os:s.os = X.s₀.os
 bare:AllBare s.gens
 base:Un X.fs X.ex X.H₀ H X.s₀.heap s.heap
 loc:∃ m,s.heap.Ns X.env.locals m/\∀ (i:Nat) (x:Str) (v:V),X.N[i]? = some x->σ[i]? = some (some v)->Vis X.env.scope x->∃ u,RelV v u/\Look X.env s.heap m x u
 cell:∀ x c,X.env.cells.lookup x = some c->∃ v,s.heap.IsCell c v
 free:H X.env.locals = none
 freeC:∀ x c,X.env.cells.lookup x = some c->H c = none
 pin:∀ p ∈ X.pn ++ pins,s.heap.get? p.1 = some p.2/\H p.1 = none/\p.1 ≠ X.env.locals/\p.1 ∉ X.fs/\∀ v,p.2.data ≠ .cell v
 hok:HOk X.prog X.w H s.heap
 len:σ.length = X.N.length
section
variable {X:Cx} {pins:List (Addr × Obj)} {σ:List (Option V)} {H H':Hp} {s:Shared} {h':Heap}
theorem Cx.Ok.nofr (ok:X.Ok)  (e:X.base.get? b = some o):b ∉ X.fs:=λhb=>by
 have:=(ok.funs.mem hb).1
 rw [e] at this;cases this
theorem Inv.bs (I:Inv X pins σ H s):∀ b o,X.base.get? b = some o->s.heap.get? b = some o/\H b = none:=λb o e=>
 ⟨I.base.keep b o (I.ok.bs b o e).1 (I.ok.bs b o e).2 (I.ok.nofr e) (I.ok.noex b o e),I.base.free b o (I.ok.bs b o e).1 (I.ok.bs b o e).2 (I.ok.noex b o e)⟩
theorem Inv.bk (I:Inv X pins σ H s):∀ b o,X.base.get? b = some o->s.heap.get? b = some o:=λb o e=>(I.bs b o e).1
theorem Inv.mod (I:Inv X pins σ H s):Mod X.K X.mg X.base:=I.ok.mod
theorem Inv.kIn (I:Inv X pins σ H s):X.K.In s.heap:=I.ok.mod.kin.keeps I.bk
theorem Inv.lt (I:Inv X pins σ H s):X.env.locals < s.heap.objs.size:=let ⟨_,hn,_⟩:=I.loc;hn.lt
theorem Inv.sz (I:Inv X pins σ H s):X.s₀.heap.objs.size <= s.heap.objs.size:=YAK I.ok.above (Nat.le_of_lt I.lt)
theorem Inv.nofs (I:Inv X pins σ H s) (h:s.heap.objs.size <= a):a ∉ X.fs:=λhb=>by
 obtain ⟨_,o,ho,_⟩:=I.ok.funs.mem hb;exact absurd (YAv (YAn ho) (YAK I.sz h)) (YA8 _)
theorem Inv.cne (I:Inv X pins σ H s):∀ x c,X.env.cells.lookup x = some c->c ≠ X.env.locals:=λx c e z=>by
 obtain ⟨v,o,ho,hd⟩:=I.cell x c e;obtain ⟨m,⟨o',es,ep,ho',hd',_⟩,_⟩:=I.loc;rw [z,ho'] at ho;cases ho;rw [hd'] at hd;cases hd
theorem Inv.funs (I:Inv X pins σ H s):s.heap.FunFrames X.base X.outer:=by
 have all:∀ (l:List Env),(∀ b ∈ frs l,b ∈ X.fs)->X.s₀.heap.FunFrames X.base l->s.heap.FunFrames X.base l:=by
  intro l
  induction l with
  | nil=>intro _ _;trivial
  | cons env r ih=>
   intro hs hl;obtain ⟨hk,⟨L,o,hf,hn,ho,hd⟩,hr⟩:=hl;have hL:L ∈ X.fs:=hs L (by unfold frs;rw [YAU,hf];exact YAh);obtain ⟨sl,e⟩:=I.base.slot L o ho (I.ok.frf L hL) hL λz=>I.ok.exfs L z hL;exact ⟨hk,⟨L,_,hf,hn,e,hd⟩,ih (λb hb=>hs b (by unfold frs;rw [YAU,hf];exact YAj _ hb)) hr⟩
 exact all X.outer (λ_ hb=>hb) I.ok.funs
theorem Inv.stack (I:Inv X pins σ H s):s.heap.FunFrames X.base X.stack:=by
 rcases I.ok.stk with e | ⟨e,hf⟩
 ·rw [e];exact I.funs
 ·rw [e];obtain ⟨m,hn,_⟩:=I.loc;refine .cons (by rw [I.ok.kind];decide) hf hn ?_ I.funs;exact Heap.get?_none_of_le (YAK I.ok.bsz I.ok.above)
theorem Inv.stkSub (I:Inv X pins σ H s):∀ b ∈ frs X.stack,b ∈ X.env.locals :: X.fs:=λb hb=>by
 rcases I.ok.stk with e | ⟨e,hf⟩
 ·rw [e] at hb;exact YAj _ hb
 ·rw [e] at hb;unfold frs at hb;rw [YAU,hf] at hb;exact hb
theorem Inv.stkFree (I:Inv X pins σ H s):∀ b ∈ frs X.stack,H b = none:=λb hb=>by
 rcases YAk.mp (I.stkSub b hb) with e | hb
 ·rw [e];exact I.free
 ·obtain ⟨_,o,ho,_⟩:=I.ok.funs.mem hb;exact I.base.free b o ho (I.ok.frf b hb) λz=>I.ok.exfs b z hb
theorem Inv.step {g':Array GenState} {t':Nat} {d':Drawn} {ch:List Addr} (I:Inv X pins σ H s)
  (hch:∀ b ∈ ch,(b ∈ X.ex\/X.s₀.heap.objs.size <= b)/\b ≠ X.env.locals/\(∀ x c,X.env.cells.lookup x = some c->c ≠ b)/\∀ p ∈ X.pn ++ pins,p.1 ≠ b)
  (keep:∀ b o,b ≠ X.env.locals->b ∉ X.fs->b ∉ ch->s.heap.get? b = some o->H b = none->h'.get? b = some o)
  (slot:∀ b o,b ≠ X.env.locals->b ∈ X.fs->b ∉ ch->s.heap.get? b = some o->H b = none->∃ sl,h'.get? b = some { o with slots:=sl }) (free:∀ b o,b ∉ ch->s.heap.get? b = some o->H b = none->H' b = none)
  (there:∀ b o,b ∉ ch->s.heap.get? b = some o->∃ o',h'.get? b = some o')
  (tups:∀ b xs,H b = some (.tup xs)->H' b = some (.tup xs)) (frzs:∀ b o u,H b = some (.frz o u)->H' b = some (.frz o u)) (tbls:∀ b ps,H b = some (.tbl ps)->∃ more,H' b = some (.tbl (ps ++ more)))
  (ns:∀ m,s.heap.Ns X.env.locals m->h'.Ns X.env.locals m) (hok:HOk X.prog X.w H' h') (hg:AllBare g') :
  Inv X pins σ H' { s with heap:=h',gens:=g',drawn:=d',toks:=t' }:=by
 have neL:∀ b o,X.s₀.heap.get? b = some o->b ≠ X.env.locals:=λb o e=>YAw (YAv (YAn e) I.ok.above);have neC:∀ b o,X.s₀.heap.get? b = some o->b ∉ X.ex->b ∉ ch:=λb o e hx hb=>by
  rcases (hch b hb).1 with z | z
  ·exact hx z
  ·exact absurd (YAv (YAn e) z) (YA8 _)
 have cellK:∀ x c,X.env.cells.lookup x = some c->∀ v,s.heap.IsCell c v->h'.IsCell c v:=λx c e v ⟨o,ho,hd⟩=>by
  have nch:c ∉ ch:=λz=>(hch c z).2.2.1 x c e rfl;by_cases hc:c ∈ X.fs
  ·obtain ⟨sl,q⟩:=slot c o (I.cne x c e) hc nch ho (I.freeC x c e);exact ⟨_,q,hd⟩
  ·exact ⟨o,keep c o (I.cne x c e) hc nch ho (I.freeC x c e),hd⟩
 refine ⟨I.ok,I.os,hg,⟨λb o e n hb hx=>?_,λb o e n hb hx=>?_,λb o e n hx=>?_,λb o e hx=>?_,λb xs e=>tups b xs (I.base.tups b xs e),λb o xs e=>frzs b o xs (I.base.frzs b o xs e),λb ps e=>?_⟩,?_,λx c e=>?_,?_,λx c e=>?_,λp hp=>?_,hok,I.len⟩
 ·exact keep b o (neL b o e) hb (neC b o e hx) (I.base.keep b o e n hb hx) (I.base.free b o e n hx)
 ·obtain ⟨sl,e1⟩:=I.base.slot b o e n hb hx;obtain ⟨sl',e2⟩:=slot b _ (neL b o e) hb (neC b o e hx) e1 (I.base.free b o e n hx);exact ⟨sl',e2⟩
 ·obtain ⟨o',e1⟩:=I.base.there b o e hx;exact free b o' (neC b o e hx) e1 (I.base.free b o e n hx)
 ·obtain ⟨o',e1⟩:=I.base.there b o e hx;exact there b o' (neC b o e hx) e1
 ·obtain ⟨m1,e1⟩:=I.base.tbls b ps e;obtain ⟨m2,e2⟩:=tbls b _ e1;exact ⟨m1 ++ m2,by rw [e2,Array.append_assoc]⟩
 ·obtain ⟨m,hn,hl⟩:=I.loc;refine ⟨m,ns m hn,λi x v e1 e2 e3=>?_⟩;obtain ⟨u,r,l⟩:=hl i x v e1 e2 e3;refine ⟨u,r,?_⟩;rcases l with l | ⟨k,c,e,z⟩
  ·exact .inl l
  ·exact .inr ⟨k,c,e,cellK x c e _ z⟩
 ·obtain ⟨v,z⟩:=I.cell x c e;exact ⟨v,cellK x c e v z⟩
 ·obtain ⟨m,⟨o,_,_,ho,_⟩,_⟩:=I.loc;exact free _ o (λz=>(hch _ z).2.1 rfl) ho I.free
 ·obtain ⟨v,o,ho,hd⟩:=I.cell x c e;exact free c o (λz=>(hch c z).2.2.1 x c e rfl) ho (I.freeC x c e)
 ·obtain ⟨e,n,ne,nf,d⟩:=I.pin p hp;have nch:p.1 ∉ ch:=λz=>(hch p.1 z).2.2.2 p hp rfl;exact ⟨keep p.1 p.2 ne nf nch e n,free p.1 p.2 nch e n,ne,nf,d⟩
theorem Inv.un {t':Nat} (I:Inv X pins σ H s) (u:Un X.fs [] H H' s.heap h') (hok:HOk X.prog X.w H' h'):Inv X pins σ H' { s with heap:=h',toks:=t' }:=by
 obtain ⟨m,⟨o,es,ep,ho,r⟩,_⟩:=id I.loc;obtain ⟨sl,hL⟩:=u.any ho I.free (by simp);exact I.step (g':=s.gens) (d':=s.drawn) (ch:=[]) (λ_ z=>nomatch z) (λb o _ hb _ e n=>u.keep b o e n hb (by simp)) (λb o _ hb _ e n=>u.slot b o e n hb (by simp)) (λb o _ e n=>u.free b o e n (by simp)) (λb o _ e=>u.there b o e (by simp)) u.tups u.frzs u.tbls (λm' hm=>by
  obtain ⟨o',es',ep',ho',r'⟩:=hm;rw [ho] at ho';cases ho';exact ⟨_,es',ep',hL,r'⟩) hok I.bare
theorem Inv.call {g':Array GenState} {t':Nat} {d':Drawn} {ch:List Addr} (I:Inv X pins σ H s) (u:Un (frs X.stack) ch H H' s.heap h') (hok:HOk X.prog X.w H' h') (hg:AllBare g')
  (hch:∀ b ∈ ch,(b ∈ X.ex\/X.s₀.heap.objs.size <= b)/\b ≠ X.env.locals/\(∀ x c,X.env.cells.lookup x = some c->c ≠ b)/\∀ p ∈ X.pn ++ pins,p.1 ≠ b) :
  Inv X pins σ H' { s with heap:=h',gens:=g',drawn:=d',toks:=t' }:=by
 obtain ⟨m,⟨o,es,ep,ho,r⟩,_⟩:=id I.loc;obtain ⟨sl,hL⟩:=u.any ho I.free λz=>(hch _ z).2.1 rfl;exact I.step (ch:=ch) hch (λb o hL hb hc e n=>u.keep b o e n (λz=>(YAk.mp (I.stkSub b z)).elim hL hb) hc) (λb o _ _ hc e n=>u.any e n hc) (λb o hc e n=>u.free b o e n hc) (λb o hc e=>u.there b o e hc) u.tups u.frzs u.tbls (λm' hm=>by
  obtain ⟨o',es',ep',ho',r'⟩:=hm;rw [ho] at ho';cases ho';exact ⟨_,es',ep',hL,r'⟩) hok hg
theorem Inv.turned {t':Nat} {it:Addr} (I:Inv X pins σ H s) (k:∀ b o,b ≠ it->s.heap.get? b = some o->h'.get? b = some o) (hn:H it = none) (hL:it ≠ X.env.locals)
  (h1:it ∈ X.ex\/X.s₀.heap.objs.size <= it) (h2:∀ x c,X.env.cells.lookup x = some c->c ≠ it) (h3:∀ p ∈ X.pn ++ pins,p.1 ≠ it):Inv X pins σ H { s with heap:=h',toks:=t' }:=by
 have nit:∀ b u,H b = some u->b ≠ it:=λb u e z=>by rw [z,hn] at e;cases e
 refine I.step (g':=s.gens) (d':=s.drawn) (ch:=[it]) (λb hb=>?_) (λb o _ _ hc e _=>k b o (λz=>hc (by simp [z])) e) (λb o _ _ hc e _=>⟨o.slots,k b o (λz=>hc (by simp [z])) e⟩) (λ_ _ _ _ n=>n)
  (λb o hc e=>⟨o,k b o (λz=>hc (by simp [z])) e⟩) (λ_ _ e=>e) (λ_ _ _ e=>e) (λb ps e=>⟨#[],by rw [e];simp⟩) (λm hm=>?_) (λb u e=>?_) I.bare
 ·have e:b = it:=by simpa using hb
  subst e;exact ⟨h1,hL,h2,h3⟩
 ·obtain ⟨o,es,ep,ho,r⟩:=hm;exact ⟨o,es,ep,k _ o (Ne.symm hL) ho,r⟩
 ·refine (I.hok b u e).stay (λc v hc q=>k c v ?_ q) (λ_ q=>q) λ_ _ q=>q;rcases hc with z | z
  ·rw [z];exact nit b u e
  ·exact nit c _ z
theorem Inv.tok (I:Inv X pins σ H s) (t:Nat):Inv X pins σ H { s with toks:=t }:=I.un (h':=s.heap) (t':=t) Un.refl I.hok
theorem Inv.kept {t':Nat} (I:Inv X pins σ H s) (k:∀ b u,s.heap.get? b = some u->h'.get? b = some u):Inv X pins σ H { s with heap:=h',toks:=t' }:=I.un (Un.kept k) (I.hok.kept k)
theorem Inv.laid {a:Addr} {o:HO} {t':Nat} (I:Inv X pins σ H s) (k:∀ b u,s.heap.get? b = some u->h'.get? b = some u) (hp:s.heap.objs.size <= a) (new:ObjOk X.prog X.w (upd H a o) h' a o) :
  Inv X pins σ (upd H a o) { s with heap:=h',toks:=t' }:=I.un (Un.laid k hp (I.hok.fresh hp)) (I.hok.laid k hp new)
theorem Inv.write {x e:Addr} {o:HO} {t':Nat} (I:Inv X pins σ H s) (mu:Mut (H x)) (he:e = x\/H e = some (.own x)) (k:∀ b u,b ≠ e->s.heap.get? b = some u->h'.get? b = some u) (heo:∃ u,h'.get? e = some u)
  (new:ObjOk X.prog X.w (upd H x o) h' x o):Inv X pins σ (upd H x o) { s with heap:=h',toks:=t' }:=I.un (Un.write mu he k heo) (I.hok.write mu he k heo new)
theorem Inv.weak (I:Inv X pins σ H s) (hl:σ'.length = σ.length) (w:∀ (i:Nat) v,σ'[i]? = some (some v)->σ[i]? = some (some v)):Inv X pins σ' H s:=
 ⟨I.ok,I.os,I.bare,I.base,let ⟨m,hn,hl'⟩:=I.loc;⟨m,hn,λi x v e1 e2 e3=>hl' i x v e1 (w i v e2) e3⟩,I.cell,I.free,I.freeC,I.pin,I.hok,hl.trans I.len⟩
theorem Inv.pins_of (I:Inv X pins σ H s) (h:∀ p ∈ pins',s.heap.get? p.1 = some p.2/\H p.1 = none/\p.1 ≠ X.env.locals/\p.1 ∉ X.fs/\∀ v,p.2.data ≠ .cell v):Inv X pins' σ H s:=
 ⟨I.ok,I.os,I.bare,I.base,I.loc,I.cell,I.free,I.freeC,λp hp=>(YAr.mp hp).elim (λz=>I.pin p (YAB _ z)) (h p),I.hok,I.len⟩
theorem zj8 {N:List Str} (hN:N.Nodup) {i j:Nat} {x:Str} (a:N[i]? = some x) (b:N[j]? = some x):i = j:=by
 obtain ⟨h1,e1⟩:=YAi.mp a;obtain ⟨h2,e2⟩:=YAi.mp b;exact (List.getElem_inj hN).mp (e1.trans e2.symm)
theorem ze4 {M:Model} {A:Around} {E:Value->Shared->Prop} {i:Nat} {x:Str} {v:V} {u:Value} {Q:Unit->Shared->Prop} (I:Inv X pins σ H s) (hN:X.N.Nodup) (hi:X.N[i]? = some x) (hx:Loc X.env.scope x) (r:RelV v u)
  (h:∀ s',Inv X pins (σ.set i (some v)) H s'->(∃ a,Heap.SameBut a s.heap s'.heap/\(a = X.env.locals\/X.env.cells.lookup x = some a))->Q () s') (hf:X.fn x = true\/X.env.scope.names.lookup x = some .local:=by first | exact .inl rfl | exact .inr rfl | assumption):wpAny M A (storeName X.env x u) Q E s:=by
 obtain ⟨m,hn,hl⟩:=id I.loc;have hcls:(X.env.scope.kind == .class || (X.env.scope.kind == .module && X.env.locals != X.env.globals)) = false:=by rw [I.ok.kind];rfl
 have hiσ:i < σ.length:=by rw [I.len];exact (YAi.mp hi).1
 have cne:=I.cne;have tracked:∀ {a:Addr} {h':Heap},(∃ o,s.heap.get? a = some o/\H a = none)->Heap.SameBut a s.heap h'->HOk X.prog X.w H h':=λ{a h'} ha hs b ob e=>by
  obtain ⟨_,_,hfree⟩:=ha;refine (I.hok b ob e).stay (λc w' hc q=>(hs.2 c ?_).trans q) (λ_ q=>q) λ_ _ q=>q;rintro rfl;rcases hc with rfl | hc
  ·rw [hfree] at e;cases e
  ·rw [hfree] at hc;cases hc
 rcases hx with hk | hk
 ·refine wpAny_storeName_local hk hn (λh' hn' hs=>?_) hcls;obtain ⟨oL,_,_,hoL,_⟩:=id hn;refine h _ ⟨I.ok,I.os,I.bare,⟨λb o e n hb hx=>?_,λb o e n hb hx=>?_,I.base.free,λb o e hx=>?_,I.base.tups,I.base.frzs,I.base.tbls⟩,⟨_,hn',λj y v' e1 e2 e3=>?_⟩,λy c e=>?_,I.free,I.freeC,λp hp=>?_,tracked ⟨oL,hoL,I.free⟩ hs,by simpa using I.len⟩ ⟨_,hs,.inl rfl⟩
  ·exact (hs.2 b (YAw (YAv (YAn e) I.ok.above))).trans (I.base.keep b o e n hb hx)
  ·obtain ⟨sl,e1⟩:=I.base.slot b o e n hb hx;exact ⟨sl,(hs.2 b (YAw (YAv (YAn e) I.ok.above))).trans e1⟩
  ·obtain ⟨o',e1⟩:=I.base.there b o e hx;exact ⟨o',(hs.2 b (YAw (YAv (YAn e) I.ok.above))).trans e1⟩
  ·by_cases hj:j = i
   ·subst hj;rw [hi] at e1;cases e1;rw [YAI hiσ] at e2;cases e2;exact ⟨u,r,.inl ⟨hk,by simp⟩⟩
   ·rw [YAG (Ne.symm hj)] at e2;obtain ⟨u',r',q⟩:=hl j y v' e1 e2 e3;refine ⟨u',r',?_⟩;rcases q with ⟨k,e⟩ | ⟨k,c,e,z⟩
    ·refine .inl ⟨k,?_⟩
     have:y ≠ x:=λe=>hj (zj8 hN e1 (e ▸ hi))
     simp [this,e]
    ·exact .inr ⟨k,c,e,z.sameBut hs (cne y c e)⟩
  ·obtain ⟨w',z⟩:=I.cell y c e;exact ⟨w',z.sameBut hs (cne y c e)⟩
  ·obtain ⟨e,n,ne,nf,d⟩:=I.pin p hp;exact ⟨(hs.2 p.1 ne).trans e,n,ne,nf,d⟩
 ·have hfn:X.fn x = true:=by
   rcases hf with z | z
   ·exact z
   ·rw [z] at hk;cases hk
  obtain ⟨c,hc⟩:=I.ok.has x (.inl hk);obtain ⟨w',z⟩:=I.cell x c hc;refine wpAny_storeName_cell I.ok.kind hk hc z (λh' hc' hs=>?_);obtain ⟨oc,hoc,hocd⟩:=id z;refine h { s with heap:=h' } ⟨I.ok,I.os,I.bare,⟨λb o e n hb hx=>?_,λb o e n hb hx=>?_,I.base.free,λb o e hx=>?_,I.base.tups,I.base.frzs,I.base.tbls⟩,⟨m,hn.sameBut hs (Ne.symm (cne x c hc)),λj y v' e1 e2 e3=>?_⟩,λy c' e=>?_,I.free,I.freeC,λp hp=>?_,tracked ⟨oc,hoc,I.freeC x c hc⟩ hs,by simpa using I.len⟩ ⟨c,hs,.inr hc⟩
  ·exact (hs.2 b (YAw (YAv (YAn e) (I.ok.cab x c hfn hc)))).trans (I.base.keep b o e n hb hx)
  ·obtain ⟨sl,e1⟩:=I.base.slot b o e n hb hx;exact ⟨sl,(hs.2 b (YAw (YAv (YAn e) (I.ok.cab x c hfn hc)))).trans e1⟩
  ·obtain ⟨o',e1⟩:=I.base.there b o e hx;exact ⟨o',(hs.2 b (YAw (YAv (YAn e) (I.ok.cab x c hfn hc)))).trans e1⟩
  ·by_cases hj:j = i
   ·subst hj;rw [hi] at e1;cases e1;rw [YAI hiσ] at e2;cases e2;exact ⟨u,r,.inr ⟨.inl hk,c,hc,hc'⟩⟩
   ·rw [YAG (Ne.symm hj)] at e2;obtain ⟨u',r',q⟩:=hl j y v' e1 e2 e3;refine ⟨u',r',?_⟩;rcases q with q | ⟨k,c',e,z'⟩
    ·exact .inl q
    ·refine .inr ⟨k,c',e,z'.sameBut hs ?_⟩;rintro rfl;exact hj (zj8 hN e1 (I.ok.inj _ _ _ e hc ▸ hi))
  ·by_cases hcc:c' = c
   ·subst hcc;exact ⟨_,hc'⟩
   ·obtain ⟨w2,z2⟩:=I.cell y c' e;exact ⟨w2,z2.sameBut hs hcc⟩
  ·obtain ⟨e,n,ne,nf,d⟩:=I.pin p hp;refine ⟨(hs.2 p.1 ?_).trans e,n,ne,nf,d⟩;intro q;rw [q,hoc] at e;have q':oc = p.2:=Option.some.inj e;exact d w' (by rw [<- q'];exact hocd)
theorem zd0 {M:Model} {A:Around} {E:Value->Shared->Prop} {i:Nat} {x:Str} {v:V} {u:Value} {Q:Unit->Shared->Prop} (I:Inv X pins σ H s) (hN:X.N.Nodup) (hi:X.N[i]? = some x) (hx:Loc X.env.scope x) (r:RelV v u)
  (h:∀ s',Inv X pins (σ.set i (some v)) H s'->Q () s') (hf:X.fn x = true\/X.env.scope.names.lookup x = some .local:=by first | exact .inl rfl | exact .inr rfl | assumption):wpAny M A (storeName X.env x u) Q E s:=
 ze4 I hN hi hx r (λs' I' _=>h s' I') hf
theorem Inv.call'  (I:Inv X pins σ H s) (ho:s'.os = s.os) (u:Un (frs X.stack) ch H H' s.heap s'.heap) (hok:HOk X.prog X.w H' s'.heap) (hg:AllBare s'.gens)
  (hch:∀ b ∈ ch,(b ∈ X.ex\/X.s₀.heap.objs.size <= b)/\b ≠ X.env.locals/\(∀ x c,X.env.cells.lookup x = some c->c ≠ b)/\∀ p ∈ X.pn ++ pins,p.1 ≠ b):Inv X pins σ H' s':=by
 obtain ⟨h',g',d',t',o'⟩:=s';have e:o' = s.os:=ho;subst e;exact I.call (g':=g') (t':=t') (d':=d') u hok hg hch
end
abbrev XK:=Value->Option Addr->Hp->Prop
abbrev St:=List (Option V)
abbrev VK:=V->Hp->Prop
abbrev TE:=St->Hp->VK->Prop
abbrev TT:=St->Hp->(Bool->Hp->Prop)->Prop
abbrev TA:=St->Hp->(List V->Hp->Prop)->Prop
structure Ends where
 nx:St->Hp->Prop
 rt:VK
 bk:St->Hp->Prop:=λ_ _=>False
 ct:St->Hp->Prop:=λ_ _=>False
abbrev TS:=Ends->St->Hp->Prop
def EP (X:Cx) (pins:List (Addr × Obj)) (σ:St) (Q:VK) (u:Value) (s':Shared):Prop:=∃ v H',Inv X pins σ H' s'/\RelV v u/\Q v H'
def TP (X:Cx) (pins:List (Addr × Obj)) (σ:St) (Q:Bool->Hp->Prop) (b:Bool) (s':Shared):Prop:=∃ H',Inv X pins σ H' s'/\Q b H'
def AP (X:Cx) (pins:List (Addr × Obj)) (σ:St) (Q:List V->Hp->Prop) (us:List Value) (s':Shared):Prop:=∃ vs H',Inv X pins σ H' s'/\Vals vs us/\Q vs H'
def SP (X:Cx) (pins:List (Addr × Obj)) (D:Ends) (f:Flow) (s':Shared):Prop:=
 match f with
 | .next=>∃ σ' H',Inv X pins σ' H' s'/\D.nx σ' H'
 | .brk=>∃ σ' H',Inv X pins σ' H' s'/\D.bk σ' H'
 | .cont=>∃ σ' H',Inv X pins σ' H' s'/\D.ct σ' H'
 | .ret u=>∃ v σ' H',Inv X pins σ' H' s'/\RelV v u/\D.rt v H'
def PE (X:Cx) (e:Expr) (t:TE):Prop:=
 ∀ (pins:List (Addr × Obj)) (s:Shared) (σ:St) (H:Hp) (Q:VK),Inv X pins σ H s->t σ H Q->wpAny (model X.prog X.w) X.A (eval e X.env) (EP X pins σ Q) X.xe s
def PT (X:Cx) (e:Expr) (t:TT):Prop:=
 ∀ (pins:List (Addr × Obj)) (s:Shared) (σ:St) (H:Hp) (Q:Bool->Hp->Prop),Inv X pins σ H s->t σ H Q->wpAny (model X.prog X.w) X.A (isTrue e X.env (eval e X.env)) (TP X pins σ Q) X.xe s
def PW (X:Cx) (e:Expr) (t:TT):Prop:=
 ∀ (whole:Sem Value) (pins:List (Addr × Obj)) (s:Shared) (σ:St) (H:Hp) (Q:Bool->Hp->Prop),Inv X pins σ H s->t σ H Q->wpAny (model X.prog X.w) X.A (isTrue e X.env whole) (TP X pins σ Q) X.xe s
theorem PW.pt {X:Cx} {e:Expr} {t:TT} (h:PW X e t):PT X e t:=h _
def PA (X:Cx) (es:List Expr) (t:TA):Prop:=
 ∀ (pos:Pos) (pins:List (Addr × Obj)) (s:Shared) (σ:St) (H:Hp) (Q:List V->Hp->Prop),Inv X pins σ H s->t σ H Q->wpAny (model X.prog X.w) X.A (spliced (backTo pos (starEach es X.env))) (AP X pins σ Q) X.xe s
def PS (X:Cx) (st:Stmt) (t:TS):Prop:=
 ∀ (pins:List (Addr × Obj)) (s:Shared) (σ:St) (H:Hp) (D:Ends),Inv X pins σ H s->t D σ H->wpAny (model X.prog X.w) X.A (exec st X.env) (SP X pins D) X.xe s
def PSs (X:Cx) (st:List Stmt) (t:TS):Prop:=
 ∀ (pins:List (Addr × Obj)) (s:Shared) (σ:St) (H:Hp) (D:Ends),Inv X pins σ H s->t D σ H->wpAny (model X.prog X.w) X.A (execs st X.env) (SP X pins D) X.xe s
theorem thn {α:Type} {t:Sem α} {Q Q':α->Shared->Prop} {M:Model} {A:Around} {E:Value->Shared->Prop} {s:Shared} (h:wpAny M A t Q E s) (hQ:∀ a s,Q a s->Q' a s):wpAny M A t Q' E s:=YA0 h hQ λ_ _ x=>x
section
variable {X:Cx}
def tVar (i:Nat):TE:=λσ H Q=>∃ v,σ[i]? = some (some v)/\Q v H
def tC (v:V):TE:=λ_ H Q=>Q v H
theorem zdV  (hN:X.N[i]? = some x) (hv:Vis X.env.scope x) (hd:(x == ("__debug__" : Str)) = false:=by decide) (hcd:(x == ("__classdict__" : Str)) = false:=by decide):PE X (.Name x pos) (tVar i):=by
 intro pins s σ H Q I h;obtain ⟨v,e,h⟩:=h;obtain ⟨m,hn,hl⟩:=I.loc;obtain ⟨u,r,l⟩:=hl i x v hN e hv;have fin:EP X pins σ Q u s:=⟨v,H,I,r,h⟩;rcases l with ⟨hk,hm⟩ | ⟨hk,c,hc,hcell⟩
 ·exact wpAny_Name (wpAny_loadName_local I.ok.kind hk hn hm fin) hd
 ·rcases hk with hk | hk
  ·exact wpAny_Name (wpAny_loadName_cell I.ok.kind hk hc hcell fin) hd
  ·exact wpAny_Name (wpAny_loadName_free I.ok.kind hk hc hcell fin hcd) hd
theorem zaI {i j pos}:PE X (.Constant (.int i) j pos) (tC (.int i)):=λ_ _ _ H _ I h=>wpAny_Constant_int ⟨.int i,H,I.tok _,⟨_,rfl⟩,h⟩
theorem zse {b j pos}:PE X (.Constant (.bool b) j pos) (tC (.bl b)):=λ_ _ _ H _ I h=>Constant_bool ⟨.bl b,H,I,rfl,h⟩
theorem zj0 {j pos}:PE X (.Constant .none j pos) (tC .non):=λ_ _ _ H _ I h=>Constant_none ⟨.non,H,I,rfl,h⟩
theorem zqZ {x j pos}:PE X (.Constant (.str x) j pos) (tC (.str x)):=λ_ _ _ H _ I h=>Calls.Constant_str ⟨.str x,H,I.tok _,⟨_,rfl⟩,h⟩
def Gl (X:Cx) (x:Str):Prop:=X.env.kindOf x = some .globalImplicit
theorem zpw {E:Value->Shared->Prop} {pins:List (Addr × Obj)} {s:Shared} {σ:St} {H:Hp} {x:Str} {u:Value} {pos:Pos} {Q:Value->Shared->Prop} (I:Inv X pins σ H s) (hg:Gl X x) (hm:X.mg x = some u) (h:Q u s)
  (hd:(x == ("__debug__" : Str)) = false:=by decide):wpAny (model X.prog X.w) X.A (eval (.Name x pos) X.env) Q E s:=
 Calls.Name_function_global I.ok.kind hg (Calls.loadGlobal_global (by rw [I.ok.glob];exact I.mod.glob.keeps I.bk) hm h) hd
theorem zfm {E:Value->Shared->Prop} {pins:List (Addr × Obj)} {s:Shared} {σ:St} {H:Hp} {x:Str} {u:Value} {pos:Pos} {Q:Value->Shared->Prop} (I:Inv X pins σ H s) (hg:Gl X x) (hm:X.mg x = none) (hv:bootBuiltins x = some u) (h:Q u s)
  (hn:x ≠ "__name__" := by decide) (hd:(x == ("__debug__" : Str)) = false:=by decide):wpAny (model X.prog X.w) X.A (eval (.Name x pos) X.env) Q E s:=by
 obtain ⟨mb,h1,h2⟩:=I.mod.blt;exact Calls.Name_function_global I.ok.kind hg (Calls.loadGlobal_builtin (by rw [I.ok.glob];exact I.mod.glob.keeps I.bk) hm (by rw [I.ok.blt];exact h1.keeps I.bk) ((h2 x hn).trans hv) h) hd
theorem zpo   (hg:Gl X x) (hm:X.mg x = none) (hv:bootBuiltins x = some u) (r:RelV v u) (hn:x ≠ "__name__" := by decide) (hd:(x == ("__debug__" : Str)) = false:=by decide):PE X (.Name x pos) (tC v):=
 λ_ _ _ H _ I h=>zfm I hg hm hv ⟨v,H,I,r,h⟩ hn hd
variable {a b:Expr} {ta tb:TE} {pos:Pos}
def PC (X:Cx) (op:CmpOp) (a b:Expr) (t:TE):Prop:=
 ∀ (pins:List (Addr × Obj)) (s:Shared) (σ:St) (H:Hp) (Q:VK),Inv X pins σ H s->t σ H Q ->
  wpAny (model X.prog X.w) X.A (eval a X.env) (λv s₁=>wpAny (model X.prog X.w) X.A (eval b X.env) (λu s₂=>wpAny (model X.prog X.w) X.A (compareOp op v u) (EP X pins σ Q) X.xe s₂) X.xe s₁) X.xe s
theorem zjQ (b:Expr) {op:CmpOp} (h:op ≠ .In) (h2:op ≠ .NotIn):behindInMarks op b = false:=by
 have e1:(op == CmpOp.In) = false:=by cases op <;> first | rfl | exact absurd rfl h
 have e2:(op == CmpOp.NotIn) = false:=by cases op <;> first | rfl | exact absurd rfl h2
 cases b <;> simp [behindInMarks,e1,e2]
def tIsN (ta:TE):TE:=λσ H Q=>ta σ H λx H1=>Q (.bl (decide (x = .non))) H1
def zrS (ta:TE):TE:=λσ H Q=>ta σ H λx H1=>Q (.bl (!decide (x = .non))) H1
theorem RelV.none_iff {x:V} {v:Value} (r:RelV x v):(v == Value.none) = decide (x = .non):=by
 cases x with
 | non=>cases r;rfl
 | bl _=>cases r;rfl
 | int _=>obtain ⟨t,rfl⟩:=r;rfl
 | str _=>obtain ⟨t,rfl⟩:=r;rfl
 | byt _=>obtain ⟨t,rfl⟩:=r;rfl
 | flt _=>obtain ⟨t,rfl⟩:=r;rfl
 | ref _=>cases r;rfl
 | ty _=>cases r;rfl
theorem zoq {j pos'} (ha:PE X a ta):PC X .Is a (.Constant .none j pos') (tIsN ta):=by
 intro pins s σ H Q I h;refine thn (ha pins s σ H _ I h) λv s1 ⟨x,H1,I1,r1,q1⟩=>?_;exact Constant_none (is_none_gen ⟨.bl _,H1,I1,by rw [r1.none_iff];rfl,q1⟩)
theorem zpa {j pos'} (ha:PE X a ta):PC X .IsNot a (.Constant .none j pos') (zrS ta):=by
 intro pins s σ H Q I h;refine thn (ha pins s σ H _ I h) λv s1 ⟨x,H1,I1,r1,q1⟩=>?_;exact Constant_none (isnot_none_gen ⟨.bl _,H1,I1,by rw [r1.none_iff];rfl,q1⟩)
def tB (t:TE):TT:=λσ H Q=>t σ H λx H1=>∃ c,x = .bl c/\Q c H1
theorem zqj  (h:PC X op a b t) (h1:behindInMarks op b = false:=by first | exact zjQ _ (by decide) (by decide) | rfl):PE X (.Compare a [op] [b] pos) t:=λpins s σ H Q I hw=>wpAny_Compare1 (h pins s σ H Q I hw) h1
theorem ziA {op:CmpOp} {t:TE} (h:PC X op a b t) (h1:behindInMarks op b = false:=by first | exact zjQ _ (by decide) (by decide) | rfl):PT X (.Compare a [op] [b] pos) (tB t):=by
 intro pins s σ H Q I hw;refine wpAny_isTrue_Compare1 (thn (h pins s σ H _ I hw) λv s1 h1=>thn h1 λu s2 h2=>thn h2 λc s3 ⟨x,H1,I1,r1,q1⟩=>?_) h1;obtain ⟨d,rfl,q⟩:=q1;cases r1;exact YBa ⟨H1,I1,q⟩
theorem zqa {e:Expr} {t:TE} (h:PE X e t) (he:∀ whole,isTrue e X.env whole = (do let v <- whole;standAt e.pos;holding [v] (truthy v)):=by intro _;rfl):PT X e (tB t):=by
 intro pins s σ H Q I hw;refine isTrue_plain (thn (h pins s σ H _ I hw) λv s1 ⟨x,H1,I1,r1,q1⟩=>?_) (he _);obtain ⟨d,rfl,q⟩:=q1;cases r1;exact YBa ⟨H1,I1,q⟩
variable {tA tB':TT} {rest:List Expr}
def tAnd (t u:TT):TT:=λσ H Q=>t σ H λc H1=>if c = true then u σ H1 Q else Q false H1
def tOr (t u:TT):TT:=λσ H Q=>t σ H λc H1=>if c = true then Q true H1 else u σ H1 Q
def tNot (t:TT):TT:=λσ H Q=>t σ H λc H1=>Q (!c) H1
theorem zjh (ha:PT X a tA):PW X (.BoolOp .And [a] pos) tA:=by
 intro wh pins s σ H Q I h;refine isTrue_and (thn (ha pins s σ H Q I h) λc s1 e=>?_);cases c with
 | true=>exact isTrue_and_nil e
 | false=>exact e
theorem zq7 (ha:PT X a tA):PW X (.BoolOp .Or [a] pos) tA:=by
 intro wh pins s σ H Q I h;refine isTrue_or (thn (ha pins s σ H Q I h) λc s1 e=>?_);cases c with
 | false=>exact isTrue_or_nil e
 | true=>exact e
theorem zmz (ha:PT X a tA) (hb:PW X (.BoolOp .And (b :: rest) pos) tB'):PW X (.BoolOp .And (a :: b :: rest) pos) (tAnd tA tB'):=by
 intro wh pins s σ H Q I h;refine isTrue_and (thn (ha pins s σ H _ I h) λc s1 ⟨H1,I1,q1⟩=>?_);cases c with
 | true=>exact hb wh pins s1 σ H1 Q I1 q1
 | false=>exact ⟨H1,I1,q1⟩
theorem zrX (ha:PT X a tA) (hb:PW X (.BoolOp .Or (b :: rest) pos) tB'):PW X (.BoolOp .Or (a :: b :: rest) pos) (tOr tA tB'):=by
 intro wh pins s σ H Q I h;refine isTrue_or (thn (ha pins s σ H _ I h) λc s1 ⟨H1,I1,q1⟩=>?_);cases c with
 | true=>exact ⟨H1,I1,q1⟩
 | false=>exact hb wh pins s1 σ H1 Q I1 q1
theorem zrm (ha:PT X a tA):PT X (.UnaryOp .Not a pos) (tNot tA):=by
 intro pins s σ H Q I h;exact isTrue_not (ha pins s σ H (λc H1=>Q (!c) H1) I h)
def zsa (ta tb:TE):TE:=λσ H Q=>ta σ H λx H1=>∃ c,x = .bl c/\if c = true then tb σ H1 Q else Q (.bl false) H1
def zrM (ta:TE):TE:=λσ H Q=>ta σ H λx H1=>∃ c,x = .bl c/\Q (.bl (!c)) H1
theorem zq5 {op} (h:PE X a t):PE X (.BoolOp op [a] pos) t:=λpins s σ H Q I hw=>BoolOp_one (h pins s σ H Q I hw)
theorem zp9 (ha:PE X a ta) (hb:PE X (.BoolOp .And (b :: rest) pos) tb):PE X (.BoolOp .And (a :: b :: rest) pos) (zsa ta tb):=by
 intro pins s σ H Q I h;refine BoolOp_and (thn (ha pins s σ H _ I h) λv s1 ⟨x,H1,I1,r1,q1⟩=>?_);obtain ⟨c,rfl,q1⟩:=q1;cases r1;refine YBa ?_;cases c with
 | true=>exact hb pins s1 σ H1 Q I1 q1
 | false=>exact ⟨.bl false,H1,I1,rfl,q1⟩
theorem zqc (ha:PE X a ta):PE X (.UnaryOp .Not a pos) (zrM ta):=by
 intro pins s σ H Q I h;refine UnaryOp_ (thn (ha pins s σ H _ I h) λv s1 ⟨x,H1,I1,r1,q1⟩=>?_);obtain ⟨c,rfl,q1⟩:=q1;cases r1;exact not_of (YBa ⟨.bl (!c),H1,I1,rfl,q1⟩)
def tIf (t:TT) (ta tb:TE):TE:=λσ H Q=>t σ H λc H1=>if c = true then ta σ H1 Q else tb σ H1 Q
theorem zn8 {c:Expr} (hc:PT X c tA) (ha:PE X a ta) (hb:PE X b tb):PE X (.IfExp c a b pos) (tIf tA ta tb):=by
 intro pins s σ H Q I h;refine wpAny_IfExp (thn (hc pins s σ H _ I h) λd s1 ⟨H1,I1,q1⟩=>?_);cases d with
 | true=>exact ha pins s1 σ H1 Q I1 q1
 | false=>exact hb pins s1 σ H1 Q I1 q1
end
def SqL (K:PySem.W.Frag) (H:Hp) (a:Addr) (xs:List V):Prop:=
 Rd H a (.lst xs) \/
  ∃ (o:Obj) (its:Array Value) (n:Nat),K.lookup a = some o/\o.cls = .type "list" /\ o.dict = none/\o.data = .seq its n/\its.size <= sizeLine/\Vals xs its.toList
def SqT (K:PySem.W.Frag) (H:Hp) (a:Addr) (xs:List V):Prop:=
 Rd H a (.tup xs) \/
  ∃ (o:Obj) (its:Array Value) (n:Nat),K.lookup a = some o/\o.cls = .type "tuple" /\ o.data = .seq its n/\its.size <= sizeLine/\Vals xs its.toList
def absV:Value->Option V
 | .none=>some .non
 | .bool b=>some (.bl b)
 | .int i _=>some (.int i)
 | .str x _=>some (.str x)
 | .bytes b _=>some (.byt b)
 | .float b _=>some (.flt b)
 | .ref a=>some (.ref a)
 | .type n=>some (.ty n)
 | _=>none
theorem RelV.abs  (r:RelV x u):absV u = some x:=by
 cases x with
 | non=>cases r;rfl
 | bl _=>cases r;rfl
 | int _=>obtain ⟨t,rfl⟩:=r;rfl
 | str _=>obtain ⟨t,rfl⟩:=r;rfl
 | byt _=>obtain ⟨t,rfl⟩:=r;rfl
 | flt _=>obtain ⟨t,rfl⟩:=r;rfl
 | ref _=>cases r;rfl
 | ty _=>cases r;rfl
theorem RelV.inj {x y:V} {u:Value} (r:RelV x u) (q:RelV y u):x = y:=Option.some.inj (r.abs.symm.trans q.abs)
theorem Vals.inj:∀ {xs ys:List V} {us:List Value},Vals xs us->Vals ys us->xs = ys
 | _,_,_,.nil,.nil=>rfl
 | _,_,_,.cons r t,.cons r' t'=>by rw [r.inj r',Vals.inj t t']
section
variable {X:Cx} {pins:List (Addr × Obj)} {σ:St} {H:Hp} {s:Shared} {a:Addr} {xs ys:List V}
theorem SqL.of {K:PySem.W.Frag} (h:H a = some (.lst xs)):SqL K H a xs:=.inl (.inl h)
theorem SqT.of {K:PySem.W.Frag} (h:H a = some (.tup xs)):SqT K H a xs:=.inl (.inl h)
theorem Inv.list (I:Inv X pins σ H s) (h:SqL X.K H a xs):∃ its:List Value,Vals xs its/\PlainL s.heap a its.toArray/\xs.length <= sizeLine:=by
 rcases h with h | ⟨o,its,n,hk,hc,hd,hs,hz,r⟩
 ·obtain ⟨z,its,n,r,e⟩:=h.ok I.hok;exact ⟨its,r,⟨_,n,e,rfl,rfl,rfl⟩,z⟩
 ·refine ⟨its.toList,r,⟨o,n,I.kIn a o hk,hc,hd,by simpa using hs⟩,?_⟩;have e:=r.length;simp only [YBD] at e;omega
theorem Inv.tuple (I:Inv X pins σ H s) (h:SqT X.K H a xs):∃ its:List Value,Vals xs its/\IsTup s.heap a its.toArray/\xs.length <= sizeLine:=by
 rcases h with h | ⟨o,its,n,hk,hc,hs,hz,r⟩
 ·obtain ⟨z,its,r,p⟩:=h.ok I.hok;exact ⟨its,r,p,z⟩
 ·refine ⟨its.toList,r,⟨o,I.kIn a o hk,hc,n,by simpa using hs⟩,?_⟩;have e:=r.length;simp only [YBD] at e;omega
theorem Inv.list_inj (I:Inv X pins σ H s) (h:SqL X.K H a xs) (h':SqL X.K H a ys):xs = ys:=by
 obtain ⟨its,r,⟨o,n,e,_,_,d⟩,_⟩:=I.list h;obtain ⟨its',r',⟨o',n',e',_,_,d'⟩,_⟩:=I.list h';rw [e] at e';cases e';rw [d] at d';injection d' with d1 _
 have:its = its':=by simpa using congrArg Array.toList d1
 subst this;exact r.inj r'
theorem Inv.tuple_inj (I:Inv X pins σ H s) (h:SqT X.K H a xs) (h':SqT X.K H a ys):xs = ys:=by
 obtain ⟨its,r,⟨o,e,_,n,d⟩,_⟩:=I.tuple h;obtain ⟨its',r',⟨o',e',_,n',d'⟩,_⟩:=I.tuple h';rw [e] at e';cases e';rw [d] at d';injection d' with d1 _
 have:its = its':=by simpa using congrArg Array.toList d1
 subst this;exact r.inj r'
end
abbrev Cx.wish (X:Cx) (E:Value->Shared->Prop):Cx:={ X with xe:=E }
abbrev Cx.nox (X:Cx):Cx:=X.wish λ_ _=>False
theorem Cx.Ok.wish {X:Cx} (ok:X.Ok) (E:Value->Shared->Prop):(X.wish E).Ok:=
 ⟨ok.mod,ok.kind,ok.glob,ok.blt,ok.above,ok.inj,ok.has,ok.cab,ok.hd,ok.frames,ok.stk,ok.exf,ok.bs,ok.bsz,ok.noex,ok.exfs,ok.funs,ok.frf⟩
theorem Cx.Ok.unwish {X:Cx} {E:Value->Shared->Prop} (ok:(X.wish E).Ok):X.Ok:=
 ⟨ok.mod,ok.kind,ok.glob,ok.blt,ok.above,ok.inj,ok.has,ok.cab,ok.hd,ok.frames,ok.stk,ok.exf,ok.bs,ok.bsz,ok.noex,ok.exfs,ok.funs,ok.frf⟩
section
variable {X:Cx} {pins:List (Addr × Obj)} {σ:St} {H:Hp} {s:Shared} {E:Value->Shared->Prop}
theorem Inv.wish (I:Inv X pins σ H s) (E:Value->Shared->Prop):Inv (X.wish E) pins σ H s:=⟨I.ok.wish E,I.os,I.bare,I.base,I.loc,I.cell,I.free,I.freeC,I.pin,I.hok,I.len⟩
theorem Inv.unwish (I:Inv (X.wish E) pins σ H s):Inv X pins σ H s:=⟨I.ok.unwish,I.os,I.bare,I.base,I.loc,I.cell,I.free,I.freeC,I.pin,I.hok,I.len⟩
theorem SP.unwish  (h:SP (X.wish E) pins D f s'):SP X pins D f s':=by
 cases f with
 | next=>obtain ⟨σ',H',I,q⟩:=h;exact ⟨σ',H',I.unwish,q⟩
 | brk=>obtain ⟨σ',H',I,q⟩:=h;exact ⟨σ',H',I.unwish,q⟩
 | cont=>obtain ⟨σ',H',I,q⟩:=h;exact ⟨σ',H',I.unwish,q⟩
 | ret u=>obtain ⟨v,σ',H',I,r,q⟩:=h;exact ⟨v,σ',H',I.unwish,r,q⟩
theorem PSs.nox {st:List Stmt} {t:TS} (h:PSs X.nox st t):PSs X st t:=λpins s σ H D I hw=>
 YA0 (h pins s σ H D (I.wish _) hw) (λ_ _ q=>q.unwish) λ_ _ z=>False.elim z
end
section
variable {X:Cx} {st:Stmt} {rest:List Stmt} {t u:TS} {e:Expr} {te:TE} {pos:Pos}
def zrR:TS:=λD σ H=>D.nx σ H
def tSeq (t u:TS):TS:=λD σ H=>t { D with nx:=u D } σ H
theorem zci:PSs X [] zrR:=λ_ _ σ H _ I h=>wpAny_execs_nil ⟨σ,H,I,h⟩
theorem zak (h1:PS X st t) (h2:PSs X rest u):PSs X (st :: rest) (tSeq t u):=by
 intro pins s σ H D I h;refine wpAny_execs_cons (thn (h1 pins s σ H { D with nx:=u D } I h) λf s1 q=>?_);cases f with
 | next=>
  obtain ⟨σ',H',I',q⟩:=q;exact h2 pins s1 σ' H' D I' q
 | ret v=>exact q
 | brk=>exact q
 | cont=>exact q
theorem zaC (h1:PS X st t):PSs X [st] t:=by
 intro pins s σ H D I h;refine wpAny_execs_cons (thn (h1 pins s σ H D I h) λf s1 q=>?_);cases f with
 | next=>exact wpAny_execs_nil q
 | ret v=>exact q
 | brk=>exact q
 | cont=>exact q
theorem Inv.quiet {pins:List (Addr × Obj)} {σ:St} {H:Hp} {s:Shared} (I:Inv X pins σ H s):interactive X.env = false:=by simp [interactive,I.ok.kind]
def zry (te:TE):TS:=λD σ H=>te σ H λ_ H1=>D.nx σ H1
theorem zcV (he:PE X e te) (hs:swapsWith e none pos.line X.env = pure false:=by rfl):PS X (.Expr e pos) (zry te):=by
 intro pins s σ H D I h;exact wpAny_Expr_any (thn (he pins s σ H _ I h) λv s1 ⟨x,H1,I1,r1,q1⟩=>⟨σ,H1,I1,q1⟩) I.quiet hs
def tRet (te:TE):TS:=λD σ H=>te σ H D.rt
theorem zbP (he:PE X e te):PS X (.Return (some e) pos) (tRet te):=by
 intro pins s σ H D I h;exact wpAny_Return_some (thn (he pins s σ H _ I h) λv s1 ⟨x,H1,I1,r1,q1⟩=>⟨x,σ,H1,I1,r1,q1⟩)
def tIfS (c:TT) (t u:TS):TS:=λD σ H=>c σ H λb H1=>if b = true then t D σ H1 else u D σ H1
theorem zfX {c:Expr} {a b:List Stmt} {tc:TT} (hc:PT X c tc) (ha:PSs X a t) (hb:PSs X b u):PS X (.If c a b pos) (tIfS tc t u):=by
 intro pins s σ H D I h;refine wpAny_If (thn (hc pins s σ H _ I h) λd s1 ⟨H1,I1,q1⟩=>?_);cases d with
 | true=>exact ha pins s1 σ H1 D I1 q1
 | false=>exact hb pins s1 σ H1 D I1 q1
end
abbrev TG:=V->St->Hp->(St->Hp->Prop)->Prop
abbrev TGs:=List V->St->Hp->(St->Hp->Prop)->Prop
def PG (X:Cx) (target:Expr) (t:TG):Prop:=
 ∀ (pins:List (Addr × Obj)) (s:Shared) (σ:St) (H:Hp) (v:V) (u:Value) (Q:St->Hp->Prop),Inv X pins σ H s->RelV v u->t v σ H Q ->
  wpAny (model X.prog X.w) X.A (assign target X.env u) (λ_ s'=>∃ σ' H',Inv X pins σ' H' s'/\Q σ' H') X.xe s
def PGs (X:Cx) (ts:List Expr) (t:TGs):Prop:=
 ∀ (pins:List (Addr × Obj)) (s:Shared) (σ:St) (H:Hp) (vs:List V) (us:List Value) (Q:St->Hp->Prop),Inv X pins σ H s->Vals vs us->t vs σ H Q ->
  wpAny (model X.prog X.w) X.A (assignInOrder ((assignEach ts X.env).map (·.2)) us) (λ_ s'=>∃ σ' H',Inv X pins σ' H' s'/\Q σ' H') X.xe s
abbrev TSet:=V->V->V->Hp->(Hp->Prop)->Prop
def PSet (X:Cx) (t:TSet):Prop:=
 ∀ (pins:List (Addr × Obj)) (s:Shared) (σ:St) (H:Hp) (o i v:V) (ov iv u:Value) (Q:Hp->Prop),Inv X pins σ H s->RelV o ov->RelV i iv->RelV v u->t o i v H Q ->
  wpAny (model X.prog X.w) X.A (setItem ov iv u) (λ_ s'=>∃ H',Inv X pins σ H' s'/\Q H') X.xe s
abbrev TIp:=V->V->Hp->VK->Prop
def PIp (X:Cx) (op:Operator) (t:TIp):Prop:=
 ∀ (pins:List (Addr × Obj)) (s:Shared) (σ:St) (H:Hp) (x y:V) (v u:Value) (Q:VK),Inv X pins σ H s->RelV x v->RelV y u->t x y H Q ->
  wpAny (model X.prog X.w) X.A (inplaceOp op v u) (EP X pins σ Q) X.xe s
section
variable {X:Cx} {pos:Pos}
def zcR (i:Nat):TG:=λv σ H Q=>Q (σ.set i (some v)) H
theorem zay  (hN:X.N.Nodup) (hi:X.N[i]? = some x) (hx:Loc X.env.scope x) (hf:X.fn x = true\/X.env.scope.names.lookup x = some .local:=by first | exact .inl rfl | exact .inr rfl | assumption):PG X (.Name x pos) (zcR i):=by
 intro pins s σ H v u Q I r h;exact wpAny_assign_Name (zd0 I hN hi hx r (λs' I'=>⟨_,H,I',h⟩) hf)
def gNil:TGs:=λvs σ H Q=>vs = []/\Q σ H
def zeR (t:TG) (u:TGs):TGs:=λvs σ H Q=>∃ v r,vs = v :: r/\t v σ H λσ' H'=>u r σ' H' Q
theorem zax:PGs X [] gNil:=by
 intro pins s σ H vs us Q I r h;obtain ⟨e,h⟩:=h;subst e;cases r;exact assignInOrder_nil ⟨σ,H,I,h⟩
theorem zac {e:Expr} {es:List Expr} {t:TG} {u:TGs} (h1:PG X e t) (h2:PGs X es u)
  (hs:(assignEach (e :: es) X.env).map (·.2) = assign e X.env :: (assignEach es X.env).map (·.2):=by rfl):PGs X (e :: es) (zeR t u):=by
 intro pins s σ H vs us Q I r h;obtain ⟨v,vr,e1,h⟩:=h;subst e1;cases r with
 | cons r rr=>
  rw [hs];refine assignInOrder_cons (thn (h1 pins s σ H _ _ _ I r h) λ_ s1 ⟨σ1,H1,I1,q1⟩=>?_);exact h2 pins s1 σ1 H1 _ _ Q I1 rr q1
def gTup (K:PySem.W.Frag) (n:Nat) (t:TGs):TG:=λv σ H Q=>∃ a xs,v = .ref a/\SqT K H a xs/\xs.length = n/\t xs σ H Q
theorem zcv   (hc:X.calm = true) (h:PGs X es t)
  (hn:(assignEach es X.env).length = n:=by rfl) (hst:(assignEach es X.env).findIdx? (·.1) = none:=by rfl):PG X (.Tuple es k pos) (gTup X.K n t):=by
 intro pins s σ H v u Q I r hw;obtain ⟨a,xs,e1,hq,hl,hw⟩:=hw;subst e1;cases r;obtain ⟨its,rv,ht,hz⟩:=I.tuple hq;refine assign_Tuple_tuple (I.ok.hd hc) ht (by simp [hn,<- hl,rv.length]) hst λh' hx=>?_;have I1:Inv X pins σ H { s with heap:=h' }:=I.kept (t':=s.toks) λb o e=>hx b o (YAw (YAn e)) e;exact h pins _ σ H xs _ Q I1 (by simpa using rv) hw
def gSub (to ti:TE) (t:TSet):TG:=λv σ H Q=>to σ H λo H1=>ti σ H1 λi H2=>t o i v H2 λH3=>Q σ H3
theorem zio {o i:Expr} {to ti:TE} {t:TSet} (ho:PE X o to) (hi:PE X i ti) (hs:PSet X t)
  (ha:∀ v,assign (.Subscript o i pos) X.env v = (do
   let ov <- holding [v] (eval o X.env)
   let iv <- holding [v,ov] (eval i X.env)
   standAt pos
   holding [v,ov,iv] (setItem ov iv v)
   release [v,ov,iv] []):=by intro _;rfl):PG X (.Subscript o i pos) (gSub to ti t):=by
 intro pins s σ H v u Q I r h;rw [ha];refine YAa (YAX (thn (ho pins s σ H _ I h) λov s1 ⟨x,H1,I1,r1,q1⟩=>?_));refine YAa (YAX (thn (hi pins s1 σ H1 _ I1 q1) λiv s2 ⟨y,H2,I2,r2,q2⟩=>?_));refine YAa (YBc (YAa (YAX (thn (hs pins s2 σ H2 x y v ov iv u _ I2 r1 r2 r q2) λ_ s3 ⟨H3,I3,q3⟩=>?_))));exact wpAny_release ⟨σ,H3,I3,q3⟩
def tAsg (te:TE) (g:TG):TS:=λD σ H=>te σ H λx H1=>g x σ H1 D.nx
theorem zdn {tg e:Expr} {te:TE} {g:TG} (he:PE X e te) (hg:PG X tg g) (hs:swapsWithSole [tg] e pos.line X.env = pure false:=by rfl) (hw:swappedStores [tg] e X.env = pure none:=by rfl)
  (h1:(assignEach [tg] X.env).map (·.2) = [assign tg X.env]:=by rfl):PS X (.Assign [tg] e pos) (tAsg te g):=by
 intro pins s σ H D I h;refine wpAny_Assign_stores (thn (he pins s σ H _ I h) λv s1 ⟨x,H1,I1,r1,q1⟩=>?_) hs hw;rw [h1];exact thn (hg pins s1 σ H1 x v _ I1 r1 q1) λ_ s2 q=>q
theorem zbq {i:Nat} {x:Str} {e:Expr} {te:TE} {pos':Pos} (hN:X.N.Nodup) (hi:X.N[i]? = some x) (hx:Loc X.env.scope x) (he:PE X e te) (hs:swapsWith e (some (.Name x pos')) pos.line X.env = pure false:=by rfl) (hf:X.fn x = true\/X.env.scope.names.lookup x = some .local:=by first | exact .inl rfl | exact .inr rfl | assumption) :
  PS X (.Assign [.Name x pos'] e pos) (tAsg te (zcR i)):=by
 intro pins s σ H D I h;refine wpAny_Assign_Name (thn (he pins s σ H _ I h) λv s1 ⟨y,H1,I1,r1,q1⟩=>?_) hs;exact zd0 I1 hN hi hx r1 (λs2 I2=>⟨_,H1,I2,q1⟩) hf
def tPar (i j:Nat) (ta:TA):TS:=λD σ H=>ta σ H λvs H1=>∃ v w,vs = [v,w]/\D.nx ((σ.set i (some v)).set j (some w)) H1
theorem zqI {i j:Nat} {x y:Str} {a b:Expr} {ta:TA} {px py pt:Pos} {kt k2 pt2} (hc:X.calm = true) (hN:X.N.Nodup) (hi:X.N[i]? = some x) (hj:X.N[j]? = some y) (hij:i ≠ j)
  (hx:X.env.scope.names.lookup x = some .local) (hy:X.env.scope.names.lookup y = some .local) (ha:PA X [a,b] ta)
  (hw:swappedStores [.Tuple [.Name x px,.Name y py] kt pt] (.Tuple [a,b] k2 pt2) X.env = pure (some [x,y]))
  (hs:swapsWithSole [.Tuple [.Name x px,.Name y py] kt pt] (.Tuple [a,b] k2 pt2) pos.line X.env = pure false:=by rfl) :
  PS X (.Assign [.Tuple [.Name x px,.Name y py] kt pt] (.Tuple [a,b] k2 pt2) pos) (tPar i j ta):=by
 intro pins s σ H D I h;rw [exec_Assign_arm];refine YAa (YBc ?_);rw [hs];refine YAa (YAf ?_);rw [if_neg (by decide)];refine YAa (Tuple_ (thn (ha _ pins s σ H _ I h) λus s1 ⟨vs,H1,I1,r1,q1⟩=>?_));obtain ⟨v,w,e1,q1⟩:=q1;subst e1;obtain ⟨u1,u2,rfl,rv,rw'⟩:∃ u1 u2,us = [u1,u2]/\RelV v u1/\RelV w u2:=by
  cases r1 with
  | cons p q=>
   cases q with
   | cons p' q'=>
    cases q';exact ⟨_,_,rfl,p,p'⟩
 refine YAQ ?_ (by show 2 <= sizeLine;decide);have I2:Inv X pins σ H1 { s1 with heap:=s1.heap.push { cls:=.type "tuple",data:=.seq [u1,u2].toArray } }:=I1.kept (t':=s1.toks) λb o e=>YAc _ e;rw [hw];refine YAa (YAf ?_);show wpAny (model X.prog X.w) X.A (do rule "assign.swapped-stores"; let items <- unpackItems (.ref s1.heap.objs.size) 2 none;assignInOrder [λv=>bindName X.env y v,λv=>bindName X.env x v] items.reverse;pure Flow.next) _ _ _;refine YAa (YBH (YAa (unpackItems_tuple (items:=#[u1,u2]) (I.ok.hd hc) (IsTup.new s1.heap _) λh' hx'=>?_)));have I3:=I2.kept (h':=h') (t':=s1.toks) λb o e=>hx' b o (YAw (YAn e)) e;show wpAny _ _ (assignInOrder [λv=>bindName X.env y v,λv=>bindName X.env x v] [u2,u1] >>= λ_=>pure Flow.next) _ _ _;refine YAa (assignInOrder_cons (wpAny_bindName (zd0 I3 hN hj (.inl hy) rw' (λs2 I4=>?_) (.inr hy))));refine assignInOrder_cons (wpAny_bindName (zd0 I4 hN hi (.inl hx) rv (λs3 I5=>assignInOrder_nil (YAf ?_)) (.inr hx)));rw [List.set_comm _ _ (Ne.symm hij)] at I5;exact ⟨_,H1,I5,q1⟩
def tAug (i:Nat) (te:TE) (ti:TIp):TS:=λD σ H=>∃ x,σ[i]? = some (some x)/\te σ H λy H1=>ti x y H1 λz H2=>D.nx (σ.set i (some z)) H2
theorem zos {i:Nat} {x:Str} {e:Expr} {te:TE} {op:Operator} {ti:TIp} {pos':Pos} (hN:X.N.Nodup) (hi:X.N[i]? = some x) (hx:Loc X.env.scope x) (he:PE X e te) (ho:PIp X op ti) (hf:X.fn x = true\/X.env.scope.names.lookup x = some .local:=by first | exact .inl rfl | exact .inr rfl | assumption) :
  PS X (.AugAssign (.Name x pos') op e pos) (tAug i te ti):=by
 intro pins s σ H D I h;obtain ⟨v,e1,h⟩:=h;obtain ⟨m,hn,hl⟩:=I.loc;have vis:Vis X.env.scope x:=by rcases hx with k | k;exact .inl k;exact .inr (.inl k)
 obtain ⟨u,r,l⟩:=hl i x v hi e1 vis;refine wpAny_AugAssign_Name ?_;have go:wpAny (model X.prog X.w) X.A (eval e X.env) (λw s₂=>wpAny (model X.prog X.w) X.A (inplaceOp op u w) (λr s₃=>wpAny (model X.prog X.w) X.A (storeName X.env x r) (λ_=>SP X pins D .next) X.xe s₃) X.xe s₂) X.xe s:=by
  refine thn (he pins s σ H _ I h) λw s1 ⟨y,H1,I1,r1,q1⟩=>?_;refine thn (ho pins s1 σ H1 v y u w _ I1 r r1 q1) λz s2 ⟨zv,H2,I2,r2,q2⟩=>?_;exact zd0 I2 hN hi hx r2 (λs3 I3=>⟨_,H2,I3,q2⟩) hf
 rcases l with ⟨hk,hm⟩ | ⟨hk,c,hc,hcell⟩
 ·exact wpAny_loadName_local I.ok.kind hk hn hm go
 ·rcases hk with hk | hk
  ·exact wpAny_loadName_cell I.ok.kind hk hc hcell go
  ·rcases hx with k | k
   ·have:X.env.scope.names.lookup x = some .free:=hk
    rw [k] at this;cases this
   ·have:X.env.scope.names.lookup x = some .free:=hk
    rw [k] at this;cases this
def zrI (to ti te:TE) (tget:V->V->Hp->VK->Prop) (tip:TIp) (tset:TSet):TS:=λD σ H=>to σ H λo H1=>ti σ H1 λi H2=>tget o i H2 λx H3=>te σ H3 λy H4=>tip x y H4 λz H5=>tset o i z H5 λH6=>D.nx σ H6
def PGet (X:Cx) (t:V->V->Hp->VK->Prop):Prop:=
 ∀ (pins:List (Addr × Obj)) (s:Shared) (σ:St) (H:Hp) (o i:V) (ov iv:Value) (Q:VK),Inv X pins σ H s->RelV o ov->RelV i iv->t o i H Q ->
  wpAny (model X.prog X.w) X.A (getItem ov iv) (EP X pins σ Q) X.xe s
theorem zk2 {o i e:Expr} {to ti te:TE} {tget:V->V->Hp->VK->Prop} {tip:TIp} {tset:TSet} {op:Operator} {tpos:Pos} (ho:PE X o to) (hi:PE X i ti) (hg:PGet X tget) (he:PE X e te) (hp:PIp X op tip) (hs:PSet X tset)
  (ha:∀ ov iv new,augStore i ov iv new = (do holding [new,ov,iv] (setItem ov iv new);release [new,ov,iv] [];pure .next):=by intros;rfl):PS X (.AugAssign (.Subscript o i tpos) op e pos) (zrI to ti te tget tip tset):=by
 intro pins s σ H D I h;refine wpAny_AugAssign_SubscriptAny (thn (ho pins s σ H _ I h) λov s1 ⟨x1,H1,I1,r1,q1⟩=>?_) ha;refine thn (hi pins s1 σ H1 _ I1 q1) λiv s2 ⟨x2,H2,I2,r2,q2⟩=>?_;refine thn (hg pins s2 σ H2 x1 x2 ov iv _ I2 r1 r2 q2) λold s3 ⟨x3,H3,I3,r3,q3⟩=>?_;refine thn (he pins s3 σ H3 _ I3 q3) λv s4 ⟨x4,H4,I4,r4,q4⟩=>?_;refine thn (hp pins s4 σ H4 x3 x4 old v _ I4 r3 r4 q4) λnew s5 ⟨x5,H5,I5,r5,q5⟩=>?_;exact thn (hs pins s5 σ H5 x1 x2 x5 ov iv new _ I5 r1 r2 r5 q5) λ_ s6 ⟨H6,I6,q6⟩=>⟨σ,H6,I6,q6⟩
def ipI (f:Int->Int->Int):TIp:=λx y H Q=>∃ i j,x = .int i/\y = .int j/\Q (.int (f i j)) H
theorem zjx:PIp X .Add (ipI λi j=>i + j):=by
 intro pins s σ H x y v u Q I r1 r2 h;obtain ⟨i,j,e1,e2,q⟩:=h;subst e1;subst e2;obtain ⟨t,rfl⟩:=r1;obtain ⟨t',rfl⟩:=r2;exact iadd_int ⟨.int _,H,I.tok _,⟨_,rfl⟩,q⟩
end
section
variable {X:Cx} {pos:Pos}
def zrj (c:TT) (tb:TS):TS:=λD σ H=>∃ W:Nat->St->Hp->Prop,(∃ m,W m σ H)/\∀ m σ H,W m σ H ->
 c σ H λb H1=>if b = true then ∃ N:St->Hp->Prop,(∀ σ' H',N σ' H'->∃ m',m' < m/\W m' σ' H')/\tb { D with nx:=N,ct:=N,bk:=D.nx } σ H1 else D.nx σ H1
theorem zkh {c:Expr} {body:List Stmt} {tc:TT} {tb:TS} (hp:PassesOwn (model X.prog X.w) X.A X.env X.xe) (hc:PT X c tc) (hb:PSs X body tb):PS X (.While c body [] pos) (zrj tc tb):=by
 intro pins s σ H D I h;obtain ⟨W,⟨m0,w0⟩,turn⟩:=h;refine wpAny_While (codeAny_whileLoop (λn s'=>∃ σ' H',Inv X pins σ' H' s'/\W n σ' H') ?_ m0 ⟨σ,H,I,w0⟩);rintro n s1 ⟨σ1,H1,I1,w1⟩;refine YBN hp (thn (hc pins s1 σ1 H1 _ I1 (turn n σ1 H1 w1)) λb s2 ⟨H2,I2,q2⟩=>?_);cases b with
 | true=>
  obtain ⟨N,hN,q2⟩:=q2;rw [if_pos rfl];refine YBN hp (thn (hb pins s2 σ1 H2 _ I2 q2) λf s3 q3=>?_);cases f with
  | next=>
   obtain ⟨σ3,H3,I3,n3⟩:=q3;obtain ⟨m',hm,w3⟩:=hN σ3 H3 n3;exact ⟨m',hm,σ3,H3,I3,w3⟩
  | cont=>
   obtain ⟨σ3,H3,I3,n3⟩:=q3;obtain ⟨m',hm,w3⟩:=hN σ3 H3 n3;exact ⟨m',hm,σ3,H3,I3,w3⟩
  | brk=>exact q3
  | ret v=>exact q3
 | false=>
  rw [if_neg YAx];exact wpAny_execs_nil ⟨σ1,H2,I2,q2⟩
end
structure It where
 go:Nat->Hp->Prop
 yld:Nat->Hp->V->Hp->Prop
 stop:Nat->Hp->Prop
def FpOk (X:Cx) (pins:List (Addr × Obj)) (H:Hp) (b:Addr):Prop:=
 H b = none/\b ≠ X.env.locals/\b ∉ X.fs/\(b ∈ X.ex\/X.s₀.heap.objs.size <= b)/\(∀ x c,X.env.cells.lookup x = some c->c ≠ b)/\∀ p ∈ X.pn ++ pins,p.1 ≠ b
theorem Inv.fpOk {X:Cx} {pins:List (Addr × Obj)} {σ:St} {H H':Hp} {s:Shared} {b:Addr} (I:Inv X pins σ H s) (hb:s.heap.objs.size <= b) (hn:H' b = none):FpOk X pins H' b:=by
 refine ⟨hn,YBe (YAv I.lt hb),I.nofs hb,.inr (YAK I.sz hb),λx c e z=>?_,λp hp z=>?_⟩
 ·obtain ⟨v,q⟩:=I.cell x c e;exact absurd (YAv q.lt (by rw [z];exact hb)) (YA8 _)
 ·exact absurd (YAv (YAn (I.pin p hp).1) (by rw [z];exact hb)) (YA8 _)
structure Turn (P:Program) (w:World) (K:PySem.W.Frag) (tg:Expr) (J:It) (fp:List Addr) (it:Addr) (tn:Nat->Heap->Prop):Prop where
 mem:it ∈ fp
 obj:∀ i h,tn i h->∀ b ∈ fp,∃ o,h.get? b = some o/\∀ v,o.data ≠ .cell v
 keep:∀ i h h',tn i h->(∀ b ∈ fp,∀ o,h.get? b = some o->h'.get? b = some o)->tn i h'
 item:∀ (X:Cx),X.prog = P->X.w = w->X.K = K->X.calm = true->∀ (i:Nat) (pins:List (Addr × Obj)) (s:Shared) (σ:St) (H:Hp) (E:Value->Shared->Prop),Inv X pins σ H s->(∀ b ∈ fp,FpOk X pins H b)->tn i s.heap->J.go i H ->
  wpAny (model P w) X.A (pyNext (.ref it)) (λr s1=>∃ u,r = some u /\
   wpAny (model P w) X.A (letOwnedTupleGo tg (.ref it) u) (λ_ s2=>∃ x H',Inv X pins σ H' s2/\RelV x u/\J.yld i H x H'/\tn (i + 1) s2.heap/\∀ b ∈ fp,H' b = none) E s1) E s
 done:∀ (X:Cx),X.prog = P->X.w = w->X.K = K->X.calm = true->∀ (i:Nat) (pins:List (Addr × Obj)) (s:Shared) (σ:St) (H:Hp) (E:Value->Shared->Prop),Inv X pins σ H s->(∀ b ∈ fp,FpOk X pins H b)->tn i s.heap->J.stop i H ->
  wpAny (model P w) X.A (pyNext (.ref it)) (λr s1=>r = none/\Inv X pins σ H s1) E s
 self:∀ (A:Around) (i:Nat) (s:Shared) (Q:Value->Shared->Prop) (E:Value->Shared->Prop),tn i s.heap->Q (.ref it) s->wpAny (model P w) A (pyIter (.ref it)) Q E s
abbrev TI:=St->Hp->(It->Hp->Prop)->Prop
def PIE (X:Cx) (pins:List (Addr × Obj)) (σ:St) (tg:Expr) (R:It->Hp->Prop) (itv:Value) (s2:Shared):Prop:=
 ∃ (it:Addr) (fp:List Addr) (tn:Nat->Heap->Prop) (J:It) (H':Hp),itv = .ref it/\Inv X pins σ H' s2/\Turn X.prog X.w X.K tg J fp it tn/\tn 0 s2.heap/\(∀ b ∈ fp,FpOk X pins H' b)/\R J H'
def PI (X:Cx) (tg iter:Expr) (wi:TI):Prop:=
 ∀ (pins:List (Addr × Obj)) (s:Shared) (σ:St) (H:Hp) (R:It->Hp->Prop),Inv X pins σ H s->wi σ H R ->
  wpAny (model X.prog X.w) X.A (eval iter X.env) (λv s1=>wpAny (model X.prog X.w) X.A (pyIter v) (PIE X pins σ tg R) X.xe s1) X.xe s
theorem zpU      (ho:s.heap.get? it = some o) (hc:o.cls = .type n) (hd:o.data = .fields vs)
    (hn:["enumerate","zip","dict_itemiterator","dict_reverseitemiterator","odict_iterator","itertools.zip_longest","itertools.pairwise"].contains n = false) (hQ:Q () s):wpAny M A (letOwnedTupleGo tg (.ref it) u) Q E s:=by
  unfold letOwnedTupleGo;cases tg <;> first
    | exact YAf hQ
    | (cases u <;> first
        | exact YAf hQ
        | (refine YAa (wpAny_load ho ?_)
           rw [hc,hd];show wpAny M A (if (["enumerate","zip","dict_itemiterator","dict_reverseitemiterator","odict_iterator","itertools.zip_longest","itertools.pairwise"].contains n && vs[0]? == some (rawInt _)) = true then _ else _) Q E s;rw [if_neg (by intro h;rw [hn,Bool.false_and] at h;cases h)];exact YAf hQ))
def Itl (K:PySem.W.Frag) (a:Addr):It:=
 ⟨λi H=>∃ xs x,SqL K H a xs/\xs[i]? = some x,λi H x H'=>H' = H/\∀ xs,SqL K H a xs->xs[i]? = some x,λi H=>∃ xs,SqL K H a xs/\xs.length <= i⟩
def Itt (K:PySem.W.Frag) (a:Addr):It:=
 ⟨λi H=>∃ xs x,SqT K H a xs/\xs[i]? = some x,λi H x H'=>H' = H/\∀ xs,SqT K H a xs->xs[i]? = some x,λi H=>∃ xs,SqT K H a xs/\xs.length <= i⟩
def Itr (lo:Int) (n:Nat):It:=⟨λi _=>i < n,λi H x H'=>H' = H/\x = .int (lo + i),λi _=>n <= i⟩
theorem zhD {P:Program} {w:World} {K:PySem.W.Frag} {tg:Expr} (a it:Addr):Turn P w K tg (Itl K a) [it] it (λi h=>h.IsListIter it a i) where
 mem:=by simp
 obj:=λi h st b hb=>by
  have e:b = it:=by simpa using hb
  subst e;obtain ⟨o,e,c,d⟩:=st;exact ⟨o,e,λv z=>by rw [d] at z;cases z⟩
 keep:=λi h h' st k=>st.at λo e=>k it (by simp) o e
 item:=by
  intro X hP hw hK hc i pins s σ H E I hf st hg;subst hP hw hK;obtain ⟨xs,x,hq,hx⟩:=hg;obtain ⟨its,rv,p,hz⟩:=I.list hq;obtain ⟨u,hu,ru⟩:=rv.get hx;obtain ⟨f0,f1,f2,f3,f4,f5⟩:=hf it (by simp);refine wpAny_pyNext_list_item st p.isList (x:=u) (by simpa using hu) λh' st' sb=>?_;have I1:Inv X pins σ H { s with heap:=h' }:=I.turned (t':=s.toks) (λb o hb e=>(sb.2 b hb).trans e) f0 f1 f3 f4 f5;obtain ⟨o,e,c,d⟩:=id st';exact ⟨u,rfl,zpU (s:={ s with heap:=h' }) e c d (by decide) ⟨x,H,I1,ru,⟨rfl,λys hy=>by rw [I.list_inj hy hq];exact hx⟩,st',λb hb=>(hf b hb).1⟩⟩
 done:=by
  intro X hP hw hK hc i pins s σ H E I hf st hg;subst hP hw hK;obtain ⟨xs,hq,hx⟩:=hg;obtain ⟨its,rv,p,hz⟩:=I.list hq;obtain ⟨f0,f1,f2,f3,f4,f5⟩:=hf it (by simp);have hl:=rv.length;exact wpAny_pyNext_list_end (I.ok.hd hc) st p.isList (by simp;omega) λh' eb=>⟨rfl,I.turned (t':=s.toks) (λb o hb e=>eb b o hb e) f0 f1 f3 f4 f5⟩
 self:=λ_ _ _ _ _ st h=>wpAny_pyIter_listiter st h
theorem zkv {P:Program} {w:World} {K:PySem.W.Frag} {tg:Expr} (a it:Addr):Turn P w K tg (Itt K a) [it] it (λi h=>h.IsTupleIter it a i) where
 mem:=by simp
 obj:=λi h st b hb=>by
  have e:b = it:=by simpa using hb
  subst e;obtain ⟨o,e,c,d⟩:=st;exact ⟨o,e,λv z=>by rw [d] at z;cases z⟩
 keep:=λi h h' st k=>st.at λo e=>k it (by simp) o e
 item:=by
  intro X hP hw hK hc i pins s σ H E I hf st hg;subst hP hw hK;obtain ⟨xs,x,hq,hx⟩:=hg;obtain ⟨its,rv,p,hz⟩:=I.tuple hq;obtain ⟨u,hu,ru⟩:=rv.get hx;obtain ⟨f0,f1,f2,f3,f4,f5⟩:=hf it (by simp);refine wpAny_pyNext_tuple_item st (show s.heap.IsTuple a its.toArray from p) (x:=u) (by simpa using hu) λh' st' sb=>?_;have I1:Inv X pins σ H { s with heap:=h' }:=I.turned (t':=s.toks) (λb o hb e=>(sb.2 b hb).trans e) f0 f1 f3 f4 f5;obtain ⟨o,e,c,d⟩:=id st';exact ⟨u,rfl,zpU (s:={ s with heap:=h' }) e c d (by decide) ⟨x,H,I1,ru,⟨rfl,λys hy=>by rw [I.tuple_inj hy hq];exact hx⟩,st',λb hb=>(hf b hb).1⟩⟩
 done:=by
  intro X hP hw hK hc i pins s σ H E I hf st hg;subst hP hw hK;obtain ⟨xs,hq,hx⟩:=hg;obtain ⟨its,rv,p,hz⟩:=I.tuple hq;obtain ⟨f0,f1,f2,f3,f4,f5⟩:=hf it (by simp);have hl:=rv.length;exact wpAny_pyNext_tuple_end (I.ok.hd hc) st (show s.heap.IsTuple a its.toArray from p) (by simp;omega) λh' eb=>⟨rfl,I.turned (t':=s.toks) (λb o hb e=>eb b o hb e) f0 f1 f3 f4 f5⟩
 self:=λ_ _ _ _ _ st h=>wpAny_pyIter_tupleiter st h
theorem zkG {P:Program} {w:World} {K:PySem.W.Frag} {tg:Expr} (it:Addr) (lo:Int) (n:Nat):Turn P w K tg (Itr lo n) [it] it (λi h=>IsRangeIter h it (lo + (i:Nat) * 1) ((n:Int) - (i:Nat)) 1) where
 mem:=by simp
 obj:=λi h st b hb=>by
  have e:b = it:=by simpa using hb
  subst e;exact ⟨_,st,λv z=>by
   have z':Data.fields _ = Data.cell v:=z;cases z'⟩
 keep:=λi h h' st k=>k it (by simp) _ st
 item:=by
  intro X hP hw hK hc i pins s σ H E I hf st hg;subst hP hw hK;obtain ⟨f0,f1,f2,f3,f4,f5⟩:=hf it (by simp);have W:=Walks.range (prog:=X.prog) (w:=X.w) (I.ok.hd hc) it lo 1 n;refine W.item i s _ _ hg st λv h' tk hv st' kk=>?_;obtain ⟨t,rfl⟩:=hv;have I1:Inv X pins σ H { s with heap:=h',toks:=tk }:=I.turned (λb o hb e=>kk b o (by simpa using hb) e) f0 f1 f3 f4 f5;refine ⟨_,rfl,zpU (s:={ s with heap:=h',toks:=tk }) (n := "range_iterator") st' rfl rfl (by decide) ⟨.int (lo + i),H,I1,⟨t,?_⟩,⟨rfl,rfl⟩,st',λb hb=>(hf b hb).1⟩⟩;rw [Int.mul_one]
 done:=by
  intro X hP hw hK hc i pins s σ H E I hf st hg;subst hP hw hK;obtain ⟨f0,f1,f2,f3,f4,f5⟩:=hf it (by simp);exact wpAny_pyNext_range_end (I.ok.hd hc) st (by have:n <= i:=hg;omega) λh' eb=>⟨rfl,I.turned (t':=s.toks) (λb o hb e=>eb b o hb e) f0 f1 f3 f4 f5⟩
 self:=λ_ _ _ _ _ st h=>wpAny_pyIter_rangeiter st h
section
variable {X:Cx} {tg:Expr}
def zrH (K:PySem.W.Frag) (tl:TE):TI:=λσ H R=>tl σ H λx H1=>∃ a,x = .ref a/\(∃ xs,SqL K H1 a xs)/\R (Itl K a) H1
theorem ze2 {l:Expr} {tl:TE} (hl:PE X l tl):PI X tg l (zrH X.K tl):=by
 intro pins s σ H R I h;refine thn (hl pins s σ H _ I h) λv s1 ⟨x,H1,I1,r1,q1⟩=>?_;obtain ⟨a,e,⟨xs,hq⟩,q⟩:=q1;subst e;cases r1;obtain ⟨its,rv,p,hz⟩:=I1.list hq;refine YBO p.isList ?_;refine ⟨s1.heap.objs.size,[s1.heap.objs.size],_,_,H1,rfl,I1.kept (t':=s1.toks) λb o e=>YAc _ e,zhD a _,⟨_,YAp _ rfl,rfl,rfl⟩,λb hb=>?_,q⟩;have e:b = s1.heap.objs.size:=by simpa using hb
 subst e;exact I1.fpOk (YAm _) (I1.hok.fresh (YAm _))
theorem znz {pins:List (Addr × Obj)} {σ:St} {H:Hp} {s:Shared} {R:It->Hp->Prop} {E:Value->Shared->Prop} {lo hi:Int} {t u v:Tok} {tk:Nat} (I:Inv X pins σ H s) (h1:-(2 ^ 62) <= lo) (h2:lo < 2 ^ 62) (h3:-(2 ^ 62) <= hi) (h4:hi < 2 ^ 62)
  (q:R (Itr lo (hi - lo).toNat) H):wpAny (model X.prog X.w) X.A (pyIter (.ref s.heap.objs.size)) (PIE X pins σ tg R) E { s with heap:=s.heap.push { cls:=.type "range",data:=.fields #[.int lo t,.int hi u,.int 1 v] },toks:=tk }:=by
 refine wpAny_pyIter_range (IsRange.new ..) (small_one h1 h2 h3 h4) ?_;have I1:Inv X pins σ H { s with heap:=s.heap.push { cls:=.type "range",data:=.fields #[.int lo t,.int hi u,.int 1 v] },toks:=tk }:=I.kept λb o e=>YAc _ e;refine ⟨(s.heap.push { cls:=.type "range",data:=.fields #[.int lo t,.int hi u,.int 1 v] }).objs.size,[(s.heap.push { cls:=.type "range",data:=.fields #[.int lo t,.int hi u,.int 1 v] }).objs.size],_,_,H,rfl,
  I1.kept (t':=tk) λb o e=>YAc _ e,zkG _ lo (hi - lo).toNat,?_,λb hb=>?_,q⟩
 ·have e1:lo + ((0:Nat):Int) * 1 = lo:=by simp
  have e2:(((hi - lo).toNat:Nat):Int) - ((0:Nat):Int) = Builtin.Range.rangeSize lo hi 1:=by rw [rangeSize_one];split <;> omega
  show IsRangeIter _ _ (lo + ((0:Nat):Int) * 1) ((((hi - lo).toNat:Nat):Int) - ((0:Nat):Int)) 1;rw [e1,e2];exact YAp _ rfl
 ·have e:b = (s.heap.push { cls:=.type "range",data:=.fields #[.int lo t,.int hi u,.int 1 v] }).objs.size:=by simpa using hb
  subst e;exact I1.fpOk (YAm _) (I1.hok.fresh (YAm _))
def zrD (ta:TA):TI:=λσ H R=>ta σ H λvs H1=>∃ j:Int,vs = [.int j]/\-(2 ^ 62) <= j/\j < 2 ^ 62/\R (Itr 0 j.toNat) H1
theorem zfo {a:Expr} {ta:TA} {p pos:Pos} (hg:Gl X "range") (hm:X.mg "range" = none) (ha:PA X [a] ta) (hs:starEach [a] X.env = [(false,eval a X.env)]:=by rfl):PI X tg (.Call (.Name "range" p) [a] [] pos) (zrD ta):=by
 intro pins s σ H R I h;refine Call_ (zfm I hg hm boot_range (PyProof.Rows.callWith_type1 (thn (ha pos pins s σ H _ I h) λus s1 ⟨vs,H1,I1,r1,q1⟩=>?_) hs rfl));obtain ⟨j,e,q1,q2,q⟩:=q1;subst e;cases r1 with
 | cons r rr=>
  cases rr;obtain ⟨t,rfl⟩:=r;exact call_range_1 (znz I1 (by omega) (by omega) q1 q2 (by simpa using q))
def tFor (wi:TI) (g:TG) (tb:TS):TS:=λD σ H=>wi σ H λJ H1=>∃ W:Nat->Nat->St->Hp->Prop,(∃ m,W 0 m σ H1)/\∀ i m σ H,W i m σ H ->
 (J.stop i H/\D.nx σ H)\/(J.go i H/\∃ N:St->Hp->Prop,(∀ σ' H',N σ' H'->∃ m',m' < m/\W (i + 1) m' σ' H')/\∀ x H',J.yld i H x H'->g x σ H' λσ2 H2=>tb { D with nx:=N,ct:=N,bk:=D.nx } σ2 H2)
def zeM (fp:List Addr) (h:Heap):List (Addr × Obj):=fp.filterMap λb=>(h.get? b).map λo=>(b,o)
theorem za7 {fp:List Addr} {h:Heap} {b:Addr} {o:Obj} (hb:b ∈ fp) (e:h.get? b = some o):(b,o) ∈ zeM fp h:=List.mem_filterMap.mpr ⟨b,hb,by rw [e];rfl⟩
theorem zmk  (hp:p ∈ zeM fp h):p.1 ∈ fp/\h.get? p.1 = some p.2:=by
 obtain ⟨b,hb,e⟩:=List.mem_filterMap.mp hp;cases q:h.get? b with
 | none=>rw [q] at e;cases e
 | some o=>
  rw [q] at e;have e':(b,o) = p:=Option.some.inj e;subst e';exact ⟨hb,q⟩
theorem Inv.pinned {pins:List (Addr × Obj)} {σ:St} {H:Hp} {s:Shared} {fp:List Addr} (I:Inv X pins σ H s) (hf:∀ b ∈ fp,FpOk X pins H b) (ho:∀ b ∈ fp,∃ o,s.heap.get? b = some o/\∀ v,o.data ≠ .cell v):Inv X (pins ++ zeM fp s.heap) σ H s:=
 I.pins_of λp hp=>(YAr.mp hp).elim (λz=>I.pin p (YAo _ z)) λz=>by
  obtain ⟨hb,e⟩:=zmk z;obtain ⟨f0,f1,f2,_⟩:=hf p.1 hb;obtain ⟨o,e',d⟩:=ho p.1 hb;rw [e] at e';cases e';exact ⟨e,f0,f1,f2,d⟩
theorem Inv.unpinned {pins pl:List (Addr × Obj)} {σ:St} {H:Hp} {s:Shared} (I:Inv X (pins ++ pl) σ H s):Inv X pins σ H s:=I.pins_of λp hp=>I.pin p (YAo _ (YAB _ hp))
theorem zd2 {iter:Expr} {body:List Stmt} {wi:TI} {g:TG} {tb:TS} {pos:Pos} (hp:PassesOwn (model X.prog X.w) X.A X.env X.xe) (hc:X.calm = true) (hi:PI X tg iter wi) (hg:PG X tg g) (hb:PSs X body tb)
  (hs:∀ x,foldedSetIterable iter X.env x = pure x:=by intro _;rfl):PS X (.For tg iter body [] pos) (tFor wi g tb):=by
 intro pins s σ H D I h;refine wpAny_For (thn (hi pins s σ H _ I h) λv s1 h1=>thn h1 λitv s2 h2=>?_) hs;obtain ⟨it,fp,tn,J,H2,e,I2,T,st2,f2,W,⟨m0,w0⟩,turn⟩:=h2;subst e
 -- what stays true of the iterator's objects through the loop
 have stat:∀ {H':Hp},(∀ b ∈ fp,H' b = none)->∀ b ∈ fp,FpOk X pins H' b:=λhn b hb=>⟨hn b hb,(f2 b hb).2⟩;refine codeAny_forLoop_any (λn s'=>∃ i σ' H',Inv X pins σ' H' s'/\tn i s'.heap/\(∀ b ∈ fp,H' b = none)/\W i n σ' H') ?_ m0 ⟨0,σ,H2,I2,st2,λb hb=>(f2 b hb).1,w0⟩;rintro n s3 ⟨i,σ3,H3,I3,st3,fr3,w3⟩;rcases turn i n σ3 H3 w3 with ⟨stop,qn⟩ | ⟨go,N,hN,step⟩
 ·refine YBN hp (thn (T.done X rfl rfl rfl hc i pins s3 σ3 H3 X.xe I3 (stat fr3) st3 stop) λr s4 ⟨hr,I4⟩=>?_);subst hr;exact wpAny_execs_nil ⟨σ3,H3,I4,qn⟩
 ·refine YBN hp (thn (T.item X rfl rfl rfl hc i pins s3 σ3 H3 X.xe I3 (stat fr3) st3 go) λr s4 ⟨u,hr,h4⟩=>?_);subst hr;refine YBN hp (thn h4 λ_ s5 ⟨x,H5,I5,r5,y5,st5,fr5⟩=>?_);have I5':=I5.pinned (stat fr5) (T.obj _ _ st5);refine YBN hp (thn (hg _ s5 σ3 H5 x u _ I5' r5 (step x H5 y5)) λ_ s6 ⟨σ6,H6,I6,q6⟩=>?_);refine YBN hp (thn (hb _ s6 σ6 H6 _ I6 q6) λf s7 q7=>?_);have again:∀ {σ7:St} {H7:Hp},Inv X (pins ++ zeM fp s5.heap) σ7 H7 s7->N σ7 H7->∃ m,m < n/\∃ i σ' H',Inv X pins σ' H' s7/\tn i s7.heap/\(∀ b ∈ fp,H' b = none)/\W i m σ' H':=λ{σ7 H7} I7 n7=>by
   obtain ⟨m',hm,w7⟩:=hN σ7 H7 n7;refine ⟨m',hm,i + 1,σ7,H7,I7.unpinned,T.keep _ _ _ st5 λb hb o e=>(I7.pin (b,o) (YAo _ (YAo _ (za7 hb e)))).1,λb hb=>?_,w7⟩;obtain ⟨o,e,d⟩:=T.obj _ _ st5 b hb;exact (I7.pin (b,o) (YAo _ (YAo _ (za7 hb e)))).2.1
  cases f with
  | next=>obtain ⟨σ7,H7,I7,n7⟩:=q7;exact again I7 n7
  | cont=>obtain ⟨σ7,H7,I7,n7⟩:=q7;exact again I7 n7
  | brk=>obtain ⟨σ7,H7,I7,q7⟩:=q7;exact ⟨σ7,H7,I7.unpinned,q7⟩
  | ret v=>obtain ⟨x7,σ7,H7,I7,r7,q7⟩:=q7;exact ⟨x7,σ7,H7,I7.unpinned,r7,q7⟩
end
theorem zeZ {K:PySem.W.Frag} {a:Addr} {xs:List V} {g:TG} {tb:TS} {D:Ends} {σ:St} {H:Hp} (Pv:Nat->St->Hp->Prop) (h0:Pv 0 σ H) (hl:∀ i σ H,i <= xs.length->Pv i σ H->SqL K H a xs)
  (hs:∀ i x σ H,xs[i]? = some x->Pv i σ H->g x σ H λσ2 H2=>tb { D with nx:=Pv (i + 1),ct:=Pv (i + 1),bk:=D.nx } σ2 H2) (hd:∀ σ H,Pv xs.length σ H->D.nx σ H) :
  ∃ W:Nat->Nat->St->Hp->Prop,(∃ m,W 0 m σ H)/\∀ i m σ H,W i m σ H ->
   ((Itl K a).stop i H/\D.nx σ H)\/((Itl K a).go i H/\∃ N:St->Hp->Prop,(∀ σ' H',N σ' H'->∃ m',m' < m/\W (i + 1) m' σ' H')/\∀ x H',(Itl K a).yld i H x H'->g x σ H' λσ2 H2=>tb { D with nx:=N,ct:=N,bk:=D.nx } σ2 H2):=by
 refine ⟨λi m σ H=>m = xs.length - i/\i <= xs.length/\Pv i σ H,⟨xs.length,by simp,YAF _,h0⟩,?_⟩;rintro i m σ H ⟨rfl,hi,p⟩;have q:=hl i σ H hi p;by_cases hlt:i < xs.length
 ·refine .inr ⟨⟨xs,xs[i],q,by simp [hlt]⟩,Pv (i + 1),λσ' H' p'=>⟨xs.length - (i + 1),by omega,rfl,hlt,p'⟩,λx H' y=>?_⟩;obtain ⟨e,y⟩:=y;subst e;exact hs i x σ _ (y xs q) p
 ·have e:i = xs.length:=by omega
  subst e;exact .inl ⟨⟨xs,q,YAm _⟩,hd σ H p⟩
theorem zm1 {lo:Int} {n:Nat} {g:TG} {tb:TS} {D:Ends} {σ:St} {H:Hp} (Pv:Nat->St->Hp->Prop) (h0:Pv 0 σ H)
  (hs:∀ i σ H,i < n->Pv i σ H->g (.int (lo + i)) σ H λσ2 H2=>tb { D with nx:=Pv (i + 1),ct:=Pv (i + 1),bk:=D.nx } σ2 H2) (hd:∀ σ H,Pv n σ H->D.nx σ H) :
  ∃ W:Nat->Nat->St->Hp->Prop,(∃ m,W 0 m σ H)/\∀ i m σ H,W i m σ H ->
   ((Itr lo n).stop i H/\D.nx σ H)\/((Itr lo n).go i H/\∃ N:St->Hp->Prop,(∀ σ' H',N σ' H'->∃ m',m' < m/\W (i + 1) m' σ' H')/\∀ x H',(Itr lo n).yld i H x H'->g x σ H' λσ2 H2=>tb { D with nx:=N,ct:=N,bk:=D.nx } σ2 H2):=by
 refine ⟨λi m σ H=>m = n - i/\i <= n/\Pv i σ H,⟨n,by simp,YAF _,h0⟩,?_⟩;rintro i m σ H ⟨rfl,hi,p⟩;by_cases hlt:i < n
 ·refine .inr ⟨hlt,Pv (i + 1),λσ' H' p'=>⟨n - (i + 1),by omega,rfl,hlt,p'⟩,λx H' y=>?_⟩;obtain ⟨e,y⟩:=y;subst e y;exact hs i σ _ hlt p
 ·have e:i = n:=by omega
  subst e;exact .inl ⟨YAm _,hd σ H p⟩
abbrev R2:=V->V->Hp->VK->Prop
def OpR (X:Cx) (f:Value->Value->Sem Value) (r:R2):Prop:=
 ∀ (pins:List (Addr × Obj)) (s:Shared) (σ:St) (H:Hp) (x y:V) (v u:Value) (Q:VK),Inv X pins σ H s->RelV x v->RelV y u->r x y H Q ->
  wpAny (model X.prog X.w) X.A (f v u) (EP X pins σ Q) X.xe s
def UnR (X:Cx) (f:Value->Sem Value) (r:V->Hp->VK->Prop):Prop:=
 ∀ (pins:List (Addr × Obj)) (s:Shared) (σ:St) (H:Hp) (x:V) (v:Value) (Q:VK),Inv X pins σ H s->RelV x v->r x H Q ->
  wpAny (model X.prog X.w) X.A (f v) (EP X pins σ Q) X.xe s
def CallR (X:Cx) (f:Value) (r:List V->Hp->VK->Prop):Prop:=
 ∀ (pins:List (Addr × Obj)) (s:Shared) (σ:St) (H:Hp) (xs:List V) (us:List Value) (Q:VK),Inv X pins σ H s->Vals xs us->r xs H Q ->
  wpAny (model X.prog X.w) X.A (call f us) (EP X pins σ Q) X.xe s
def TruR (X:Cx) (r:V->Hp->(Bool->Hp->Prop)->Prop):Prop:=
 ∀ (pins:List (Addr × Obj)) (s:Shared) (σ:St) (H:Hp) (x:V) (v:Value) (Q:Bool->Hp->Prop),Inv X pins σ H s->RelV x v->r x H Q ->
  wpAny (model X.prog X.w) X.A (truthy v) (TP X pins σ Q) X.xe s
def tOp (r:R2) (ta tb:TE):TE:=λσ H Q=>ta σ H λx H1=>tb σ H1 λy H2=>r x y H2 Q
def tUn (r:V->Hp->VK->Prop) (ta:TE):TE:=λσ H Q=>ta σ H λx H1=>r x H1 Q
def rI (C:Int->Int->Prop) (g:Int->Int->V):R2:=λx y H Q=>∃ i j,x = .int i/\y = .int j/\C i j/\Q (g i j) H
def rI0 (g:Int->Int->V):R2:=λx y H Q=>∃ i j,x = .int i/\y = .int j/\Q (g i j) H
def rU (g:Int->V):V->Hp->VK->Prop:=λx H Q=>∃ i,x = .int i/\Q (g i) H
section
variable {X:Cx} {a b c:Expr} {ta tb tc:TE} {pos:Pos}
theorem binT (ha:PE X a ta) (hb:PE X b tb) {pins:List (Addr × Obj)} {s:Shared} {σ:St} {H:Hp} {R:V->V->Hp->Prop} (I:Inv X pins σ H s)
  (h:ta σ H λx H1=>tb σ H1 λy H2=>R x y H2) {Q:Value->Shared->Prop} {f:Value->Value->Sem Value}
  (hf:∀ v u s2 x y H2,Inv X pins σ H2 s2->RelV x v->RelV y u->R x y H2->wpAny (model X.prog X.w) X.A (f v u) Q X.xe s2) :
  wpAny (model X.prog X.w) X.A (eval a X.env) (λv s₁=>wpAny (model X.prog X.w) X.A (eval b X.env) (λu s₂=>wpAny (model X.prog X.w) X.A (f v u) Q X.xe s₂) X.xe s₁) X.xe s:=by
 refine thn (ha pins s σ H _ I h) λv s1 ⟨x,H1,I1,r1,q1⟩=>?_;refine thn (hb pins s1 σ H1 _ I1 q1) λu s2 ⟨y,H2,I2,r2,q2⟩=>?_;exact hf v u s2 x y H2 I2 r1 r2 q2
theorem zbR {op:Operator} {r:R2} (ho:OpR X (binaryOp op) r) (ha:PE X a ta) (hb:PE X b tb):PE X (.BinOp a op b pos) (tOp r ta tb):=by
 intro pins s σ H Q I h;exact wpAny_BinOp (binT ha hb I h λv u s2 x y H2 I2 rx ry q=>ho pins s2 σ H2 x y v u Q I2 rx ry q)
theorem zpu {op:UnaryOp} {r:V->Hp->VK->Prop} (ho:UnR X (unaryOp op) r) (ha:PE X a ta):PE X (.UnaryOp op a pos) (tUn r ta):=by
 intro pins s σ H Q I h;exact UnaryOp_ (thn (ha pins s σ H _ I h) λv s1 ⟨x,H1,I1,r1,q1⟩=>ho pins s1 σ H1 x v Q I1 r1 q1)
theorem opI {f:Value->Value->Sem Value} {C:Int->Int->Prop} {g:Int->Int->Int}
  (rule:∀ (i j:Int) (t u:Tok) (s:Shared) (Q:Value->Shared->Prop) (E:Value->Shared->Prop),C i j->Q (.int (g i j) s.toks) { s with toks:=s.toks + 1 }->wpAny (model X.prog X.w) X.A (f (.int i t) (.int j u)) Q E s) :
  OpR X f (rI C λi j=>.int (g i j)):=by
 intro pins s σ H x y v u Q I rx ry h;obtain ⟨i,j,rfl,rfl,hc,q⟩:=h;obtain ⟨t,rfl⟩:=rx;obtain ⟨t',rfl⟩:=ry;exact rule i j t t' s _ _ hc ⟨.int (g i j),H,I.tok _,⟨_,rfl⟩,q⟩
theorem opI0 {f:Value->Value->Sem Value} {g:Int->Int->Int}
  (rule:∀ (i j:Int) (t u:Tok) (s:Shared) (Q:Value->Shared->Prop) (E:Value->Shared->Prop),Q (.int (g i j) s.toks) { s with toks:=s.toks + 1 }->wpAny (model X.prog X.w) X.A (f (.int i t) (.int j u)) Q E s) :
  OpR X f (rI0 λi j=>.int (g i j)):=by
 intro pins s σ H x y v u Q I rx ry h;obtain ⟨i,j,rfl,rfl,q⟩:=h;obtain ⟨t,rfl⟩:=rx;obtain ⟨t',rfl⟩:=ry;exact rule i j t t' s _ _ ⟨.int (g i j),H,I.tok _,⟨_,rfl⟩,q⟩
theorem opB0 {f:Value->Value->Sem Value} {g:Int->Int->Bool}
  (rule:∀ (i j:Int) (t u:Tok) (s:Shared) (Q:Value->Shared->Prop) (E:Value->Shared->Prop),Q (.bool (g i j)) s->wpAny (model X.prog X.w) X.A (f (.int i t) (.int j u)) Q E s) :
  OpR X f (rI0 λi j=>.bl (g i j)):=by
 intro pins s σ H x y v u Q I rx ry h;obtain ⟨i,j,rfl,rfl,q⟩:=h;obtain ⟨t,rfl⟩:=rx;obtain ⟨t',rfl⟩:=ry;exact rule i j t t' s _ _ ⟨.bl (g i j),H,I,rfl,q⟩
def CDiv (i j:Int):Prop:=0 < j/\j < 1073741824
def CPow (i j:Int):Prop:=0 <= j/\j <= 1000000/\i.natAbs < 2 ^ 64
def CMul (i j:Int):Prop:=(-(2 ^ 64) < i/\i < 2 ^ 64)\/(-(2 ^ 64) < j/\j < 2 ^ 64)
theorem CMul.ok {i j:Int} (h:CMul i j):IntMulOk i j:=by
 rcases h with ⟨h1,h2⟩ | ⟨h1,h2⟩
 ·exact .of_left (intBits_le_64 h1 h2)
 ·exact .of_right (intBits_le_64 h1 h2)
theorem op_add:OpR X (binaryOp .Add) (rI0 λi j=>.int (i + j)):=opI0 λ_ _ _ _ _ _ _ q=>add_int q
theorem zmM:OpR X (binaryOp .Sub) (rI0 λi j=>.int (i - j)):=opI0 λ_ _ _ _ _ _ _ q=>sub_int q
theorem op_mul:OpR X (binaryOp .Mult) (rI CMul λi j=>.int (i * j)):=opI λ_ _ _ _ _ _ _ hc q=>mul_int q hc.ok
theorem zpk:OpR X (binaryOp .FloorDiv) (rI CDiv λi j=>.int (i / j)):=opI λi j _ _ _ _ _ hc q=>by
 have h1:(0:Int) < j:=hc.1;have h2:j < 1073741824:=hc.2;exact floordiv_int (by omega) (by rw [Int.fdiv_eq_ediv_of_nonneg i (by omega)];exact q) (.inl (PyProof.noPylong_small (by omega)))
theorem zgx:OpR X (binaryOp .Mod) (rI (λ_ j=>0 < j) λi j=>.int (i % j)):=opI λi j _ _ _ _ _ hc q=>by
 have h1:(0:Int) < j:=hc;exact mod_int' (by omega) (by rw [Int.fmod_eq_emod_of_nonneg i (by omega)];exact q)
theorem zlT:OpR X (binaryOp .Pow) (rI CPow λi j=>.int (i ^ j.toNat)):=opI λ_ _ _ _ _ _ _ hc q=>pow_int_small hc.1 hc.2.1 hc.2.2 q
theorem unI {f:Value->Sem Value} {g:Int->Int}
  (rule:∀ (i:Int) (t:Tok) (s:Shared) (Q:Value->Shared->Prop) (E:Value->Shared->Prop),Q (.int (g i) s.toks) { s with toks:=s.toks + 1 }->wpAny (model X.prog X.w) X.A (f (.int i t)) Q E s) :
  UnR X f (rU λi=>.int (g i)):=by
 intro pins s σ H x v Q I rx h;obtain ⟨i,rfl,q⟩:=h;obtain ⟨t,rfl⟩:=rx;exact rule i t s _ _ ⟨.int (g i),H,I.tok _,⟨_,rfl⟩,q⟩
theorem zlI:UnR X (unaryOp .USub) (rU λi=>.int (-i)):=unI λ_ _ _ _ _ q=>neg_int q
end
def scal:V->V->Bool
 | .non,.non=>true | .non,.int _=>true | .int _,.non=>true | .non,.bl _=>true | .bl _,.non=>true | .non,.str _=>true | .str _,.non=>true
 | .int _,.int _=>true | .bl _,.bl _=>true | .str _,.str _=>true | .byt _,.byt _=>true
 | .int _,.str _=>true | .str _,.int _=>true | .bl _,.str _=>true | .str _,.bl _=>true
 | _,_=>false
def rEq:R2:=λx y H Q=>scal x y = true/\Q (.bl (decide (x = y))) H
def rNe:R2:=λx y H Q=>scal x y = true/\Q (.bl (!decide (x = y))) H
theorem zmO:decide (V.int i = V.int j) = (i == j):=by
 rw [YBP]
 simp
theorem dec_bl:decide (V.bl i = V.bl j) = (i == j):=by
 rw [YBP]
 simp
theorem zk5:decide (V.str i = V.str j) = (i == j):=by
 rw [YBP]
 simp
theorem zlb:decide (V.byt i = V.byt j) = (i.toList == j.toList):=by
 rw [YBP];cases i;cases j
 simp
section
variable {X:Cx} {a b c:Expr} {ta tb tc:TE} {pos:Pos}
theorem fin_bl    (I:Inv X pins σ H s) (q:Q (.bl k) H) (e:k = k'):EP X pins σ Q (.bool k') s:=by
 subst e;exact ⟨.bl k,H,I,rfl,q⟩
theorem zqW:OpR X (compareOp .Eq) rEq:=by
 intro pins s σ H x y v u Q I rx ry h;obtain ⟨hs,q⟩:=h;cases x with
 | non=>
  cases rx;cases y with
  | non=>cases ry;exact PySem.EqNone.eq_none_none (fin_bl I q (by simp))
  | bl j=>cases ry;exact PySem.EqNone.eq_none_bool (fin_bl I q (by simp))
  | int j=>obtain ⟨t',rfl⟩:=ry;exact PySem.EqNone.eq_none_int (fin_bl I q (by simp))
  | str j=>obtain ⟨t',rfl⟩:=ry;exact PySem.EqNone.eq_none_str (fin_bl I q (by simp))
  | _=>exact absurd (show false = true from hs) YAx
 | bl i=>
  cases rx;cases y with
  | non=>cases ry;exact PySem.EqNone.eq_bool_none (fin_bl I q (by simp))
  | bl j=>cases ry;exact eq_bool (fin_bl I q dec_bl)
  | str j=>obtain ⟨t',rfl⟩:=ry;exact PySem.EqMixed.eq_bool_str (fin_bl I q (by simp))
  | _=>exact absurd (show false = true from hs) YAx
 | int i=>
  obtain ⟨t,rfl⟩:=rx;cases y with
  | non=>cases ry;exact PySem.EqNone.eq_int_none (fin_bl I q (by simp))
  | int j=>obtain ⟨t',rfl⟩:=ry;exact eq_int (fin_bl I q zmO)
  | str j=>obtain ⟨t',rfl⟩:=ry;exact PySem.EqMixed.eq_int_str (fin_bl I q (by simp))
  | _=>exact absurd (show false = true from hs) YAx
 | str i=>
  obtain ⟨t,rfl⟩:=rx;cases y with
  | non=>cases ry;exact PySem.EqNone.eq_str_none (fin_bl I q (by simp))
  | bl j=>cases ry;exact PySem.EqMixed.eq_str_bool (fin_bl I q (by simp))
  | int j=>obtain ⟨t',rfl⟩:=ry;exact PySem.EqMixed.eq_str_int (fin_bl I q (by simp))
  | str j=>obtain ⟨t',rfl⟩:=ry;exact eq_str (fin_bl I q zk5)
  | _=>exact absurd (show false = true from hs) YAx
 | byt i=>
  obtain ⟨t,rfl⟩:=rx;cases y with
  | byt j=>obtain ⟨t',rfl⟩:=ry;exact PySem.W.eq_bytes (fin_bl I q zlb)
  | _=>exact absurd (show false = true from hs) YAx
 | _=>cases y <;> exact absurd (show false = true from hs) YAx
theorem zsc:OpR X (compareOp .NotEq) rNe:=by
 intro pins s σ H x y v u Q I rx ry h;obtain ⟨hs,q⟩:=h;cases x with
 | non=>
  cases rx;cases y with
  | non=>cases ry;exact PySem.EqNone.ne_none_none (fin_bl I q (by simp))
  | bl j=>cases ry;exact PySem.EqNone.ne_none_bool (fin_bl I q (by simp))
  | int j=>obtain ⟨t',rfl⟩:=ry;exact PySem.EqNone.ne_none_int (fin_bl I q (by simp))
  | str j=>obtain ⟨t',rfl⟩:=ry;exact PySem.EqNone.ne_none_str (fin_bl I q (by simp))
  | _=>exact absurd (show false = true from hs) YAx
 | bl i=>
  cases rx;cases y with
  | non=>cases ry;exact PySem.EqNone.ne_bool_none (fin_bl I q (by simp))
  | bl j=>cases ry;exact ne_bool (fin_bl I q (congrArg not dec_bl))
  | str j=>obtain ⟨t',rfl⟩:=ry;exact PySem.EqMixed.ne_bool_str (fin_bl I q (by simp))
  | _=>exact absurd (show false = true from hs) YAx
 | int i=>
  obtain ⟨t,rfl⟩:=rx;cases y with
  | non=>cases ry;exact PySem.EqNone.ne_int_none (fin_bl I q (by simp))
  | int j=>obtain ⟨t',rfl⟩:=ry;exact ne_int (fin_bl I q (congrArg not zmO))
  | str j=>obtain ⟨t',rfl⟩:=ry;exact PySem.EqMixed.ne_int_str (fin_bl I q (by simp))
  | _=>exact absurd (show false = true from hs) YAx
 | str i=>
  obtain ⟨t,rfl⟩:=rx;cases y with
  | non=>cases ry;exact PySem.EqNone.ne_str_none (fin_bl I q (by simp))
  | bl j=>cases ry;exact PySem.EqMixed.ne_str_bool (fin_bl I q (by simp))
  | int j=>obtain ⟨t',rfl⟩:=ry;exact PySem.EqMixed.ne_str_int (fin_bl I q (by simp))
  | str j=>obtain ⟨t',rfl⟩:=ry;exact ne_str (fin_bl I q (congrArg not zk5))
  | _=>exact absurd (show false = true from hs) YAx
 | byt i=>
  obtain ⟨t,rfl⟩:=rx;cases y with
  | byt j=>obtain ⟨t',rfl⟩:=ry;exact PySem.W.ne_bytes (fin_bl I q (congrArg not zlb))
  | _=>exact absurd (show false = true from hs) YAx
 | _=>cases y <;> exact absurd (show false = true from hs) YAx
theorem znt:OpR X (compareOp .Lt) (rI0 λi j=>.bl (decide (i < j))):=opB0 λ_ _ _ _ _ _ _ q=>lt_int q
theorem zrJ:OpR X (compareOp .LtE) (rI0 λi j=>.bl (decide (i <= j))):=opB0 λ_ _ _ _ _ _ _ q=>le_int q
theorem zpQ:OpR X (compareOp .Gt) (rI0 λi j=>.bl (decide (j < i))):=opB0 λ_ _ _ _ _ _ _ q=>gt_int q
theorem zp7:OpR X (compareOp .GtE) (rI0 λi j=>.bl (decide (j <= i))):=opB0 λ_ _ _ _ _ _ _ q=>ge_int q
theorem OpR.or {f:Value->Value->Sem Value} {r r':R2} (h:OpR X f r) (h':OpR X f r'):OpR X f (λx y H Q=>r x y H Q\/r' x y H Q):=by
 intro pins s σ H x y v u Q I rx ry q;rcases q with q | q
 ·exact h pins s σ H x y v u Q I rx ry q
 ·exact h' pins s σ H x y v u Q I rx ry q
theorem zb0 (b:Expr) (h:op ≠ .In:=by decide) (h2:op ≠ .NotIn:=by decide):behindInMarks op b = false:=by
 have e1:(op == CmpOp.In) = false:=by cases op <;> first | rfl | exact absurd rfl h
 have e2:(op == CmpOp.NotIn) = false:=by cases op <;> first | rfl | exact absurd rfl h2
 cases b <;> simp [behindInMarks,e1,e2]
theorem zlU  (ho:OpR X (compareOp op) r) (ha:PE X a ta) (hb:PE X b tb) (hm:behindInMarks op b = false):PE X (.Compare a [op] [b] pos) (tOp r ta tb):=by
 intro pins s σ H Q I h;exact wpAny_Compare1 (binT ha hb I h λv u s2 x y H2 I2 rx ry q=>ho pins s2 σ H2 x y v u Q I2 rx ry q) hm
def znE (t:TE):TT:=λσ H Q=>t σ H λx H'=>∃ k,x = .bl k/\Q k H'
theorem zcI {op:CmpOp} {r:R2} (ho:OpR X (compareOp op) r) (ha:PE X a ta) (hb:PE X b tb) (hm:behindInMarks op b = false):PT X (.Compare a [op] [b] pos) (znE (tOp r ta tb)):=by
 intro pins s σ H Q I h;refine wpAny_isTrue_Compare1 (thn (ha pins s σ H _ I h) λv s1 ⟨x,H1,I1,r1,q1⟩=>thn (hb pins s1 σ H1 _ I1 q1) λu s2 ⟨y,H2,I2,r2,q2⟩=>
  thn (ho pins s2 σ H2 x y v u _ I2 r1 r2 q2) λc s3 ⟨z,H3,I3,r3,k,e,q3⟩=>?_) hm
 subst e;cases r3;exact YBa ⟨H3,I3,q3⟩
def zoC (r r':R2) (ta tb tc:TE):TE:=λσ H Q=>ta σ H λx H1=>tb σ H1 λy H2=>r x y H2 λz H3=>∃ k,z = .bl k /\
 (if k = true then tc σ H3 λw' H4=>r' y w' H4 Q else Q (.bl false) H3)
theorem znq {op op':CmpOp} {r r':R2} (ho:OpR X (compareOp op) r) (ho':OpR X (compareOp op') r') (ha:PE X a ta) (hb:PE X b tb) (hc:PE X c tc)
  (hm:lastMarks [op,op'] [b,c] = false:=by with_unfolding_all rfl):PT X (.Compare a [op,op'] [b,c] pos) (znE (zoC r r' ta tb tc)):=by
 intro pins s σ H Q I h;refine isTrue_chain (thn (ha pins s σ H _ I h) λv s1 ⟨x,H1,I1,r1,q1⟩=>test_link (thn (hb pins s1 σ H1 _ I1 q1) λu s2 ⟨y,H2,I2,r2,q2⟩=>
  thn (ho pins s2 σ H2 x y v u _ I2 r1 r2 q2) λd s3 ⟨z,H3,I3,r3,k,e,q3⟩=>?_)) hm
 subst e;cases r3;refine YBa ?_;cases k with
 | false=>
  obtain ⟨k',e',q'⟩:=q3;cases e';exact ite_ff ⟨H3,I3,q'⟩
 | true=>
  refine ite_tt (test_last (thn (hc pins s3 σ H3 _ I3 q3) λw' s4 ⟨z',H4,I4,r4,q4⟩=>thn (ho' pins s4 σ H4 y z' u w' _ I4 r2 r4 q4) λd' s5 ⟨z2,H5,I5,r5,k2,e2,q5⟩=>?_));subst e2;cases r5;exact YBa ⟨H5,I5,q5⟩
def TruV (K:PySem.W.Frag) (x:V) (H:Hp) (k:Bool):Prop:=
 match x with
 | .non=>k = false
 | .bl b=>k = b
 | .int i=>k = (i != 0)
 | .str y=>y.length <= sizeLine/\k = ((y.length:Int) != 0)
 | .byt y=>y.size <= sizeLine/\k = ((y.size:Int) != 0)
 | .ref p=>(∃ xs,SqL K H p xs/\k = !xs.isEmpty)\/(∃ xs,SqT K H p xs/\k = !xs.isEmpty)\/∃ kvs,H p = some (.dK kvs)/\k = !kvs.isEmpty
 | _=>False
theorem zkW {κ:Type} {kvs:List (κ × V)} {vs:List (κ × Value)} (r:KV kvs vs):(!vs.isEmpty) = !kvs.isEmpty:=by
 cases r <;> rfl
theorem zgy {xs:List V} {its:List Value} (r:Vals xs its):(!its.toArray.isEmpty) = !xs.isEmpty:=by
 cases r <;> simp
theorem zfb:(sizeLine:Nat) < 2 ^ 63:=by rw [YAR];decide
theorem zqM:TruR X (λx H Q=>∃ k,TruV X.K x H k/\Q k H):=by
 intro pins s σ H x v Q I rx h;obtain ⟨k,e,q⟩:=h;have hl:=zfb;have hs:sizeLine = 16777216:=YAR;cases x with
 | non=>
  cases rx;have e':k = false:=e;subst e';exact truthy_none ⟨H,I,q⟩
 | bl b=>
  cases rx;have e':k = b:=e;subst e';exact YBa ⟨H,I,q⟩
 | int i=>
  obtain ⟨t,rfl⟩:=rx;have e':k = (i != 0):=e;subst e';exact PySem.P.truthy_int ⟨H,I,q⟩
 | str y=>
  obtain ⟨t,rfl⟩:=rx;obtain ⟨hy,e'⟩:y.length <= sizeLine/\k = ((y.length:Int) != 0):=e;subst e';exact PySem.P.truthy_str (by omega) ⟨H,I.tok _,q⟩
 | byt y=>
  obtain ⟨t,rfl⟩:=rx;obtain ⟨hy,e'⟩:y.size <= sizeLine/\k = ((y.size:Int) != 0):=e;subst e';exact PySem.W.truthy_bytes (by omega) ⟨H,I.tok _,q⟩
 | ref p=>
  cases rx;have e':(∃ xs,SqL X.K H p xs/\k = !xs.isEmpty)\/(∃ xs,SqT X.K H p xs/\k = !xs.isEmpty)\/∃ kvs,H p = some (.dK kvs)/\k = !kvs.isEmpty:=e;rcases e' with ⟨xs,hx,e'⟩ | ⟨xs,hx,e'⟩ | ⟨kvs,hx,e'⟩
  ·subst e';obtain ⟨its,r,pl,hz⟩:=I.list hx;have hlen:=r.length;exact wpAny_truthy_list pl.isList (by simp only [YAq];omega) ⟨H,I.tok _,by rw [zgy r];exact q⟩
  ·subst e';obtain ⟨its,r,pl,hz⟩:=I.tuple hx;have hlen:=r.length;exact truthy_tuple pl (by simp only [YAq];omega) ⟨H,I.tok _,by rw [zgy r];exact q⟩
  ·subst e';obtain ⟨hz,hS,vs,r,m⟩:kvs.length <= sizeLine/\(p == sysModules) = false/\∃ vs,KV kvs vs/\s.heap.DictOf (zaO X.prog X.w) p vs:=I.hok p _ hx;have hlen:kvs.length = vs.length:=Paired.length r;exact wpAny_truthy_dict hS m (by omega) ⟨H,I.tok _,by rw [zkW r];exact q⟩
 | _=>exact (show False from e).elim
theorem zjB (ha:PE X a ta) (he:∀ whole,isTrue a X.env whole = (do let v <- whole;standAt a.pos;holding [v] (truthy v))) :
  PT X a (λσ H Q=>ta σ H λx H'=>∃ k,TruV X.K x H' k/\Q k H'):=by
 intro pins s σ H Q I h;exact isTrue_plain (thn (ha pins s σ H _ I h) λv s1 ⟨x,H1,I1,r1,q1⟩=>zqM pins s1 σ H1 x v Q I1 r1 q1) (he _)
theorem zk0:OpR X (binaryOp .Add) (λx y H Q=>∃ i j,x = .str i/\y = .str j/\i.length + j.length <= sizeLine/\Q (.str (i ++ j)) H):=by
 intro pins s σ H x y v u Q I rx ry h;obtain ⟨i,j,rfl,rfl,hz,q⟩:=h;obtain ⟨t,rfl⟩:=rx;obtain ⟨t',rfl⟩:=ry;exact add_str (λt' tk=>⟨.str (i ++ j),H,I.tok _,⟨_,rfl⟩,q⟩) hz
theorem zdD  (r:Vals [x] us):∃ u,us = [u]/\RelV x u:=by
 cases r with
 | cons r1 r2=>cases r2;exact ⟨_,rfl,r1⟩
theorem znb  (r:Vals [x,y] us):∃ u w',us = [u,w']/\RelV x u/\RelV y w':=by
 cases r with
 | cons r1 r2=>
  cases r2 with
  | cons r3 r4=>cases r4;exact ⟨_,_,rfl,r1,r3⟩
theorem ziD (hc:X.calm = true):CallR X (.builtin "min") (λxs H Q=>∃ i j,xs = [.int i,.int j]/\Q (.int (if j < i then j else i)) H):=by
 intro pins s σ H xs us Q I r h;obtain ⟨i,j,rfl,q⟩:=h;obtain ⟨u,w',rfl,⟨t,rfl⟩,⟨t',rfl⟩⟩:=znb r;refine min_two_ints (I.ok.hd hc) λh' tk k=>⟨_,H,I.kept k,?_,q⟩;by_cases hj:j < i
 ·rw [if_pos hj,if_pos hj];exact ⟨_,rfl⟩
 ·rw [if_neg hj,if_neg hj];exact ⟨_,rfl⟩
theorem zlR:CallR X (.type "int") (λxs H Q=>(∃ i,xs = [.int i]/\Q (.int i) H)\/∃ k,xs = [.bl k]/\Q (.int (if k then 1 else 0)) H):=by
 intro pins s σ H xs us Q I r h;rcases h with ⟨i,rfl,q⟩ | ⟨k,rfl,q⟩
 ·obtain ⟨u,rfl,t,rfl⟩:=zdD r;exact call_int_int ⟨.int i,H,I,⟨_,rfl⟩,q⟩
 ·obtain ⟨u,rfl,r1⟩:=zdD r;cases r1;exact call_int_bool ⟨.int (if k then 1 else 0),H,I.tok _,⟨_,rfl⟩,q⟩
end
theorem RelO.some_of  (r:RelO (some v) o):∃ u,o = some u/\RelV v u:=by
 cases o with
 | none=>exact (show False from r).elim
 | some u=>exact ⟨u,rfl,r⟩
structure Room (k:Nat) (A:Around):Prop where
 hd:A.handled = none
 dp:A.depth + 3 * k + 5 < recursionLimit
 un:A.units + 16 * k + 200 < cLine
theorem Room.mono  (r:Room k A) (h:j <= k):Room j A:=⟨r.hd,by have:=r.dp;omega,by have:=r.un;omega⟩
theorem Room.deeper {k:Nat} {A:Around} (r:Room (k + 1) A) (env:Env):Room k (A.deeper env):=
 ⟨r.hd,by have:=r.dp;show A.depth + 1 + 3 * k + 5 < _;omega,by have:=r.un;show A.units + 3 + 16 * k + 200 < _;omega⟩
theorem Room.depth {k:Nat} {A:Around} (r:Room k A):A.depth < recursionLimit:=by have:=r.dp;omega
theorem Room.units  (r:Room k A):A.units + 64 < cLine:=by have:=r.un;omega
def tNil:TA:=λ_ H Q=>Q [] H
def zrq (ta:TE) (tr:TA):TA:=λσ H Q=>ta σ H λx H1=>tr σ H1 λxs H2=>Q (x :: xs) H2
section
variable {X:Cx} {e:Expr} {es:List Expr} {te:TE} {t:TA} {pos:Pos}
theorem zat:PA X [] tNil:=λ_ _ _ _ H Q I h=>Calls.spliced_nil ⟨[],H,I,.nil,h⟩
theorem zah (ha:PE X e te) (hr:PA X es t) (hs:starEach (e :: es) X.env = (false,eval e X.env) :: starEach es X.env:=by rfl):PA X (e :: es) (zrq te t):=by
 intro pos pins s σ H Q I h;rw [hs];show wpAny _ _ (spliced ((false,eval e X.env) :: backTo pos (starEach es X.env))) _ _ s;refine Calls.spliced_cons (thn (ha pins s σ H _ I h) λu s1 ⟨x,H1,I1,r1,q1⟩=>?_);exact thn (hr pos pins s1 σ H1 _ I1 q1) λus s2 ⟨xs,H2,I2,r2,q2⟩=>⟨x :: xs,H2,I2,.cons r1 r2,q2⟩
def tTup (t:TA):TE:=λσ H Q=>t σ H λxs H1=>xs.length <= sizeLine/\∀ p,H1 p = none->Q (.ref p) (upd H1 p (.tup xs))
def tLst (t:TA):TE:=λσ H Q=>t σ H λxs H1=>xs.length <= sizeLine/\∀ p,H1 p = none->Q (.ref p) (upd H1 p (.lst xs))
theorem zdK {x1} (h:PA X es t):PE X (.Tuple es x1 pos) (tTup t):=by
 intro pins s σ H Q I hq;refine wpAny_Tuple_spliced (thn (h pos pins s σ H _ I hq) λus s1 ⟨xs,H1,I1,r,z,q⟩=>⟨by rw [<- r.length];exact z,?_⟩);have hf:H1 s1.heap.objs.size = none:=I1.hok.fresh (YAm _);refine ⟨.ref s1.heap.objs.size,upd H1 s1.heap.objs.size (.tup xs),I1.laid (t':=s1.toks) (λb u e=>YAc _ e) (YAm _) ?_,rfl,q _ hf⟩;exact ⟨z,us,r,⟨_,YAp _ rfl,rfl,_,rfl⟩⟩
theorem zeF (h:PA X es t):PE X (.List es pos) (tLst t):=by
 intro pins s σ H Q I hq;refine wpAny_List_spliced (thn (h pos pins s σ H _ I hq) λus s1 ⟨xs,H1,I1,r,z,q⟩=>⟨by rw [<- r.length];exact z,?_⟩);have hf:H1 s1.heap.objs.size = none:=I1.hok.fresh (YAm _);refine ⟨.ref s1.heap.objs.size,upd H1 s1.heap.objs.size (.lst xs),I1.laid (t':=s1.toks) (λb u e=>YAc _ e) (YAm _) ?_,rfl,q _ hf⟩;exact ⟨z,us,0,r,YAp _ rfl⟩
end
abbrev Sp:=List V->Hp->VK->XK->Prop
abbrev CXT:=List Env->Hp->Shared->XK->Value->Shared->Prop
structure Env0 (P:Program) (w:World) (K:PySem.W.Frag) (mg:Str->Option Value) (base:Heap) (A:Around) (outer:List Env) (s:Shared) (H:Hp):Prop where
 frames:A.frames = some outer
 mod:Mod K mg base
 bs:∀ b o,base.get? b = some o->s.heap.get? b = some o/\H b = none
 bsz:base.objs.size <= s.heap.objs.size
 funs:s.heap.FunFrames base outer
 frf:∀ b ∈ frs outer,H b = none
 hok:HOk P w H s.heap
 bare:AllBare s.gens
def CE (outer:List Env) (P:Program) (w:World) (H:Hp) (s:Shared) (Q:VK) (u:Value) (s':Shared):Prop:=
 ∃ v H',s'.os = s.os/\AllBare s'.gens/\Un (frs outer) [] H H' s.heap s'.heap/\HOk P w H' s'.heap/\RelV v u/\Q v H'
def CR (CX:CXT) (outer:List Env) (P:Program) (w:World) (H:Hp) (s:Shared) (Q:VK) (E:XK) (r:Result) (s':Shared):Prop:=
 match r with
 | .ok (.ret u)=>CE outer P w H s Q u s'
 | .ok _=>False
 | .error e=>CX outer H s E e s'
structure FnOk (P:Program) (w:World) (K:PySem.W.Frag) (mg:Str->Option Value) (base:Heap) (CX:CXT) (k:Nat) (f:Addr) (fd:FuncData) (ps:List Str) (sp:Sp):Prop where
 len:∀ vs H Q E,sp vs H Q E->vs.length = ps.length
 run:∀ (A:Around) (outer:List Env) (s:Shared) (H:Hp) (args:Args) (us:List Value) (vs:List V) (Q:VK) (E:XK),Room k A->Env0 P w K mg base A outer s H->BindsTo s fd args (ps.zip us)->Vals vs us->sp vs H Q E ->
  codeAny (model P w) A (.call (.ref f) args) (CR CX outer P w H s Q E) s
theorem FnOk.imp {P:Program} {w:World} {K:PySem.W.Frag} {mg:Str->Option Value} {base:Heap} {CX:CXT} {k:Nat} {f:Addr} {fd:FuncData} {ps:List Str} {sp sp':Sp} (F:FnOk P w K mg base CX k f fd ps sp)
  (h:∀ vs H Q E,sp' vs H Q E->sp vs H Q E):FnOk P w K mg base CX k f fd ps sp':=
 ⟨λvs H Q E q=>F.len vs H Q E (h _ _ _ _ q),λA outer s H args us vs Q E hr he hb hv hs=>F.run A outer s H args us vs Q E hr he hb hv (h _ _ _ _ hs)⟩
section
variable {X:Cx} {pins:List (Addr × Obj)} {σ:St} {H:Hp} {s s':Shared}
theorem Inv.env0 (I:Inv X pins σ H s):Env0 X.prog X.w X.K X.mg X.base X.A X.stack s H:=
 ⟨I.ok.frames,I.ok.mod,I.bs,YAK I.ok.bsz I.sz,I.stack,I.stkFree,I.hok,I.bare⟩
theorem Inv.after  (I:Inv X pins σ H s) (h:CE X.stack X.prog X.w H s Q u s'):EP X pins σ Q u s':=by
 obtain ⟨v,H',os,bare,un,hok,r,q⟩:=h;obtain ⟨hh,g,d,t,os'⟩:=s';obtain rfl:os' = s.os:=os;exact ⟨v,H',I.call (h':=hh) (g':=g) (d':=d) (t':=t) (ch:=[]) un hok bare (λb z=>absurd z (by simp)),r,q⟩
end
def zpW (sp:Sp) (dvs:List V) (E:XK) (t:TA):TE:=λσ H Q=>t σ H λvs H1=>sp (vs ++ dvs) H1 Q E
def Binds (K:PySem.W.Frag) (fd:FuncData) (ps:List Str) (ds:List Value):Prop:=
 ∀ (s:Shared) (us:List Value),K.In s.heap->(us ++ ds).length = ps.length->BindsTo s fd ⟨us,[]⟩ (ps.zip (us ++ ds))
theorem Binds.all {K:PySem.W.Frag} {fd:FuncData} {ps:List Str} (h:∀ us:List Value,us.length = ps.length->bindArgs fd ⟨us,[]⟩ = pure (ps.zip us)):Binds K fd ps []:=λs us _ hl=>by
 rw [YA3] at hl ⊢;exact .of_eq (h us hl)
def zlm (CX:CXT) (X:Cx) (E:XK):Prop:=∀ (pins:List (Addr × Obj)) (σ:St) (H:Hp) (s:Shared) (e:Value) (s':Shared),Inv X pins σ H s->CX X.stack H s E e s'->X.xe e s'
section
variable {X:Cx} {CX:CXT} {k:Nat} {f C:Addr} {fd:FuncData} {ps:List Str} {sp:Sp} {dvs:List V} {ds:List Value} {E:XK} {x m:Str} {p pos apos:Pos} {e o:Expr} {es:List Expr} {ta:TE} {t:TA}
theorem zqN {pins:List (Addr × Obj)} {σ:St} {H:Hp} {s:Shared} {Q:VK} {us:List Value} {vs:List V} (F:FnOk X.prog X.w X.K X.mg X.base CX k f fd ps sp) (hr:Room k X.A) (hb:Binds X.K fd ps ds) (hd:Vals dvs ds) (hx:zlm CX X E)
  (I:Inv X pins σ H s) (r:Vals vs us) (h:sp (vs ++ dvs) H Q E):wpAny (model X.prog X.w) X.A (call (.ref f) us) (EP X pins σ Q) X.xe s:=by
 have r2:Vals (vs ++ dvs) (us ++ ds):=r.append hd;have hl:(us ++ ds).length = ps.length:=by rw [<- r2.length];exact F.len _ _ _ _ h
 refine wpAny_call (codeAny_mono (F.run X.A X.stack s H ⟨us,[]⟩ (us ++ ds) (vs ++ dvs) Q E hr I.env0 (hb s us I.kIn hl) r2 h) λr s' hq=>?_);cases r with
 | error e=>exact hx pins σ H s e s' I hq
 | ok fl=>
  cases fl with
  | ret u=>exact I.after hq
  | next=>exact False.elim hq
  | brk=>exact False.elim hq
  | cont=>exact False.elim hq
theorem zi8 (F:FnOk X.prog X.w X.K X.mg X.base CX k f fd ps sp) (hr:Room k X.A) (hg:Gl X x) (hm:X.mg x = some (.ref f)) (hk:PySem.W.keepIn X.K (.ref f) = true) (hb:Binds X.K fd ps ds) (hd:Vals dvs ds) (hx:zlm CX X E)
  (ha:PA X (e :: es) t) (hdb:(x == ("__debug__" : Str)) = false:=by decide) (he:starEach (e :: es) X.env = (false,eval e X.env) :: starEach es X.env:=by rfl) (hpl:(backTo pos (starEach es X.env)).any (·.1) = false:=by rfl) :
  PE X (.Call (.Name x p) (e :: es) [] pos) (zpW sp dvs E t):=by
 intro pins s σ H Q I h;refine wpAny_Call_Name_kw (zpw I hg hm ?_ hdb);refine PySem.W.callWith_K (h₀:=X.base) I.ok.mod.kin hk (thn (ha pos pins s σ H _ I h) λus s1 ⟨vs,H1,I1,r,q⟩=>⟨I1.kIn,?_⟩) he hpl;exact zqN F hr hb hd hx I1 r q
end
structure FnScope (N P:List Str) (sc:Scope):Prop where
 kind:sc.kind = .function
 co:sc.isCoroutine = false
 gen:sc.isGenerator = false
 nd:N.Nodup
 pre:N.take P.length = P
 par:∀ x ∈ P,sc.names.lookup x = some .local\/sc.names.lookup x = some .cell
 nofree:∀ y ∈ sc.names,y.2 ≠ .free
theorem ziQ {kindOf:Str->Option NameKind} {x:Str}:∀ {binds:List (Str × Value)} {m:Str->Option Value},(∀ v,(x,v) ∉ binds)->bindL kindOf binds m x = m x
 | [],_,_=>rfl
 | (n,v) :: r,m,h=>by
  unfold bindL;rw [ziQ λw hw=>h w (YAj _ hw)];split
  ·have:x ≠ n:=by rintro rfl;exact h v YAh
   simp [this]
  ·rfl
theorem zhO {kindOf:Str->Option NameKind} {x:Str}:∀ {binds:List (Str × Value)} {m:Str->Option Value},(∀ v,(x,v) ∉ binds)->bindC kindOf binds m x = m x
 | [],_,_=>rfl
 | (n,v) :: r,m,h=>by
  unfold bindC;rw [zhO λw hw=>h w (YAj _ hw)];split
  ·rfl
  ·have:x ≠ n:=by rintro rfl;exact h v YAh
   simp [this]
theorem zhM {kindOf:Str->Option NameKind} {x:Str} {v:Value}:∀ {P:List Str} {vs:List Value} {i:Nat} {m:Str->Option Value},P.Nodup->P[i]? = some x->vs[i]? = some v->kindOf x = some .local ->
  bindL kindOf (P.zip vs) m x = some v
 | [],_,_,_,_,h,_,_=>by simp at h
 | _ :: _,[],_,_,_,_,h,_=>by simp at h
 | p :: P,w :: vs,0,m,nd,h1,h2,hk=>by
  simp at h1 h2;subst h1;subst h2;show bindL kindOf ((p,w) :: P.zip vs) m p = _;unfold bindL;rw [ziQ λv hv=>(YBf.mp nd).1 (List.of_mem_zip hv).1,if_pos hk]
  simp
 | p :: P,w :: vs,i + 1,m,nd,h1,h2,hk=>by
  show bindL kindOf ((p,w) :: P.zip vs) m x = _;unfold bindL;exact zhM (i:=i) (YBf.mp nd).2 (by simpa using h1) (by simpa using h2) hk
theorem zie {kindOf:Str->Option NameKind} {x:Str} {v:Value}:∀ {P:List Str} {vs:List Value} {i:Nat} {m:Str->Option Value},P.Nodup->P[i]? = some x->vs[i]? = some v->kindOf x ≠ some .local ->
  bindC kindOf (P.zip vs) m x = some v
 | [],_,_,_,_,h,_,_=>by simp at h
 | _ :: _,[],_,_,_,_,h,_=>by simp at h
 | p :: P,w :: vs,0,m,nd,h1,h2,hk=>by
  simp at h1 h2;subst h1;subst h2;show bindC kindOf ((p,w) :: P.zip vs) m p = _;unfold bindC;rw [zhO λv hv=>(YBf.mp nd).1 (List.of_mem_zip hv).1,if_neg hk]
  simp
 | p :: P,w :: vs,i + 1,m,nd,h1,h2,hk=>by
  show bindC kindOf ((p,w) :: P.zip vs) m x = _;unfold bindC;exact zie (i:=i) (YBf.mp nd).2 (by simpa using h1) (by simpa using h2) hk
def start (N:List Str) (vs:List V):St:=vs.map some ++ List.replicate (N.length - vs.length) none
def cxOf (CX:CXT) (P:Program) (w:World) (K:PySem.W.Frag) (mg:Str->Option Value) (base:Heap) (N:List Str) (qual:Str) (scope:Scope) (f:Addr) (cd:Value) (A:Around) (outer:List Env) (s:Shared) (H:Hp) (E:XK):Cx where
 prog:=P
 w:=w
 K:=K
 mg:=mg
 base:=base
 A:=A.deeper (envOfC qual scope s.heap.objs.size f cd)
 N:=N
 s₀:=s
 H₀:=H
 env:=envOfC qual scope s.heap.objs.size f cd
 outer:=outer
 stack:=envOfC qual scope s.heap.objs.size f cd :: outer
 ex:=[]
 calm:=true
 fn:=λ_=>true
 pn:=[]
 xe:=λe s'=>wpAny (model P w) (A.deeper (envOfC qual scope s.heap.objs.size f cd)) (leaving (envOfC qual scope s.heap.objs.size f cd) e) (λ_ s''=>CX outer H s E e s'') (λe' s''=>CX outer H s E e' s'') s'
theorem zjU {sc:Scope} {n:Nat} {x:Str} (h:sc.names.lookup x = some .cell):∃ c,(cellsFrom n sc.names []).lookup x = some c:=by
 have q:=PySem.W.cellsFrom_some sc.names n [] (.inl h);exact Option.isSome_iff_exists.mp q
theorem zl6 {CX:CXT} {P:Program} {w:World} {K:PySem.W.Frag} {mg:Str->Option Value} {base:Heap} {N ps:List Str} {qual:Str} {scope:Scope} {f:Addr} {cd:Value} {A:Around} {outer:List Env} {s s1:Shared} {H:Hp} {E:XK} {us:List Value} {vs:List V}
  (S:FnScope N ps scope) (hd:A.handled = none) (e0:Env0 P w K mg base A outer s H) (hl:vs.length = ps.length) (r:Vals vs us)
  (x:InCallC s s.heap.objs.size (bindL (envOfC qual scope s.heap.objs.size f cd).kindOf (ps.zip us) λ_=>none) (cellsFrom (s.heap.objs.size + 1) scope.names []) (bindC (envOfC qual scope s.heap.objs.size f cd).kindOf (ps.zip us) λ_=>none) s1) :
  Inv (cxOf CX P w K mg base N qual scope f cd A outer s H E) [] (start N vs) H s1:=by
 have hpl:ps.length <= N.length:=by have:=congrArg List.length S.pre;rw [YBv] at this;omega
 obtain ⟨h1,tk,rfl,hk⟩:=x.done;have noA:∀ b:Addr,b ∉ (cxOf CX P w K mg base N qual scope f cd A outer s H E).ex:=λb z=>absurd (show b ∈ ([]:List Addr) from z) (by simp);refine ⟨⟨e0.mod,S.kind,rfl,rfl,YAm _,λy z c h1 h2=>?_,λy hy=>?_,λy c _ h=>?_,λ_=>hd,Around.frames_deeper e0.frames,.inr ⟨rfl,rfl⟩,λb z=>absurd z (noA b),e0.bs,e0.bsz,λb _ _=>noA b,λb z=>absurd z (noA b),e0.funs,e0.frf⟩,
  rfl,e0.bare,Un.kept hk,⟨_,x.toInCall.ns,λi y v h1 h2 h3=>?_⟩,λy c h=>⟨_,x.cell y c h⟩,e0.hok.fresh (YAm _),λy c h=>?_,λp hp=>absurd (show p ∈ ([]:List (Addr × Obj)) from hp) (by simp),e0.hok.kept hk,?_⟩
 ·exact name_of_addr x.apart (YBp h1) (YBp h2)
 ·have hy:scope.names.lookup y = some .cell\/scope.names.lookup y = some .free:=hy;rcases hy with hy | hy
  ·exact zjU hy
  ·exact absurd rfl (S.nofree _ (YBp hy))
 ·exact Nat.le_of_lt (x.above y c (YBp h))
 ·have hi:i < vs.length:=by
   unfold start at h2;by_cases hi:i < vs.length
   ·exact hi
   ·rw [List.getElem?_append_right (by simpa using hi)] at h2;rw [List.getElem?_replicate] at h2;split at h2 <;> cases h2
  have ha:vs[i]? = some v:=by
   unfold start at h2;rw [List.getElem?_append_left (by simpa using hi),YAu] at h2;cases e:vs[i]? with
   | none=>rw [e] at h2;cases h2
   | some a=>rw [e] at h2;cases h2;rfl
  obtain ⟨u,hu,rv⟩:=r.get ha;have hp:ps[i]? = some y:=by
   rw [<- S.pre,List.getElem?_take_of_lt (by omega)];exact h1
  have ndP:ps.Nodup:=by rw [<- S.pre];exact S.nd.sublist (List.take_sublist _ _)
  refine ⟨u,rv,?_⟩;rcases S.par y (YAA hp) with k | k
  ·exact .inl ⟨k,zhM ndP hp hu k⟩
  ·obtain ⟨c,e⟩:=zjU (n:=s.heap.objs.size + 1) k;refine .inr ⟨.inl k,c,e,?_⟩;have q:=x.cell y c e;rw [zie ndP hp hu (by show scope.names.lookup y ≠ _;rw [k];decide)] at q;exact q
 ·exact e0.hok.fresh (Nat.le_of_lt (x.above y c (YBp h)))
 ·unfold start;show _ = N.length;rw [YAs,YAd,List.length_replicate];omega
theorem zrP {CX:CXT} {P:Program} {w:World} {K:PySem.W.Frag} {mg:Str->Option Value} {base:Heap} {k:Nat} {f:Addr} {name qual:Str} {params:Arguments} {body:List Stmt} {scope:Scope} {dV kV doc pm cdv ct oc:Value} {an od:Option Addr}
  {osl:Array (Option Value)} {N ps:List Str} {sp:Sp} (lk:K.lookup f = some ⟨oc,od,.func (PySem.W.fnOf name qual params body scope dV kV doc pm an cdv ct),osl⟩) (hcd:PySem.W.codeIn K cdv qual = true) (S:FnScope N ps scope)
  (len:∀ vs H Q E,sp vs H Q E->vs.length = ps.length)
  (hbody:∀ (A:Around) (outer:List Env) (s:Shared) (H:Hp) (vs:List V) (Q:VK) (E:XK),Room k (A.deeper (envOfC qual scope s.heap.objs.size f cdv))->sp vs H Q E ->
   ∃ t,PSs (cxOf CX P w K mg base N qual scope f cdv A outer s H E) body t/\t { nx:=λ_ H'=>Q .non H',rt:=Q } (start N vs) H) :
  FnOk P w K mg base CX (k + 1) f (PySem.W.fnOf name qual params body scope dV kV doc pm an cdv ct) ps sp:=by
 refine ⟨len,λA outer s H args us vs Q E hr e0 hb r hsp=>?_⟩;have hl:=len _ _ _ _ hsp;have KX:K.In s.heap:=e0.mod.kin.keeps λb o e=>(e0.bs b o e).1;have lim:s.heap.NoLimit:=e0.mod.nolimit.keeps λb o e=>(e0.bs b o e).1;have hkind:∀ y ∈ ps.zip us,scope.names.lookup y.1 = some .local\/(scope.names.lookup y.1 = some .cell/\((cellsFrom (s.heap.objs.size + 1) scope.names []).lookup y.1).isSome = true):=λ⟨n,v⟩ hy=>by
  rcases S.par n (List.of_mem_zip hy).1 with q | q
  ·exact .inl q
  ·exact .inr ⟨q,PySem.W.cellsFrom_some _ _ _ (.inl q)⟩
 refine codeAny_call_function hr.depth (KX _ _ lk) rfl S.co S.gen rfl (PySem.W.codeRec_of KX hcd) (hb _ _ _ _ ?_);refine wpAny_newFunctionEnv_cells S.kind hkind λenv he s1 x=>?_;subst he;refine ⟨lim.keeps x.toInCall.keep,codeAny_func ?_⟩;obtain ⟨t,ht,hq⟩:=hbody A outer s H vs Q E (hr.deeper _) hsp;have I:Inv (cxOf CX P w K mg base N qual scope f cdv A outer s H E) [] (start N vs) H s1:=zl6 S hr.hd e0 hl r x;refine YA0 (ht [] s1 (start N vs) H _ I hq) (λfl s' hs=>?_) λe s' hs=>hs;have fin:∀ {σ':St} {H':Hp} {v:V} {u:Value},Inv (cxOf CX P w K mg base N qual scope f cdv A outer s H E) [] σ' H' s'->RelV v u->Q v H'->CE outer P w H s Q u s':=
  λ{σ' H' v u} J rv q=>⟨v,H',J.os,J.bare,J.base,J.hok,rv,q⟩
 cases fl with
 | ret u=>
  obtain ⟨v,σ',H',J,rv,q⟩:=hs;exact fin J rv q
 | next=>
  obtain ⟨σ',H',J,q⟩:=hs;exact fin (v:=V.non) (u:=Value.none) J rfl q
 | brk=>
  obtain ⟨_,_,_,q⟩:=hs;exact False.elim q
 | cont=>
  obtain ⟨_,_,_,q⟩:=hs;exact False.elim q
section
variable {X:Cx} {x:Str} {p pos:Pos} {e:Expr} {es:List Expr} {t:TA} {id T:String} {r:List V->Hp->VK->Prop}
def tCB (r:List V->Hp->VK->Prop) (t:TA):TE:=λσ H Q=>t σ H λvs H1=>r vs H1 Q
theorem zbz (hc:CallR X (.builtin id) r) (hg:Gl X x) (hm:X.mg x = none) (hv:bootBuiltins x = some (.builtin id)) (ha:PA X (e :: es) t) (hn:x ≠ "__name__" := by decide) (hdb:(x == ("__debug__" : Str)) = false:=by decide)
  (he:starEach (e :: es) X.env = (false,eval e X.env) :: starEach es X.env:=by rfl) (hpl:(backTo pos (starEach es X.env)).any (·.1) = false:=by rfl):PE X (.Call (.Name x p) (e :: es) [] pos) (tCB r t):=by
 intro pins s σ H Q I h;refine wpAny_Call_Name_kw (zfm I hg hm hv ?_ hn hdb);exact PyProof.Rows.callWith_builtin1 (thn (ha pos pins s σ H _ I h) λus s1 ⟨vs,H1,I1,r1,q1⟩=>hc pins s1 σ H1 vs us Q I1 r1 q1) he hpl
theorem zcw (hc:CallR X (.type T) r) (hg:Gl X x) (hm:X.mg x = none) (hv:bootBuiltins x = some (.type T)) (ha:PA X (e :: es) t) (hn:x ≠ "__name__" := by decide) (hdb:(x == ("__debug__" : Str)) = false:=by decide)
  (he:starEach (e :: es) X.env = (false,eval e X.env) :: starEach es X.env:=by rfl) (hpl:(backTo pos (starEach es X.env)).any (·.1) = false:=by rfl):PE X (.Call (.Name x p) (e :: es) [] pos) (tCB r t):=by
 intro pins s σ H Q I h;refine wpAny_Call_Name_kw (zfm I hg hm hv ?_ hn hdb);exact PyProof.Rows.callWith_type1 (thn (ha pos pins s σ H _ I h) λus s1 ⟨vs,H1,I1,r1,q1⟩=>hc pins s1 σ H1 vs us Q I1 r1 q1) he hpl
end
end L2
namespace HT
open PySem PyProof.Rows
def zdm:List Int->List Int->Bool
 | [],[]=>false
 | [],_ :: _=>true
 | _ :: _,[]=>false
 | x :: xs,y :: ys=>if x = y then zdm xs ys else decide (x < y)
theorem zdl (x y:Int) (xs ys:List Int):zdm (x :: xs) (y :: ys) = if x = y then zdm xs ys else decide (x < y):=rfl
theorem zgV:zdm [] [] = false:=rfl
theorem zm9 (A:Around) (s:Shared) (a:Int) (t:Tok) (c:Int) (u:Tok):∃ e,SeqAt.EqAt A s (.int a t) (.int c u) e/\(e = true ↔ a = c):=
 ⟨(a == c),SeqAt.EqAt.int_int a t c u,by simp⟩
theorem zno (A:Around) (s:Shared) (a:Int) (t:Tok) (c:Int) (u:Tok) (prog:Program) (w:World) (E:Value->Shared->Prop) (Q:Value->Shared->Prop) (h:Q (.bool (decide (a < c))) s) :
  wpAny (model prog w) A (richCompare .Lt (.int a t) (.int c u)) Q E s:=
 (PyProof.Rows.lt_int h:wpAny (model prog w) A (compareOp .Lt (.int a t) (.int c u)) Q E s)
section
variable {prog:Program} {w:World} {A:Around} {E:Value->Shared->Prop} {s:Shared}
theorem cat_tup  (ht:IsTup s.heap t vs.toArray) (hb:IsTup s.heap b ws.toArray) (hv:vs ≠ [])
  (h1:ws = []->Q (.ref t) s) (h2:ws ≠ []->Q (.ref s.heap.objs.size) { s with heap:=s.heap.push { cls:=.type "tuple",data:=.seq (vs ++ ws).toArray } })
  (hsz:vs.length + ws.length <= sizeLine):wpAny (model prog w) A (binaryOp .Add (.ref t) (.ref b)) Q E s:=by
 obtain ⟨⟨cls,dd,data,sl⟩,ho,hc,n,hd⟩:=id ht;obtain ⟨⟨cls2,dd2,data2,sl2⟩,ho2,hc2,n2,hd2⟩:=id hb;simp only at hc hd hc2 hd2;subst hc hd hc2 hd2;have e:vs.toArray ++ ws.toArray = (vs ++ ws).toArray:=by simp
 by_cases hw:ws = []
 ·exact concat_meets ⟨_,ho,rfl⟩ ⟨_,ho2,rfl⟩ noFill_tuple_add seq_tuple_add PySem.F.slot_tuple_add PySem.F.entry_tuple_add (PySem.F.args_tuple_add_2 _ _)
   (tuple_addW1 t b vs.toArray ws.toArray n n2 dd dd2 sl sl2 (by simpa using hv) (by simp [hw])) ⟨ho,ho2,h1 hw⟩
 ·refine concat_meets ⟨_,ho,rfl⟩ ⟨_,ho2,rfl⟩ noFill_tuple_add seq_tuple_add PySem.F.slot_tuple_add PySem.F.entry_tuple_add (PySem.F.args_tuple_add_2 _ _)
   (tuple_addW2 t b vs.toArray ws.toArray n n2 dd dd2 sl sl2 (by simpa using hv) (by simpa using hw) (by rw [YAq,YAq];exact hsz)) ⟨ho,ho2,?_⟩
  rw [e];exact h2 hw
def sIx (n d:Nat):Option Int->Nat
 | none=>d
 | some v=>if v < 0 then (v + (n:Int)).toNat else min v.toNat n
theorem sIx_none (n d:Nat):sIx n d none = d:=rfl
theorem sIx_nat (n d k:Nat):sIx n d (some (k:Int)) = min k n:=by
 show (if (k:Int) < 0 then ((k:Int) + (n:Int)).toNat else min (k:Int).toNat n) = min k n;rw [if_neg (by omega),YAC]
theorem zqn (n d:Nat) (hd:d <= n) (o:Option Int):sIx n d o <= n:=by
 cases o with
 | none=>exact hd
 | some v=>
  show (if v < 0 then (v + (n:Int)).toNat else min v.toNat n) <= n;by_cases hv:v < 0
  ·rw [if_pos hv];omega
  ·rw [if_neg hv];exact Nat.min_le_right _ _
theorem zlf (v:Int) (n d:Nat):(if v < 0 then max (v + (n:Int)) 0 else min v (n:Int)) = ((sIx n d (some v):Nat):Int):=by
 show (if v < 0 then max (v + (n:Int)) 0 else min v (n:Int)) = (((if v < 0 then (v + (n:Int)).toNat else min v.toNat n):Nat):Int);by_cases hv:v < 0
 ·simp only [if_pos hv];omega
 ·simp only [if_neg hv];omega
theorem zkP (lo hi:Option Int) (n:Nat):Builtin.Slice.sliceAdjust lo hi 1 (n:Int) = (((sIx n 0 lo:Nat):Int),((sIx n n hi:Nat):Int)):=by
 have h1:¬ ((1:Int) < 0):=by omega
 unfold Builtin.Slice.sliceAdjust;simp only [h1,YBM];refine Prod.ext ?_ ?_
 ·cases lo with
  | none=>rfl
  | some v=>exact zlf v n 0
 ·cases hi with
  | none=>rfl
  | some v=>exact zlf v n n
theorem zkZ (i j:Nat):Builtin.Slice.slicePlaces (i:Int) (j:Int) 1 = j - i:=by
 unfold Builtin.Slice.slicePlaces;have h1:(1:Int) > 0:=by omega
 simp only [h1,if_true,Int.ediv_one];split <;> omega
theorem zgk {v:Value} {o:Option Int} {Q:Option Int->Shared->Prop} (p:IsPart v o) (h:Q o s):wpAny (model prog w) A (Builtin.Slice.slicePartIndex v) Q E s:=by
 cases p with
 | none=>exact slicePart_none h
 | int i t=>exact slicePart_int h
theorem zcO {sl:Addr} {vl vu:Value} {lo hi:Option Int} {n:Nat} {Q:Int × Int × Nat->Shared->Prop} (hs:s.heap.IsSliceOf sl vl vu .none) (pl:IsPart vl lo) (pu:IsPart vu hi)
  (h:Q (((sIx n 0 lo:Nat):Int),1,sIx n n hi - sIx n 0 lo) s):wpAny (model prog w) A (Builtin.Slice.sliceApplied (.ref sl) (pure (n:Int))) Q E s:=by
 obtain ⟨os,hos,hcs,hds⟩:=id hs;unfold Builtin.Slice.sliceApplied Builtin.Slice.sliceFields;refine YAa (YAa (YA5 hos hds (x:=vl) rfl (YAa (YA5 hos hds (x:=vu) rfl (YAa (YA5 hos hds (x:=.none) rfl (YAf ?_)))))));refine YAa (slicePart_none ?_);show wpAny _ _ (if ((1:Int) == 0) = true then _ else _) _ _ s;rw [if_neg (by decide)];refine YAa (zgk pl (YAa (zgk pu (YAa (YAf ?_)))));show wpAny _ _ (match Builtin.Slice.sliceAdjust lo hi 1 (n:Int) with | (lo,hi)=>pure (lo,(1:Int),Builtin.Slice.slicePlaces lo hi 1)) _ _ s;rw [zkP lo hi n];show wpAny _ _ (pure (((sIx n 0 lo:Nat):Int),(1:Int),Builtin.Slice.slicePlaces ((sIx n 0 lo:Nat):Int) ((sIx n n hi:Nat):Int) 1)) _ _ s;rw [zkZ];exact YAf h
theorem znu (xs:Array Value) (i k:Nat):((List.range k).filterMap λ(m:Nat)=>xs[((i:Int) + (m:Int) * 1).toNat]?).toArray = ((xs.toList.drop i).take k).toArray:=by
 have e:(λ(m:Nat)=>xs[((i:Int) + (m:Int) * 1).toNat]?) = λm=>xs[i + m]?:=by
  funext m
  have:((i:Int) + (m:Int) * 1).toNat = i + m:=by omega
  rw [this]
 rw [e]
 have:=pick_run xs i k
 rw [List.filterMap_map] at this;have e2:((λx=>xs[x]?) ∘ λx=>i + x) = λm=>xs[i + m]?:=rfl;rw [e2] at this;rw [this]
theorem getItem_tuple_cut {t sl:Addr} {items:Array Value} {vl vu:Value} {lo hi:Option Int} {Q:Value->Shared->Prop} (ht:IsTup s.heap t items) (hs:s.heap.IsSliceOf sl vl vu .none) (pl:IsPart vl lo) (pu:IsPart vu hi)
  (hw:¬ (sIx items.size 0 lo = 0/\sIx items.size items.size hi = items.size))
  (h:Q (.ref s.heap.objs.size) { s with heap:=s.heap.push { cls:=.type "tuple",data:=.seq ((items.toList.drop (sIx items.size 0 lo)).take (sIx items.size items.size hi - sIx items.size 0 lo)).toArray } })
  (hsz:items.size <= sizeLine):wpAny (model prog w) A (getItem (.ref t) (.ref sl)) Q E s:=by
 have htake:sizeOk (.seq ((items.toList.drop (sIx items.size 0 lo)).take (sIx items.size items.size hi - sIx items.size 0 lo)).toArray):=by
  show ((items.toList.drop (sIx items.size 0 lo)).take (sIx items.size items.size hi - sIx items.size 0 lo)).toArray.size <= sizeLine;rw [YAq,YBv,List.length_drop,YBD];omega
 have hj:sIx items.size items.size hi <= items.size:=zqn _ _ (YAm _) hi;obtain ⟨os,hos,hcs,hds⟩:=id hs;have hTs:s.TypeIs (.ref sl) "slice" := ⟨os,hos,hcs⟩;unfold getItem
 try with_reducible refine YAX ?_
 first | refine YAa (YAf ?_) | skip
 refine YAa (wpAny_sequenceKey ht.typeIs (by decide) ?_);refine YAa (YAY (name:=Str.ofString "__getitem__") ht.typeIs YAJ
  (YAV YAJ ht.typeIs entry_tuple_getitem ?_ (args_tuple_getitem _ _)))
 show wpAny _ _ (Builtin.Tuple.tupleItemsOf (.ref t) >>= _) _ _ s;refine YAa (tupleItemsOf_ ht ?_);refine YAa (wpAny_typeOf hTs ?_);rw [if_pos (by decide)];refine YAa (zcO hs pl pu ?_);have hno:¬ ((((sIx items.size 0 lo:Nat):Int) == 0 && (1:Int) == 1 && (sIx items.size items.size hi - sIx items.size 0 lo) == items.size) = true):=by
  intro q;rw [YAL,YAL] at q;have q1:((sIx items.size 0 lo:Nat):Int) = 0:=eq_of_beq q.1.1;have q2:sIx items.size items.size hi - sIx items.size 0 lo = items.size:=eq_of_beq q.2;exact hw ⟨by omega,by omega⟩
 show wpAny _ _ (if (((sIx items.size 0 lo:Nat):Int) == 0 && (1:Int) == 1 && (sIx items.size items.size hi - sIx items.size 0 lo) == items.size) = true then _ else _) _ _ s;rw [if_neg hno,znu];first
  | exact YAa (m:=Builtin.Tuple.tupleExact _) (YAQ (YAf ⟨_,rfl,YAf h⟩) htake)
  | exact YAa (m:=Builtin.Tuple.tupleExact _) (YAQ (YAa (YAf (YAf ⟨_,rfl,YAf h⟩))) htake)
  | exact YAa (YAa (m:=Builtin.Tuple.tupleExact _) (YAQ (YAf (YAf ⟨_,rfl,YAf h⟩)) htake))
  | exact YAa (YAa (m:=Builtin.Tuple.tupleExact _) (YAQ (YAf ⟨_,rfl,YAf h⟩) htake))
end
end HT
namespace L2
open PySem PySem.Spec PyProof.Rows
abbrev TO:=St->Hp->(Option Int->Hp->Prop)->Prop
def PO (X:Cx) (e:Option Expr) (t:TO):Prop:=
 ∀ (pins:List (Addr × Obj)) (s:Shared) (σ:St) (H:Hp) (Q:Option Int->Hp->Prop),Inv X pins σ H s->t σ H Q ->
  wpAny (model X.prog X.w) X.A (evalPart e X.env) (λu s'=>∃ o H',Inv X pins σ H' s'/\IsPart u o/\Q o H') X.xe s
def zoR:TO:=λ_ H Q=>Q none H
def zrt (t:TE):TO:=λσ H Q=>t σ H λx H1=>∃ i,x = .int i/\Q (some i) H1
theorem zgh:∀ {us:List Value},Vals (ns.map V.int) us->IntsAre us ns:=by
 induction ns with
 | nil=>intro us r;rw [List.map_nil] at r;cases r;exact .nil
 | cons n ns ih=>
  intro us r;rw [YAb] at r;cases r with
  | cons r1 r2=>
   obtain ⟨t,e⟩:=r1;subst e;exact .cons n t (ih r2)
section
variable {X:Cx} {e:Expr} {te:TE} {lo hi:Option Expr} {tl th:TO} {pos p2:Pos}
theorem zgK:PO X none zoR:=by
 intro pins s σ H Q I h;rw [evalPart_none];exact YAf ⟨none,H,I,.none,h⟩
theorem zhx (h:PE X e te):PO X (some e) (zrt te):=by
 intro pins s σ H Q I hw;rw [evalPart_some];refine thn (h pins s σ H _ I hw) λu s1 ⟨x,H1,I1,r1,q1⟩=>?_;obtain ⟨i,rfl,q⟩:=q1;obtain ⟨t,rfl⟩:=r1;exact ⟨some i,H1,I1,.int i t,q⟩
def SlR (X:Cx) (r:V->Option Int->Option Int->Hp->VK->Prop):Prop:=
 ∀ (pins:List (Addr × Obj)) (s:Shared) (σ:St) (H:Hp) (x:V) (v vl vu:Value) (lo hi:Option Int) (sl:Addr) (Q:VK),Inv X pins σ H s->RelV x v->s.heap.IsSliceOf sl vl vu .none->IsPart vl lo->IsPart vu hi->r x lo hi H Q ->
  ∃ T id,typeLookup (.type T) "__getitem__" = pure (some (.builtin id))/\s.TypeIs v T/\wpAny (model X.prog X.w) X.A (getItem v (.ref sl)) (EP X pins σ Q) X.xe s
theorem SlR.or {r r':V->Option Int->Option Int->Hp->VK->Prop} (h:SlR X r) (h':SlR X r'):SlR X (λx lo hi H Q=>r x lo hi H Q\/r' x lo hi H Q):=by
 intro pins s σ H x v vl vu lo hi sl Q I rx hs pl pu q;rcases q with q | q
 ·exact h pins s σ H x v vl vu lo hi sl Q I rx hs pl pu q
 ·exact h' pins s σ H x v vl vu lo hi sl Q I rx hs pl pu q
def tSl (r:V->Option Int->Option Int->Hp->VK->Prop) (te:TE) (tl th:TO):TE:=λσ H Q=>te σ H λx H1=>tl σ H1 λl H2=>th σ H2 λu H3=>r x l u H3 Q
theorem ze0 (hr:SlR X r) (he:PE X e te) (hl:PO X lo tl) (hu:PO X hi th):PE X (.Subscript e (.Slice lo hi none p2) pos) (tSl r te tl th):=by
 intro pins s σ H Q I h;refine Subscript_ (thn (he pins s σ H _ I h) λv s1 ⟨x,H1,I1,r1,q1⟩=>?_);refine wpAny_Slice (thn (hl pins s1 σ H1 _ I1 q1) λvl s2 ⟨l,H2,I2,pl,q2⟩=>thn (hu pins s2 σ H2 _ I2 q2) λvu s3 ⟨u,H3,I3,pu,q3⟩=>?_);rw [evalPart_none];refine YAf ?_;have I4:Inv X pins σ H3 { s3 with heap:=s3.heap.push { cls:=.type "slice",data:=.fields #[vl,vu,.none] } }:=I3.kept (t':=s3.toks) λb ob q=>YAc _ q;obtain ⟨T,id,hT,ht,hg⟩:=hr pins { s3 with heap:=s3.heap.push { cls:=.type "slice",data:=.fields #[vl,vu,.none] } } σ H3 x v vl vu l u s3.heap.objs.size Q I4 r1 (Heap.IsSliceOf.new ..) pl pu q3;show wpAny (model X.prog X.w) X.A (subscriptTail e (.Slice lo hi none p2) v (.ref s3.heap.objs.size)) (EP X pins σ Q) X.xe { s3 with heap:=s3.heap.push { cls:=.type "slice",data:=.fields #[vl,vu,.none] } };exact tail_any (ops:=[.ref s3.heap.objs.size,v]) ht hT hg (by with_unfolding_all rfl)
def cutV (xs:List V) (lo hi:Option Int):List V:=(xs.drop (HT.sIx xs.length 0 lo)).take (HT.sIx xs.length xs.length hi - HT.sIx xs.length 0 lo)
theorem ze5 (xs:List V) (lo hi:Option Int):(cutV xs lo hi).length <= xs.length:=by
 unfold cutV;rw [YBv,List.length_drop];omega
def rSlT (K:PySem.W.Frag):V->Option Int->Option Int->Hp->VK->Prop:=λx lo hi H Q=>∃ a xs,x = .ref a/\SqT K H a xs /\
 ¬ (HT.sIx xs.length 0 lo = 0/\HT.sIx xs.length xs.length hi = xs.length)/\∀ p,H p = none->Q (.ref p) (upd H p (.tup (cutV xs lo hi)))
theorem zoA:SlR X (rSlT X.K):=by
 intro pins s σ H x v vl vu lo hi sl Q I rx hs pl pu h;obtain ⟨a,xs,rfl,hx,hw,q⟩:=h;cases rx;obtain ⟨its,r,ht,hz⟩:=I.tuple hx;have hlen:its.toArray.size = xs.length:=by rw [YAq];exact r.length.symm
 refine ⟨"tuple",_,YAJ.lookup,ht.typeIs,?_⟩;refine HT.getItem_tuple_cut ht hs pl pu (by rw [hlen];exact hw) ?_ (by rw [hlen];exact hz);rw [hlen];refine ⟨.ref s.heap.objs.size,_,I.laid (t':=s.toks) (o:=.tup (cutV xs lo hi)) (λb ob q=>YAc _ q) (YAm _) ?_,rfl,q _ (I.hok.fresh (YAm _))⟩;exact ⟨YAK (ze5 xs lo hi) hz,_,(r.drop (HT.sIx xs.length 0 lo)).take (HT.sIx xs.length xs.length hi - HT.sIx xs.length 0 lo),IsTup.new _ _⟩
def zr9 (K:PySem.W.Frag):R2:=λx y H Q=>∃ a b xs ys,x = .ref a/\y = .ref b/\SqT K H a xs/\SqT K H b ys/\xs ≠ []/\xs.length + ys.length <= sizeLine /\
 (ys = []->Q (.ref a) H)/\(ys ≠ []->∀ p,H p = none->Q (.ref p) (upd H p (.tup (xs ++ ys))))
theorem Vals.nil_iff  (r:Vals xs us):us = [] ↔ xs = []:=by
 cases r with
 | nil=>simp
 | cons _ _=>simp
theorem zlz:OpR X (binaryOp .Add) (zr9 X.K):=by
 intro pins s σ H x y v u Q I rx ry h;obtain ⟨a,b,xs,ys,rfl,rfl,ha,hb,hx,hz,q1,q2⟩:=h;cases rx;cases ry;obtain ⟨its,r1,p1,_⟩:=I.tuple ha;obtain ⟨its2,r2,p2,_⟩:=I.tuple hb;refine HT.cat_tup p1 p2 (λz=>hx (r1.nil_iff.mp z)) (λz=>⟨.ref a,H,I,rfl,q1 (r2.nil_iff.mp z)⟩) (λz=>?_) (by rw [<- r1.length,<- r2.length];exact hz);refine ⟨.ref s.heap.objs.size,_,I.laid (t':=s.toks) (o:=.tup (xs ++ ys)) (λb ob q=>YAc _ q) (YAm _) ?_,rfl,q2 (λw=>z (r2.nil_iff.mpr w)) _ (I.hok.fresh (YAm _))⟩;exact ⟨by rw [YAs];exact hz,_,r1.append r2,IsTup.new _ _⟩
end
def ixN (n:Nat) (i:Int):Option Nat:=if 0 <= i then (if i < n then some i.toNat else none) else if -(n:Int) <= i then some (i + n).toNat else none
def atI {α:Type} (xs:List α) (i:Int):Option α:=(ixN xs.length i).bind λj=>xs[j]?
theorem zm7  (h:ixN n i = some j):seqIndex? i n = some j/\j < n/\-(n:Int) <= i/\i < n:=by
 unfold ixN at h;by_cases h0:0 <= i
 ·rw [if_pos h0] at h;by_cases h1:i < n
  ·rw [if_pos h1] at h;have e:i.toNat = j:=Option.some.inj h;exact ⟨by rw [seqIndex_of h0 h1,e],by omega,by omega,h1⟩
  ·rw [if_neg h1] at h;cases h
 ·rw [if_neg h0] at h;by_cases h1:-(n:Int) <= i
  ·rw [if_pos h1] at h;have e:(i + n).toNat = j:=Option.some.inj h;exact ⟨by rw [seqIndex_neg (by omega) h1,e],by omega,h1,by omega⟩
  ·rw [if_neg h1] at h;cases h
theorem zjn {α:Type} {xs:List α} {i:Int} {v:α} (h:atI xs i = some v):∃ j,seqIndex? i xs.length = some j/\xs[j]? = some v/\j < xs.length/\-(xs.length:Int) <= i/\i < xs.length:=by
 unfold atI at h;cases e:ixN xs.length i with
 | none=>rw [e] at h;cases h
 | some j=>
  rw [e] at h;obtain ⟨h1,h2,h3,h4⟩:=zm7 e;exact ⟨j,h1,h,h2,h3,h4⟩
theorem zez {α:Type} {xs:List α} {j:Nat} {v:α} (h:xs[j]? = some v):atI xs (j:Int) = some v:=by
 have hj:j < xs.length:=(YAi.mp h).1;have e:ixN xs.length (j:Int) = some j:=by
  unfold ixN;rw [if_pos (by omega),if_pos (by omega)];simp
 unfold atI;rw [e];exact h
def zi6 (b:Expr):Prop:=∀ o i,subscripted b false o i = operate [o,i] (getItem o i)
def IxR (X:Cx) (r:R2):Prop:=
 ∀ (value slice:Expr) (pins:List (Addr × Obj)) (s:Shared) (σ:St) (H:Hp) (x y:V) (v u:Value) (Q:VK),Inv X pins σ H s->RelV x v->RelV y u->r x y H Q ->
  subscripted slice false v u = operate [v,u] (getItem v u)->wpAny (model X.prog X.w) X.A (subscriptTail value slice v u) (EP X pins σ Q) X.xe s
def MtR (X:Cx) (id:String) (r:V->List V->Hp->VK->Prop):Prop:=
 ∀ (pins:List (Addr × Obj)) (s:Shared) (σ:St) (H:Hp) (x:V) (xs:List V) (v:Value) (us:List Value) (Q:VK),Inv X pins σ H s->RelV x v->Vals xs us->r x xs H Q ->
  wpAny (model X.prog X.w) X.A (call (.builtin id) (v :: us)) (EP X pins σ Q) X.xe s
section
variable {X:Cx} {a b:Expr} {ta tb:TE} {pos:Pos}
theorem IxR.or {r r':R2} (h:IxR X r) (h':IxR X r'):IxR X (λx y H Q=>r x y H Q\/r' x y H Q):=by
 intro value slice pins s σ H x y v u Q I rx ry q hs;rcases q with q | q
 ·exact h value slice pins s σ H x y v u Q I rx ry q hs
 ·exact h' value slice pins s σ H x y v u Q I rx ry q hs
theorem zcQ (hr:IxR X r) (ha:PE X a ta) (hb:PE X b tb) (hs:zi6 b):PE X (.Subscript a b pos) (tOp r ta tb):=by
 intro pins s σ H Q I h;exact Subscript_ (binT ha hb I h λv u s2 x y H2 I2 rx ry q=>hr a b pins s2 σ H2 x y v u Q I2 rx ry q (hs _ _))
def rIxL (K:PySem.W.Frag):R2:=λx y H Q=>∃ p xs i v,x = .ref p/\y = .int i/\SqL K H p xs/\atI xs i = some v/\Q v H
def rIxT (K:PySem.W.Frag):R2:=λx y H Q=>∃ p xs i v,x = .ref p/\y = .int i/\SqT K H p xs/\atI xs i = some v/\Q v H
def rIxS:R2:=λx y H Q=>∃ z i c,x = .str z/\y = .int i/\z.length <= sizeLine/\atI z.cps.toList i = some c/\Q (.str ⟨#[c]⟩) H
theorem ix_list:IxR X (rIxL X.K):=by
 intro value slice pins s σ H x y v u Q I rx ry h hs;obtain ⟨p,xs,i,z,rfl,rfl,hq,he,q⟩:=h;cases rx;obtain ⟨t,rfl⟩:=ry;obtain ⟨its,r,pl,hz⟩:=I.list hq;obtain ⟨j,h1,h2,h3,h4,h5⟩:=zjn he;obtain ⟨w,ew,rw'⟩:=r.get h2;have hl:=r.length;have hn:=zfb;have fin:EP X pins σ Q w s:=⟨z,H,I,rw',q⟩;by_cases h0:0 <= i
 ·have hj:i.toNat = j:=by
   rw [seqIndex_of h0 h5] at h1;exact Option.some.inj h1
  exact item_listR pl.isList h0 (by omega) (by rw [hj];simpa using ew) fin hs
 ·have hj:(i + (its.toArray.size:Int)).toNat = j:=by
   rw [seqIndex_neg (by omega) h4] at h1;rw [YAq,<- hl];exact Option.some.inj h1
  exact subscriptTail_builtinR (x:=w) pl.isList.typeIs slot_list_getitem.lookup
   (wpAny_getItem_list_neg (Q:=λr s'=>r = w/\EP X pins σ Q r s') pl.isList (by omega) (by rw [YAq] <;> omega) (by omega) (by rw [hj];simpa using ew) ⟨rfl,fin⟩) hs
theorem ix_tup:IxR X (rIxT X.K):=by
 intro value slice pins s σ H x y v u Q I rx ry h hs;obtain ⟨p,xs,i,z,rfl,rfl,hq,he,q⟩:=h;cases rx;obtain ⟨t,rfl⟩:=ry;obtain ⟨its,r,pl,hz⟩:=I.tuple hq;obtain ⟨j,h1,h2,h3,h4,h5⟩:=zjn he;obtain ⟨w,ew,rw'⟩:=r.get h2;have hl:=r.length;have hn:=zfb;have fin:EP X pins σ Q w s:=⟨z,H,I,rw',q⟩;exact subscriptTail_builtinR (x:=w) pl.typeIs slot_tuple_getitem.lookup
  (getItem_tuple (j:=j) (Q:=λr s'=>r = w/\EP X pins σ Q r s') pl (by omega) (by omega) (by rw [YAq,<- hl];exact h1) (by simpa using ew) ⟨rfl,fin⟩) hs
theorem zqi:IxR X rIxS:=by
 intro value slice pins s σ H x y v u Q I rx ry h hs;obtain ⟨z,i,c,rfl,rfl,hz,he,q⟩:=h;obtain ⟨t,rfl⟩:=rx;obtain ⟨t',rfl⟩:=ry;obtain ⟨j,h1,h2,h3,h4,h5⟩:=zjn he;have hl:z.cps.toList.length = z.length:=by simp [Str.length]
 rw [hl] at h1 h4 h5;have hn:=zfb;exact tail_any (typeIs_str s z t) slot_str_getitem.lookup (getItem_str (c:=c) (by
  have e1:decide (i < -(2 ^ 63:Int)) = false:=YAz (by omega);have e2:decide (i ≥ 2 ^ 63) = false:=YAz (by omega);rw [e1,e2,Bool.or_false]) (by rw [h1];simpa using h2) ⟨.str ⟨#[c]⟩,H,I.tok _,⟨_,rfl⟩,q⟩) hs
def rIx (K:PySem.W.Frag):R2:=λx y H Q=>rIxL K x y H Q\/rIxT K x y H Q\/rIxS x y H Q
theorem zoF:IxR X (rIx X.K):=ix_list.or (ix_tup.or zqi)
theorem zkz (its:List Value) (n j:Nat) (u:Value):Obj.mapSeq (·.setIfInBounds j u) { cls:=.type "list",data:=.seq its.toArray n } = { cls:=.type "list",data:=.seq (its.set j u).toArray n }:=by
 simp [Obj.mapSeq]
theorem Inv.lst {pins:List (Addr × Obj)} {σ:St} {H:Hp} {s:Shared} {p:Addr} {xs:List V} (I:Inv X pins σ H s) (h:H p = some (.lst xs)) :
  ∃ (its:List Value) (n:Nat),Vals xs its/\s.heap.get? p = some { cls:=.type "list",data:=.seq its.toArray n }/\xs.length <= sizeLine:=by
 obtain ⟨z,its,n,r,e⟩:=I.hok p _ h;exact ⟨its,n,r,e,z⟩
theorem Inv.lstUpd {pins:List (Addr × Obj)} {σ:St} {H:Hp} {s:Shared} {p:Addr} {xs ys:List V} {its its':List Value} {n n':Nat} {f:Obj->Obj} (I:Inv X pins σ H s) (h:H p = some (.lst xs))
  (ho:s.heap.get? p = some { cls:=.type "list",data:=.seq its.toArray n }) (hf:f { cls:=.type "list",data:=.seq its.toArray n } = { cls:=.type "list",data:=.seq its'.toArray n' }) (r:Vals ys its') (hz:ys.length <= sizeLine) (t:Nat) :
  Inv X pins σ (upd H p (.lst ys)) { s with heap:=s.heap.update p f,toks:=t }:=by
 have e:(s.heap.update p f).get? p = some { cls:=.type "list",data:=.seq its'.toArray n' }:=by
  rw [Heap.get?_update_self f ho (by rw [hf] <;> rfl),hf]
 refine I.write (x:=p) (e:=p) (by rw [h];trivial) (.inl rfl) (λb u hb q=>(Heap.get?_update_other _ _ (Ne.symm hb)).trans q) ⟨_,e⟩ ?_;exact ⟨hz,its',n',r,e⟩
def zrW:V->V->V->Hp->(Hp->Prop)->Prop:=λo i v H Q=>∃ p xs k j,o = .ref p/\i = .int k/\H p = some (.lst xs)/\ixN xs.length k = some j/\Q (upd H p (.lst (xs.set j v)))
theorem zcA:PSet X zrW:=by
 intro pins s σ H o i v ov iv u Q I ro ri rv h;obtain ⟨p,xs,k,j,rfl,rfl,hp,hj,q⟩:=h;cases ro;obtain ⟨t,rfl⟩:=ri;obtain ⟨its,n,r,ho,hz⟩:=I.lst hp;obtain ⟨h1,h2,h3,h4⟩:=zm7 hj;have hl:=r.length;have hn:=zfb;have I':Inv X pins σ (upd H p (.lst (xs.set j v))) { s with heap:=s.heap.update p (Obj.mapSeq (·.setIfInBounds j u)) }:=
  I.lstUpd hp ho (zkz its n j u) (r.set rv j) (by rw [List.length_set];exact hz) s.toks
 by_cases h0:0 <= k
 ·have hk:k.toNat = j:=by
   rw [seqIndex_of h0 h4] at h1;exact Option.some.inj h1
  exact PySem.W.ki_setAt ho h0 (by omega) (by rw [YAq,<- hl];exact h4) (by rw [hk];exact ⟨_,I',q⟩)
 ·have hk:(k + (its.toArray.size:Int)).toNat = j:=by
   rw [seqIndex_neg (by omega) h3] at h1;rw [YAq,<- hl];exact Option.some.inj h1
  exact PySem.W.ki_setBack ho (by omega) (by rw [YAq,<- hl];exact h3) (by omega) (by rw [hk];exact ⟨_,I',q⟩)
theorem zh8 (lo hi:Option Int) (n:Nat):(sliceBounds lo hi none n).1 = ((HT.sIx n 0 lo:Nat):Int)/\(sliceBounds lo hi none n).2.1 = ((HT.sIx n n hi:Nat):Int)/\(sliceBounds lo hi none n).2.2 = 1:=by
 refine ⟨?_,?_,rfl⟩
 ·cases lo with
  | none=>simp [sliceBounds,HT.sIx]
  | some i=>
   simp only [sliceBounds,HT.sIx,Option.getD_none,show (1:Int) > 0 by decide,if_true];by_cases h:i < 0
   ·simp only [h,if_true] <;> omega
   ·simp only [h,YBM] <;> omega
 ·cases hi with
  | none=>simp [sliceBounds,HT.sIx]
  | some i=>
   simp only [sliceBounds,HT.sIx,Option.getD_none,show (1:Int) > 0 by decide,if_true];by_cases h:i < 0
   ·simp only [h,if_true] <;> omega
   ·simp only [h,YBM] <;> omega
theorem zhw (its:List Value) (lo hi:Option Int):slicePick its.toArray lo hi none = ((its.drop (HT.sIx its.length 0 lo)).take (HT.sIx its.length its.length hi - HT.sIx its.length 0 lo)).toArray:=by
 obtain ⟨h1,h2,h3⟩:=zh8 lo hi its.toArray.size;unfold slicePick;rw [h1,h2,h3];simp only [sliceRange_one,pick_run,YAq] <;> rfl
def rSlL (K:PySem.W.Frag):V->Option Int->Option Int->Hp->VK->Prop:=λx lo hi H Q=>∃ a xs,x = .ref a/\SqL K H a xs/\∀ p,H p = none->Q (.ref p) (upd H p (.lst (cutV xs lo hi)))
theorem sl_list:SlR X (rSlL X.K):=by
 intro pins s σ H x v vl vu lo hi sl Q I rx hs pl pu h;obtain ⟨a,xs,rfl,hx,q⟩:=h;cases rx;obtain ⟨its,r,ht,hz⟩:=I.list hx;have hlen:=r.length;refine ⟨"list",_,slot_list_getitem.lookup,ht.isList.typeIs,?_⟩;refine wpAny_getItem_list_slice ht.isList hs pl pu .none (by simp) ?_ (by rw [YAq] <;> omega);rw [zhw,<- hlen];refine ⟨.ref s.heap.objs.size,_,I.laid (t':=s.toks) (o:=.lst (cutV xs lo hi)) (λb ob q=>YAc _ q) (YAm _) ?_,rfl,q _ (I.hok.fresh (YAm _))⟩;exact ⟨YAK (ze5 xs lo hi) hz,_,0,(r.drop (HT.sIx xs.length 0 lo)).take (HT.sIx xs.length xs.length hi - HT.sIx xs.length 0 lo),YAp _ rfl⟩
def zgZ:V->Bool
 | .non=>true
 | .bl _=>true
 | .int _=>true
 | .str _=>true
 | _=>false
def eqV:V->V->Bool
 | .non,.non=>true
 | .bl a,.bl b=>a == b
 | .bl a,.int b=>(if a then 1 else 0) == b
 | .int a,.bl b=>a == (if b then 1 else 0)
 | .int a,.int b=>a == b
 | .str a,.str b=>a == b
 | _,_=>false
theorem zrb   (ry:RelV y u) (rx:RelV x v) (fy:zgZ y = true) (fx:zgZ x = true):SeqAt.EqAt A s u v (eqV y x):=by
 cases y with
 | non=>
  cases ry;cases x with
  | non=>cases rx;exact SeqAt.EqAt.same _
  | bl b=>cases rx;exact SeqAt.EqAt.none_bool b
  | int b=>obtain ⟨t,rfl⟩:=rx;exact SeqAt.EqAt.none_int b t
  | str b=>obtain ⟨t,rfl⟩:=rx;exact SeqAt.EqAt.none_str b t
  | _=>exact absurd (show false = true from fx) YAx
 | bl a=>
  cases ry;cases x with
  | non=>cases rx;exact SeqAt.EqAt.bool_none a
  | bl b=>cases rx;exact SeqAt.EqAt.bool_bool a b
  | int b=>obtain ⟨t,rfl⟩:=rx;exact SeqAt.EqAt.bool_int a b t
  | str b=>obtain ⟨t,rfl⟩:=rx;exact SeqAt.EqAt.bool_str a b t
  | _=>exact absurd (show false = true from fx) YAx
 | int a=>
  obtain ⟨t',rfl⟩:=ry;cases x with
  | non=>cases rx;exact SeqAt.EqAt.int_none a t'
  | bl b=>cases rx;exact SeqAt.EqAt.int_bool a t' b
  | int b=>obtain ⟨t,rfl⟩:=rx;exact SeqAt.EqAt.int_int a t' b t
  | str b=>obtain ⟨t,rfl⟩:=rx;exact SeqAt.EqAt.int_str a t' b t
  | _=>exact absurd (show false = true from fx) YAx
 | str a=>
  obtain ⟨t',rfl⟩:=ry;cases x with
  | non=>cases rx;exact SeqAt.EqAt.str_none a t'
  | bl b=>cases rx;exact SeqAt.EqAt.str_bool a t' b
  | int b=>obtain ⟨t,rfl⟩:=rx;exact SeqAt.EqAt.str_int a t' b t
  | str b=>obtain ⟨t,rfl⟩:=rx;exact SeqAt.EqAt.str_str a t' b t
  | _=>exact absurd (show false = true from fx) YAx
 | _=>exact absurd (show false = true from fy) YAx
def eqU (x:V) (u:Value):Bool:=match u with
 | .none=>eqV .non x
 | .bool b=>eqV (.bl b) x
 | .int i _=>eqV (.int i) x
 | .str z _=>eqV (.str z) x
 | _=>false
theorem zoJ  (r:RelV y u) (f:zgZ y = true):eqU x u = eqV y x:=by
 cases y with
 | non=>cases r;rfl
 | bl b=>cases r;rfl
 | int i=>obtain ⟨t,rfl⟩:=r;rfl
 | str z=>obtain ⟨t,rfl⟩:=r;rfl
 | _=>exact absurd (show false = true from f) YAx
theorem zjf:∀ {xs:List V} {us:List Value},Vals xs us->xs.all zgZ = true->us.any (eqU x) = xs.any λy=>eqV y x
 | _,_,.nil,_=>rfl
 | y :: xs,u :: us,.cons r t,f=>by
  rw [List.all_cons,YAL] at f;rw [YBL,YBL,zoJ r f.1,zjf t f.2]
theorem zhs   (rx:RelV x v) (fx:zgZ x = true):∀ {xs:List V} {us:List Value},Vals xs us->xs.all zgZ = true->∀ u ∈ us,SeqAt.EqAt A s u v (eqU x u)
 | _,_,.nil,_=>λu hu=>by cases hu
 | y :: xs,u :: us,.cons r t,f=>λu' hu=>by
  rw [List.all_cons,YAL] at f;rcases YAk.mp hu with rfl | hu
  ·rw [zoJ r f.1];exact zrb r rx f.1 fx
  ·exact zhs rx fx t f.2 u' hu
def inV (x:V) (xs:List V):Bool:=xs.any λy=>eqV y x
def rIn (K:PySem.W.Frag) (neg:Bool):R2:=λx y H Q=>∃ p xs,y = .ref p/\(SqL K H p xs\/SqT K H p xs)/\zgZ x = true/\xs.all zgZ = true/\Q (.bl (if neg then !inV x xs else inV x xs)) H
theorem zeD:OpR X (compareOp .NotIn) (rIn X.K true):=by
 intro pins s σ H x y v u Q I rx ry h;obtain ⟨p,xs,rfl,hq,fx,fs,q⟩:=h;cases ry;rcases hq with hq | hq
 ·obtain ⟨its,r,pl,hz⟩:=I.list hq;refine SeqAt.notIn_listAt (eqU x) pl.isList (λw hw=>zhs rx fx r fs w (by simpa using hw)) ⟨.bl _,H,I,rfl,?_⟩;rw [show its.toArray.any (eqU x) = its.any (eqU x) by simp,zjf r fs];exact q
 ·obtain ⟨its,r,pl,hz⟩:=I.tuple hq;refine SeqAt.notIn_tupleAt (eqU x) pl (λw hw=>zhs rx fx r fs w (by simpa using hw)) ⟨.bl _,H,I,rfl,?_⟩;rw [show its.toArray.any (eqU x) = its.any (eqU x) by simp,zjf r fs];exact q
theorem zce:CallR X (.builtin "len") (λxs H Q=>∃ p ys,xs = [.ref p]/\(SqL X.K H p ys\/SqT X.K H p ys)/\Q (.int ys.length) H):=by
 intro pins s σ H xs us Q I r h;obtain ⟨p,ys,rfl,hq,q⟩:=h;obtain ⟨u,rfl,rx⟩:=zdD r;cases rx;have hn:=zfb;rcases hq with hq | hq
 ·obtain ⟨its,r',pl,hz⟩:=I.list hq;have hlen:=r'.length;exact Calls.call_len_list pl.isList (by simp only [YAq] <;> omega) ⟨.int ys.length,H,I.tok _,⟨s.toks + 1,by rw [YAq,hlen]⟩,q⟩
 ·obtain ⟨its,r',pl,hz⟩:=I.tuple hq;have hlen:=r'.length;exact len_tuple pl (by simp only [YAq] <;> omega) ⟨.int ys.length,H,I.tok _,⟨s.toks + 1,by rw [YAq,hlen]⟩,q⟩
theorem CallR.or {f:Value} {r r':List V->Hp->VK->Prop} (h:CallR X f r) (h':CallR X f r'):CallR X f (λxs H Q=>r xs H Q\/r' xs H Q):=by
 intro pins s σ H xs us Q I rs q;rcases q with q | q
 ·exact h pins s σ H xs us Q I rs q
 ·exact h' pins s σ H xs us Q I rs q
theorem zeN:CallR X (.type "list") (λxs H Q=>∃ p ys,xs = [.ref p]/\(SqL X.K H p ys\/SqT X.K H p ys)/\∀ l,H l = none->Q (.ref l) (upd H l (.lst ys))):=by
 intro pins s σ H xs us Q I r h;obtain ⟨p,ys,rfl,hq,q⟩:=h;obtain ⟨u,rfl,rx⟩:=zdD r;cases rx;have fin:∀ (its:List Value),Vals ys its->ys.length <= sizeLine->∀ (h':Heap) (c':Nat),(∀ b o',s.heap.get? b = some o'->h'.get? b = some o') ->
   h'.get? s.heap.objs.size = some { cls:=.type "list",dict:=none,data:=.seq its.toArray c',slots:=#[] }->EP X pins σ Q (.ref s.heap.objs.size) { s with heap:=h' }:=λits r' hz h' c' kp e=>
  ⟨.ref s.heap.objs.size,_,I.laid (t':=s.toks) kp (YAm _) (show ObjOk X.prog X.w _ h' _ (.lst ys) from ⟨hz,its,c',r',e⟩),rfl,q _ (I.hok.fresh (YAm _))⟩
 rcases hq with hq | hq
 ·obtain ⟨its,r',pl,hz⟩:=I.list hq;have hlen:=r'.length;obtain ⟨o,ho,hc,n,hd⟩:=pl.isList;exact call_list_seq p (.inl rfl) ho hc hd (λh' c' kp e=>fin its r' hz h' c' kp e) (by simp only [YAq] <;> omega)
 ·obtain ⟨its,r',pl,hz⟩:=I.tuple hq;have hlen:=r'.length;obtain ⟨o,ho,hc,n,hd⟩:=pl;exact call_list_seq p (.inr rfl) ho hc hd (λh' c' kp e=>fin its r' hz h' c' kp e) (by simp only [YAq] <;> omega)
theorem zhy:CallR X (.type "tuple") (λxs H Q=>∃ p ys,xs = [.ref p]/\((SqL X.K H p ys/\∀ l,H l = none->Q (.ref l) (upd H l (.tup ys)))\/(SqT X.K H p ys/\Q (.ref p) H))):=by
 intro pins s σ H xs us Q I r h;obtain ⟨p,ys,rfl,h⟩:=h;obtain ⟨u,rfl,rx⟩:=zdD r;cases rx;rcases h with ⟨hq,q⟩ | ⟨hq,q⟩
 ·obtain ⟨its,r',pl,hz⟩:=I.list hq;have hlen:=r'.length;refine call_tuple_list pl.isList (λh' kp=>?_) (by simp only [YAq] <;> omega);have I1:Inv X pins σ H { s with heap:=h' }:=I.kept (t':=s.toks) kp;have I2:Inv X pins σ (upd H h'.objs.size (.tup ys)) { s with heap:=h'.push { cls:=.type "tuple",data:=.seq its.toArray } }:=
   I1.laid (t':=s.toks) (λb o e=>YAc _ e) (YAm _) (show ObjOk X.prog X.w _ _ _ (.tup ys) from ⟨hz,its,r',IsTup.new _ _⟩)
  exact ⟨.ref h'.objs.size,_,I2,rfl,q _ (I1.hok.fresh (YAm _))⟩
 ·obtain ⟨its,r',pl,hz⟩:=I.tuple hq;exact call_tuple_same pl ⟨.ref p,H,I,rfl,q⟩
def tyV (K:PySem.W.Frag) (T:String) (x:V) (H:Hp):Prop:=match x with
 | .str _=>T = "str"
 | .int _=>T = "int"
 | .ref p=>(T = "list" /\ ∃ xs,SqL K H p xs)\/(T = "tuple" /\ ∃ o,K.lookup p = some o/\o.cls = .type "tuple" /\ o.dict = none) \/
   (T = "dict" /\ ((∃ kvs,H p = some (.dK kvs))\/∃ kvs,H p = some (.dT kvs)))\/(T = "set" /\ ∃ S n,H p = some (.set S n))
 | _=>False
theorem zq3    (I:Inv X pins σ H s) (r:RelV x v) (ty:tyV X.K T x H) :
  s.TypeIs v T/\∀ a,v = .ref a->∃ ob,s.heap.get? a = some ob/\ob.dict = none:=by
 cases x with
 | str z=>
  obtain ⟨t,rfl⟩:=r;cases (show T = "str" from ty);exact ⟨typeIs_str s z t,λ_ e=>nomatch e⟩
 | int i=>
  obtain ⟨t,rfl⟩:=r;cases (show T = "int" from ty);exact ⟨typeIs_int s i t,λ_ e=>nomatch e⟩
 | ref p=>
  cases r;rcases ty with ⟨rfl,xs,hq⟩ | ⟨rfl,o,hk,hc,hd⟩ | ⟨rfl,hk⟩ | ⟨rfl,S,n,hk⟩
  ·obtain ⟨its,_,pl,_⟩:=I.list hq;refine ⟨pl.isList.typeIs,λa e=>?_⟩;cases e;obtain ⟨o,n,e,c,hd,_⟩:=pl;exact ⟨o,e,hd⟩
  ·refine ⟨⟨o,I.kIn p o hk,hc⟩,λa e=>?_⟩;cases e;exact ⟨o,I.kIn _ o hk,hd⟩
  ·have z:∃ o,s.heap.get? p = some o/\o.ExactDict:=by
    rcases hk with ⟨kvs,hk⟩ | ⟨kvs,hk⟩
    ·obtain ⟨_,_,_,_,o,_,_,e,ex,_⟩:=I.hok p _ hk;exact ⟨o,e,ex⟩
    ·obtain ⟨_,_,_,_,o,_,_,e,ex,_⟩:=I.hok p _ hk;exact ⟨o,e,ex⟩
   obtain ⟨o,e,ex⟩:=z;refine ⟨⟨o,e,ex.1⟩,λa e2=>?_⟩;cases e2;exact ⟨o,e,ex.2.1⟩
  ·obtain ⟨o,_,_,_,e,ex,_⟩:=I.hok p _ hk;refine ⟨⟨o,e,ex.1⟩,λa e2=>?_⟩;cases e2;exact ⟨o,e,ex.2.1⟩
 | _=>exact False.elim ty
def tBM (K:PySem.W.Frag) (T:String) (r:V->List V->Hp->VK->Prop) (to:TE) (t:TA):TE:=λσ H Q=>to σ H λx H1=>tyV K T x H1/\t σ H1 λxs H2=>r x xs H2 Q
variable {o e:Expr} {es:List Expr} {to:TE} {t:TA} {name:Str} {apos cpos:Pos} {T id:String} {r:V->List V->Hp->VK->Prop}
theorem zkI (pa:PlainAttrs T) (slot:Slot T name id) (hty:typeOf (.builtin id) = pure (.type "method_descriptor")) (hm:MtR X id r) (ho:PE X o to) (ha:PA X (e :: es) t)
  (hbase:attributeBase o name X.env (eval o X.env) = eval o X.env:=by rfl)
  (hfew:((backTo cpos (starEach (e :: es) X.env)).all (λx=>!x.1) && (backToKw cpos (keywordEach [] X.env)).all (λx=>x.1.isSome)
   && decide ((e :: es).length + ([]:List Keyword).length + (if ([]:List Keyword).isEmpty then 0 else 1) < 30)) = true:=by rfl)
  (hline:(apos.endLine == cpos.line) = true:=by rfl) (hs:starEach (e :: es) X.env = (false,eval e X.env) :: starEach es X.env:=by rfl) (hplain:(backTo cpos (starEach es X.env)).any (·.1) = false:=by rfl) :
  PE X (.Call (.Attribute o name apos) (e :: es) [] cpos) (tBM X.K T r to t):=by
 intro pins s σ H Q I h;refine wpAny_Call_method_late hbase hfew hline rfl (thn (ho pins s σ H _ I h) λv s1 ⟨x,H1,I1,r1,ty,q1⟩=>?_);obtain ⟨h1,h2⟩:=zq3 I1 r1 ty;refine ⟨T,id,pa,slot,hty,h1,h2,?_⟩;have hA:=ha cpos pins s1 σ H1 _ I1 q1;rw [hs] at hA ⊢;refine Calls.callWith_builtin (by show (false || (backTo cpos (starEach es X.env)).any (·.1)) = false;rw [hplain] <;> rfl) (Calls.evalArgs_plain ?_);exact thn hA λus s2 ⟨vs,H2,I2,r2,q2⟩=>hm pins s2 σ H2 x vs v us Q I2 r1 r2 q2
end
def MtM (X:Cx) (id:String) (r:V->List V->Hp->VK->Prop):Prop:=
 ∀ (pins:List (Addr × Obj)) (s:Shared) (σ:St) (H:Hp) (x:V) (xs:List V) (v:Value) (us:List Value) (Q:VK),Inv X pins σ H s->RelV x v->Vals xs us->r x xs H Q ->
  wpAny (model X.prog X.w) X.A (call (.builtin id) (v :: us)) (EP X pins σ Q) X.xe s
theorem Vals.one:∀ {x:V} {us:List Value},Vals [x] us->∃ u,us = [u]/\RelV x u
 | _,_,.cons r .nil=>⟨_,rfl,r⟩
theorem Vals.rep  (h:Vals xs us):∀ k:Nat,Vals (List.replicate k xs).flatten (List.replicate k us).flatten
 | 0=>.nil
 | k + 1=>by
  rw [YAS,YAS,YBk,YBk];exact Vals.append h (Vals.rep h k)
theorem ziu (its:List Value):∀ (k:Nat) (acc:List Value),
  List.foldl (λx1 x2=>x1 ++ x2) acc.toArray (List.replicate k its.toArray) = (acc ++ (List.replicate k its).flatten).toArray
 | 0,acc=>by simp
 | k + 1,acc=>by
  have e:acc.toArray ++ its.toArray = (acc ++ its).toArray:=by simp
  have e2:(acc ++ its) ++ (List.replicate k its).flatten = acc ++ (List.replicate (k + 1) its).flatten:=by
   rw [YAS,YBk,YA1]
  rw [<- e2,<- ziu its k (acc ++ its),<- e,YAS,List.foldl_cons]
section
variable {X:Cx} {pins:List (Addr × Obj)} {σ:St} {H:Hp} {s:Shared} {l b:Addr} {xs ys zs:List V}
theorem Inv.lset {its its':List Value} {n:Nat} {f:Array Value->Array Value} {t':Nat} (I:Inv X pins σ H s) (hH:H l = some (.lst xs))
  (e:s.heap.get? l = some { cls:=.type "list",data:=.seq its.toArray n }) (hf:f its.toArray = its'.toArray) (hv:Vals ys its') (hz:ys.length <= sizeLine) :
  Inv X pins σ (upd H l (.lst ys)) { s with heap:=s.heap.update l (Obj.mapSeq f),toks:=t' }:=by
 have q:=PySem.IsL.update e f;rw [hf] at q;refine I.write (x:=l) (e:=l) (by rw [hH];exact trivial) (.inl rfl) (λb' u hb hu=>(Heap.get?_update_other s.heap (Obj.mapSeq f) (Ne.symm hb)).trans hu) ⟨_,q⟩ ?_;exact ⟨hz,its',_,hv,q⟩
theorem Inv.lnew  (I:Inv X pins σ H s) (hv:Vals ys its) (hz:ys.length <= sizeLine) :
  Inv X pins σ (upd H s.heap.objs.size (.lst ys)) { s with heap:=s.heap.push { cls:=.type "list",data:=.seq its.toArray },toks:=t' }:=
 I.laid (λ_ _ q=>YAc _ q) (YAm _) ⟨hz,its,0,hv,YAp _ rfl⟩
theorem Inv.fresh (I:Inv X pins σ H s):H s.heap.objs.size = none:=I.hok.fresh (YAm _)
theorem Inv.lstM (I:Inv X pins σ H s) (hH:H l = some (.lst xs)):xs.length <= sizeLine/\∃ (its:List Value) (n:Nat),Vals xs its/\xs.length = its.length/\s.heap.get? l = some { cls:=.type "list",data:=.seq its.toArray n }:=by
 obtain ⟨z,its,n,r,e⟩:=I.hok l _ hH;exact ⟨z,its,n,r,r.length,e⟩
theorem zkb {n:Nat} (h:n <= sizeLine):Builtin.List.listTooLong n = false:=by
 unfold Builtin.List.listTooLong;exact YAz (by omega)
end
section
variable {X:Cx}
def zpd:V->List V->Hp->VK->Prop:=λx vs H Q=>∃ l xs y,x = .ref l/\vs = [y]/\H l = some (.lst xs)/\xs.length < sizeLine/\Q .non (upd H l (.lst (xs ++ [y])))
theorem zbY:MtM X "list.append" zpd:=by
 intro pins s σ H x vs v us Q I rx rv h;obtain ⟨l,xs,y,rfl,rfl,hH,hz,q⟩:=h;cases rx;obtain ⟨u,rfl,ru⟩:=rv.one;obtain ⟨z,its,n,r,hl,e⟩:=I.lstM hH;refine call_meets F.slot_list_append ⟨_,e,rfl⟩ F.entry_list_append (F.args_list_append_2 _ _) (PySem.list_append l its.toArray n u (by rw [YAq];omega)) ⟨e,?_⟩;refine ⟨.non,_,I.lset (its':=its ++ [u]) hH e (by simp) (r.append (.cons ru .nil)) ?_,rfl,q⟩;rw [YAs,YBr];omega
def zps:V->List V->Hp->VK->Prop:=λx vs H Q=>∃ l b xs zs,x = .ref l/\vs = [.ref b]/\H l = some (.lst xs)/\H b = some (.lst zs)/\xs.length + zs.length <= sizeLine/\Q .non (upd H l (.lst (xs ++ zs)))
theorem zlL:MtM X "list.extend" zps:=by
 intro pins s σ H x vs v us Q I rx rv h;obtain ⟨l,b,xs,zs,rfl,rfl,hH,hB,hz,q⟩:=h;cases rx;obtain ⟨u,rfl,ru⟩:=rv.one;cases ru;obtain ⟨z,its,n,r,hl,e⟩:=I.lstM hH;obtain ⟨z2,its2,n2,r2,hl2,e2⟩:=I.lstM hB;have hsz:its.toArray.size + its2.toArray.size <= sizeLine:=by rw [YAq,YAq];omega
 have hlong:¬ (!its.toArray.isEmpty && Builtin.List.listTooLong (its.toArray.size + its2.toArray.size)) = true:=by
  rw [zkb hsz,Bool.and_false];exact YAx
 refine call_meets F.slot_list_extend ⟨_,e,rfl⟩ F.entry_list_extend (F.args_list_extend_2 _ _)
  (AutoSeq1.list_extend_list_list_0 l its.toArray n b its2.toArray n2 hlong (by rw [YAq];omega) (by omega)) ⟨e,e2,?_⟩
 refine ⟨.non,_,I.lset (its':=its ++ its2) hH e (by simp) (r.append r2) ?_,rfl,q⟩;rw [YAs];omega
def rCat:R2:=λx y H Q=>∃ l b xs zs,x = .ref l/\y = .ref b/\H l = some (.lst xs)/\H b = some (.lst zs)/\xs.length + zs.length <= sizeLine/\∀ p,H p = none->Q (.ref p) (upd H p (.lst (xs ++ zs)))
theorem op_cat:OpR X (binaryOp .Add) rCat:=by
 intro pins s σ H x y v u Q I rx ry h;obtain ⟨l,b,xs,zs,rfl,rfl,hH,hB,hz,q⟩:=h;cases rx;cases ry;obtain ⟨z,its,n,r,hl,e⟩:=I.lstM hH;obtain ⟨z2,its2,n2,r2,hl2,e2⟩:=I.lstM hB;refine PySem.P.add_list e e2 ?_ (by rw [YAq,YAq];omega);have ea:its.toArray ++ its2.toArray = (its ++ its2).toArray:=by simp
 rw [ea];exact ⟨.ref _,_,I.lnew (t':=s.toks) (r.append r2) (by rw [YAs];omega),rfl,q _ I.fresh⟩
def rRep:R2:=λx y H Q=>∃ l k xs,x = .ref l/\y = .int k/\H l = some (.lst xs)/\-(2 ^ 63) <= k/\k < 2 ^ 63/\xs.length * k.toNat <= sizeLine /\
 ∀ p,H p = none->Q (.ref p) (upd H p (.lst (List.replicate k.toNat xs).flatten))
theorem zpp {α:Type} (xs:List α) (k:Nat):(List.replicate k xs).flatten.length = k * xs.length:=by
 induction k with
 | zero=>simp
 | succ k ih=>rw [YAS,YBk,YAs,ih,Nat.succ_mul,Nat.add_comm]
theorem zms:OpR X (binaryOp .Mult) rRep:=by
 intro pins s σ H x y v u Q I rx ry h;obtain ⟨l,k,xs,rfl,rfl,hH,h1,h2,hz,q⟩:=h;cases rx;obtain ⟨t,rfl⟩:=ry;obtain ⟨z,its,n,r,hl,e⟩:=I.lstM hH;have hlen:its.toArray.size * k.toNat <= sizeLine:=by rw [YAq,<- hl];exact hz
 have hcap:¬ its.toArray.size * k.toNat > (2 ^ 63 - 1) / 8:=by
  have:(sizeLine:Nat) <= (2 ^ 63 - 1) / 8:=by decide
  omega
 have hfit:¬ (!Builtin.List.listFitsIndex k) = true:=by
  rw [fitsIndex_both h1 h2];exact YAx
 have hlong:¬ Builtin.List.listTooLong (its.toArray.size * k.toNat) = true:=by
  rw [zkb hlen];exact YAx
 have hnew:List.foldl (λx1 x2=>x1 ++ x2) #[] (List.replicate (if its.toArray.isEmpty = true then 0 else k.toNat) its.toArray) = (List.replicate k.toNat its).flatten.toArray:=by
  have f0:∀ m:Nat,List.foldl (λx1 x2=>x1 ++ x2) #[] (List.replicate m its.toArray) = (List.replicate m its).flatten.toArray:=λm=>by
   have:=ziu its m []
   rw [YBh] at this;exact this
  rw [f0];cases its with
  | nil=>simp
  | cons a r'=>rw [if_neg (by simp)]
 refine wpAny_binaryOp_repeat_ref (T := "list") (U := "int") (by decide) ⟨_,e,rfl⟩ (λs'=>typeIs_int s' k t) noFill_list_mul F.fills_int_mul F.slot_int_rmul repeat_list F.slot_int_index.lookup
  (call_meets F.slot_int_rmul (typeIs_int s k t) F.entry_int_rmul (F.args_int_rmul_2 _ _) (int___rmul___int_list k t l its.toArray n)
   ⟨e,rfl,⟨_,e,rfl⟩,call_meets F.slot_list_mul ⟨_,e,rfl⟩ F.entry_list_mul (F.args_list_mul_2 _ _) (AutoListH.list___mul___list_int_3 l its.toArray n k t hfit hcap hlong) ⟨e,?_⟩⟩)
 rw [hnew];exact ⟨.ref _,_,I.lnew (t':=s.toks) (r.rep k.toNat) (by rw [zpp,Nat.mul_comm];exact hz),rfl,q _ I.fresh⟩
end
end L2
namespace Att
open PySem PySem.W PySem.Calls PyProof.Rows
theorem zff {P:Params} {h:Heap}:∀ (ns:List Int) (vs:List Value),WellAll P h vs (ns.map WData.int)->IntsAre vs ns:=by
 intro ns
 induction ns with
 | nil=>
  intro vs w;rw [List.map_nil] at w;cases w;exact .nil
 | cons n ns ih=>
  intro vs w;rw [YAb] at w;cases w with
  | cons a b=>
   cases a;exact .cons _ _ (ih _ b)
theorem zmU {l:OpenLaw} {n:Nat} (hn:l.most = some n) {P:Params} {h:Heap} {args:List WData} {vals:List Value}
  (hpre:l.row.toRowW.claim.pre args = true) (hwl:WellAll P h vals args) :
  ∃ a vs ns,vals = [Value.ref a]/\args = [WData.list (ns.map WData.int)]/\h.get? a = some { cls:=.type "list",data:=.seq vs.toArray }/\IntsAre vs ns/\ns.length <= n:=by
 have hsh:WShape.hasAll [] args [.list .int] = true:=(pre_splitW hpre).1;have hc:l.pre.holds [] { args:=args } = true:=(pre_splitW hpre).2;obtain ⟨d,r,rfl,h1,h2⟩:=hasAllW_cons hsh;obtain rfl:=hasAllW_nil h2;obtain ⟨xs,rfl,h3⟩:=hasW_list h1;obtain ⟨ns,rfl⟩:=items_int h3;have hlen:ns.length <= n:=by
  unfold OpenLaw.pre at hc;have h4:(WTm.not (.lt (.lit (.int (n:Int))) (.len (.arg 0)))).holds [] { args:=[.list (ns.map .int)] } = true:=by
   have h4:=(holds_andW hc).1;rw [hn] at h4;exact h4
  have h5:=condW_of h4 (w_not (w_lt w_lit (w_len_list (w_arg rfl))));rw [YAd] at h5;refine Nat.le_of_not_lt λq=>?_;have q':(n:Int) < ((ns.length:Nat):Int):=by omega
  first
   | (rw [YAl q'] at h5;exact absurd h5 (by decide))
   | (simp at h5;omega)
 cases hwl with
 | cons w1 w2=>
  cases w2;cases w1 with
  | list ho hall=>exact ⟨_,_,ns,rfl,rfl,ho,zff ns _ hall,hlen⟩
theorem zmd (l:OpenLaw) (args:List WData):l.row.toRowW.claim.post args (.bool true) args = true:=
 postW_of (r:=l.row.toRowW) (X:=(true == true))
  (show WShape.has [] (.bool true) .bool = true by first | rfl | decide | simp [WShape.has,WShape.arms,WShape.armsAll])
  (show (WTm.eq .res (.lit (.bool true))).value [] { args:=args,res:=some (.bool true),after:=args } = some (.bool (true == true)) from w_eq_bool (w_res rfl) w_lit) rfl
theorem attach_call {l:OpenLaw} {n:Nat} {q:Program} {loose:List Str} {XP:(Str->Option Value)->Heap->Prop} {YP:World->Heap->Prop} {d:DefRec}
  (hn:l.most = some n) (hdf:d.params.defaults = [])
  (call:∀ (w:World) (s₀ s₁:Shared) (mg mb:Str->Option Value) (fa:Addr) (o:Obj) (pm cd doc:Value) (a:Addr) (vs:List Value) (ns:List Int),
   Ground q loose [] XP w s₀ mg mb s₁.heap->YP w s₁.heap ->
   s₁.heap.get? fa = some o->o.data = .func (docDef d.name d.params d.body d.scope pm cd doc)->s₁.heap.CodeRec cd d.name->mg d.name = some (.ref fa) ->
   s₁.heap.get? a = some { cls:=.type "list",data:=.seq vs.toArray }->IntsAre vs ns->ns.length <= n->s₁.gens = #[] ->
   codeAny (model l.prog w) callerA (.call (.ref fa) ⟨[.ref a],[]⟩) (λr s'=>r = .ok (.ret (.bool true))/\OldK s₁.heap s'.heap/\s'.os = s₁.os/\AllBare s'.gens) s₁) :
  WalkO q loose XP YP l.row.toRowW d [] (λf vs=>PySem.call f vs):=by
 intro w s₀ s₁ mg mb G Y fa o pm cd doc dV kV ho hd hcd hD hmg hg args vals as hpre hlay hrd hwl hlo;obtain rfl:dV = .none:=Dflts.none hD hdf;obtain rfl:kV = .none:=Dflts.noKw hD;obtain ⟨a,vs,ns,rfl,rfl,hobj,hints,hlen⟩:=zmU hn hpre hwl;refine enter_call (codeAny_mono (call w s₀ s₁ mg mb fa o pm cd doc a vs ns G Y ho (fd_plain hd) hcd hmg hobj hints hlen hg) λr s' hq=>?_);obtain ⟨rfl,h2,h3,h4⟩:=hq;exact ⟨.inl ⟨.bool true,.bool true,[],rfl,λ_=>rfl,.bool true,zmd l _,λ_=>⟨List.Pairwise.nil,λ_ hm=>(nomatch hm)⟩⟩,h2,h3,h4⟩
end Att
namespace L2
open PySem PySem.Spec PyProof.Rows
theorem ziN:∀ {vs:List Value} {ns:List Int},IntsAre vs ns->Vals (ns.map V.int) vs
 | _,_,.nil=>.nil
 | _,_,.cons n t h=>.cons ⟨t,rfl⟩ (ziN h)
def Only (H:Hp):Prop:=∀ b,H b = none\/∃ o xs,H b = some (.frz o (.lst xs))
theorem znN {P:Program} {w:World} {K:PySem.W.Frag} {mg mb:Str->Option Value} {CX:CXT} {k:Nat} {fa a:Addr} {fd:FuncData} {x:Str} {sp:Sp} {s₁:Shared} {vs:List Value} {ns:List Int}
  (KX:K.In s₁.heap) (hns:s₁.heap.Ns mainGlobals mg) (hb:s₁.heap.Ns builtinsNs mb) (hbb:∀ x:Str,x ≠ "__name__" -> mb x = bootBuiltins x) (hlim:s₁.heap.NoLimit) (hg:s₁.gens = #[])
  (ha:s₁.heap.get? a = some { cls:=.type "list",data:=.seq vs.toArray }) (hi:IntsAre vs ns) (hl:ns.length <= sizeLine) (hr:Room k callerA)
  (F:∀ base:Heap,K.In base->base.Ns mainGlobals mg->FnOk P w K mg base CX k fa fd [x] sp) (hbind:∀ (s:Shared) (u:Value),BindsTo s fd ⟨[u],[]⟩ [(x,u)])
  (hsp:∀ H:Hp,Only H->SqL K H a (ns.map V.int)->sp [.ref a] H (λv _=>v = .bl true) λ_ _ _=>False)
  (hCX:∀ H e s',CX [] H s₁ (λ_ _ _=>False) e s'->False) :
  codeAny (model P w) callerA (.call (.ref fa) ⟨[.ref a],[]⟩) (λr s'=>r = .ok (.ret (.bool true))/\OldK s₁.heap s'.heap/\s'.os = s₁.os/\AllBare s'.gens) s₁:=by
 have rv:=ziN hi;have lenV:=hi.length
 -- from an abstract heap in which nothing but the script may be tracked
 have core:∀ H:Hp,Only H->SqL K H a (ns.map V.int)->HOk P w H s₁.heap->(∀ b,H b ≠ none->b = a)->(H a ≠ none->K.lookup a = none) ->
   codeAny (model P w) callerA (.call (.ref fa) ⟨[.ref a],[]⟩) (λr s'=>r = .ok (.ret (.bool true))/\OldK s₁.heap s'.heap/\s'.os = s₁.os/\AllBare s'.gens) s₁:=by
  intro H hO hS hok hA hK;have base_of:∀ {b:Addr} {o:Obj},s₁.heap.get? b = some o->H b = none->(hidT s₁.heap H).get? b = some o:=λe n=>zok e n;have noA:∀ {b:Addr} {o:Obj} {es:Array DictEntry} {ep:Nat},s₁.heap.get? b = some o->o.data = .dict es ep->H b = none:=λ{b o es ep} e d=>by
   cases q:H b with
   | none=>rfl
   | some u=>
    have e':b = a:=hA b (by rw [q];simp);subst e';rw [ha] at e;cases e;have d':Data.seq vs.toArray _ = Data.dict es ep:=d;cases d'
  have nsK:∀ {b:Addr} {m:Str->Option Value},s₁.heap.Ns b m->(hidT s₁.heap H).Ns b m:=λ{b m} ⟨o,es,ep,e,d,r⟩=>⟨o,es,ep,base_of e (noA e d),d,r⟩;have hKb:K.In (hidT s₁.heap H):=λb o e=>base_of (KX b o e) (by
   cases q:H b with
   | none=>rfl
   | some u=>
    have e':b = a:=hA b (by rw [q];simp);subst e';rw [hK (by rw [q];simp)] at e;cases e)
  have hM:Mod K mg (hidT s₁.heap H):=⟨hKb,nsK hns,⟨mb,nsK hb,hbb⟩,let ⟨mc,h1,h2⟩:=hlim;⟨mc,nsK h1,h2⟩⟩;have e0:Env0 P w K mg (hidT s₁.heap H) callerA [] s₁ H:=⟨rfl,hM,λb o e=>zpr e,Nat.le_of_eq (zm4 _ _),trivial,λb hb=>absurd (show b ∈ ([]:List Addr) from hb) (by simp),hok,.of_eq hg⟩;refine codeAny_mono ((F _ hKb (nsK hns)).run callerA [] s₁ H ⟨[.ref a],[]⟩ [.ref a] [.ref a] _ _ hr e0 (hbind s₁ (.ref a)) (.cons rfl .nil) (hsp H hO hS)) λr s' h=>?_;cases r with
  | error e=>exact (hCX H e s' h).elim
  | ok fl=>
   cases fl with
   | next=>exact False.elim h
   | brk=>exact False.elim h
   | cont=>exact False.elim h
   | ret u=>
    obtain ⟨v,H',os,bare,un,hok',r',q⟩:=h;have q':v = .bl true:=q;subst q';obtain rfl:u = Value.bool true:=r';refine ⟨rfl,OldK.of_keep λb o e=>?_,os,bare⟩;cases q:H b with
    | none=>exact un.keep b o e q (by intro z;exact absurd (show b ∈ ([]:List Addr) from z) (by simp)) (by simp)
    | some u=>
     rcases hO b with z | ⟨ob,xs,z⟩
     ·rw [q] at z;cases z
     ·have z2:=un.frzs b ob _ z;obtain ⟨e1,_⟩:=hok b _ z;obtain ⟨e2,_⟩:=hok' b _ z2;rw [e] at e1;cases e1;exact e2
 cases hk:K.lookup a with
 | some o=>
  -- the script is one of the module's own objects
  have e:=KX a o hk;rw [ha] at e;cases e;refine core (λ_=>none) (λ_=>.inl rfl) (.inr ⟨_,vs.toArray,_,hk,rfl,rfl,rfl,by rw [YAq,lenV];exact hl,by simpa using rv⟩) (λb u z=>by have z':(none:Option HO) = some u:=z;cases z') (λb z=>absurd rfl z) λz=>absurd rfl z
 | none=>
  refine core (λb=>if b = a then some (.frz { cls:=.type "list",data:=.seq vs.toArray } (.lst (ns.map V.int))) else none) (λb=>?_) (.inl (.inr ⟨{ cls:=.type "list",data:=.seq vs.toArray },if_pos rfl⟩)) (λb u z=>?_) (λb z=>?_) λ_=>hk
  ·by_cases hb:b = a
   ·exact .inr ⟨_,_,if_pos hb⟩
   ·exact .inl (if_neg hb)
  ·by_cases hb:b = a
   ·have z':=(if_pos hb).symm.trans z;cases z';subst hb;exact ⟨ha,by rw [YAd];exact hl,vs,_,rv,ha⟩
   ·have z':=(if_neg hb).symm.trans z;cases z'
  ·by_cases hb:b = a
   ·exact hb
   ·exact absurd (if_neg hb) z
theorem zpA {l:PySem.W.OpenLaw} {n k:Nat} {q:Program} {loose:List Str} {XP:(Str->Option Value)->Heap->Prop} {YP:World->Heap->Prop} {d:DefRec} {K:Params->PySem.W.Frag} {CX:World->CXT} {sp:World->Sp} {x:Str}
  (hn:l.most = some n) (hn2:n <= sizeLine) (hdf:d.params.defaults = []) (hr:Room k callerA)
  (hY:∀ (w:World) (h:Heap),YP w h->(K w.params).In h)
  (F:∀ (w:World) (mg:Str->Option Value) (fa:Addr) (h:Heap),(K w.params).In h->h.Ns mainGlobals mg->mg d.name = some (.ref fa) ->
   ∃ fd:FuncData,(∀ (s:Shared) (u:Value),BindsTo s fd ⟨[u],[]⟩ [(x,u)]) /\
    ∀ base:Heap,(K w.params).In base->base.Ns mainGlobals mg->FnOk l.prog w (K w.params) mg base (CX w) k fa fd [x] (sp w))
  (hsp:∀ (w:World) (H:Hp) (a:Addr) (ns:List Int),ns.length <= n->Only H->SqL (K w.params) H a (ns.map V.int)->sp w [.ref a] H (λv _=>v = .bl true) λ_ _ _=>False)
  (hCX:∀ (w:World) (H:Hp) (s:Shared) (e:Value) (s':Shared),CX w [] H s (λ_ _ _=>False) e s'->False) :
  PySem.W.WalkO q loose XP YP l.row.toRowW d [] (λf vs=>PySem.call f vs):=by
 refine Att.attach_call hn hdf λw s₀ s₁ mg mb fa o pm cd doc a vs ns G Y ho hd hcd hmg hobj hints hlen hg=>?_;have KX:=hY w _ Y;obtain ⟨fd,hb,hF⟩:=F w mg fa _ KX G.T.g hmg;exact znN KX G.T.g G.T.b G.T.builtins G.T.nolimit hg hobj hints (YAK hlen hn2) hr hF hb (λH hO hS=>hsp w H a ns hlen hO hS) λH e s'=>hCX w H s₁ e s'
def zc8 (s:Stmt):Arguments:=match s with
 | .FunctionDef _ a _ _ _ _ _ _ _ _=>a
 | _=>{ posonlyargs:=[],args:=[],vararg:=none,kwonlyargs:=[],kw_defaults:=[],kwarg:=none,defaults:=[] }
def zbZ (s:Stmt):List Stmt:=match s with
 | .FunctionDef _ _ b _ _ _ _ _ _ _=>b
 | _=>[]
def zas (s:Stmt):Scope:=match s with
 | .FunctionDef _ _ _ _ _ _ sc _ _ _=>sc
 | _=>{ kind:=.function,names:=[],isGenerator:=false,isCoroutine:=false }
abbrev CX0:CXT:=λ_ _ _ _ _ _=>False
abbrev E0:XK:=λ_ _ _=>False
theorem zpR:zlm CX0 X E0:=λ_ _ _ _ _ _ _ h=>h.elim
structure Fun (K:PySem.W.Frag) (x qual:Str) (st:Stmt) (f:Addr) (fd:FuncData):Prop where
 ex:∃ (oc:Value) (od:Option Addr) (kV doc pm:Value) (an:Option Addr) (cdv ct:Value) (osl:Array (Option Value)),
  fd = PySem.W.fnOf x qual (zc8 st) (zbZ st) (zas st) .none kV doc pm an cdv ct/\K.lookup f = some ⟨oc,od,.func fd,osl⟩/\PySem.W.codeIn K cdv qual = true
 kp:PySem.W.keepIn K (.ref f) = true
section
variable {P:Program} {w:World} {K:PySem.W.Frag} {mg:Str->Option Value} {base:Heap}
theorem Fun.ok {x qual:Str} {st:Stmt} {f:Addr} {fd:FuncData} {N ps:List Str} {k:Nat} {sp:Sp} (F:Fun K x qual st f fd) (S:FnScope N ps (zas st)) (len:∀ vs H Q E,sp vs H Q E->vs.length = ps.length)
  (hbody:∀ (cdv:Value) (A:Around) (outer:List Env) (s:Shared) (H:Hp) (vs:List V) (Q:VK) (E:XK),Room k (A.deeper (envOfC qual (zas st) s.heap.objs.size f cdv))->sp vs H Q E ->
   ∃ t,PSs (cxOf CX0 P w K mg base N qual (zas st) f cdv A outer s H E).nox (zbZ st) t/\t { nx:=λ_ H'=>Q .non H',rt:=Q } (start N vs) H):FnOk P w K mg base CX0 (k + 1) f fd ps sp:=by
 obtain ⟨oc,od,kV,doc,pm,an,cdv,ct,osl,rfl,lk,hcd⟩:=F.ex;refine zrP lk hcd S len λA outer s H vs Q E hr hsp=>?_;obtain ⟨t,h,q⟩:=hbody cdv A outer s H vs Q E hr hsp;exact ⟨t,h.nox,q⟩
theorem Fun.binds {x qual:Str} {st:Stmt} {f:Addr} {fd:FuncData} {ps:List Str} (F:Fun K x qual st f fd)
  (h:∀ (kV doc pm:Value) (an:Option Addr) (cdv ct:Value) (us:List Value),us.length = ps.length->bindArgs (PySem.W.fnOf x qual (zc8 st) (zbZ st) (zas st) .none kV doc pm an cdv ct) ⟨us,[]⟩ = pure (ps.zip us)):Binds K fd ps []:=by
 obtain ⟨oc,od,kV,doc,pm,an,cdv,ct,osl,rfl,lk,hcd⟩:=F.ex;exact .all (h kV doc pm an cdv ct)
theorem zqA {x qual:Str} {st:Stmt} {f:Addr} {oc:Value} {od an:Option Addr} {osl:Array (Option Value)} {kV doc pm cdv ct:Value} (l:K.lookup f = some ⟨oc,od,.func (PySem.W.fnOf x qual (zc8 st) (zbZ st) (zas st) .none kV doc pm an cdv ct),osl⟩)
  (c:PySem.W.codeIn K cdv qual = true) (k:PySem.W.keepIn K (.ref f) = true):Fun K x qual st f (PySem.W.fnOf x qual (zc8 st) (zbZ st) (zas st) .none kV doc pm an cdv ct):=⟨⟨oc,od,kV,doc,pm,an,cdv,ct,osl,rfl,l,c⟩,k⟩
end
theorem zn2  (hr:Room k A):A.units + 1 < cLine:=Nat.lt_of_le_of_lt (Nat.add_le_add_left (by decide:1 <= 64) _) hr.units
section
variable {X:Cx}
theorem pv (i:Nat)  (hN:X.N[i]? = some x:=by rfl) (hv:Vis X.env.scope x:=by first | exact Or.inl rfl | exact Or.inr (Or.inl rfl) | exact Or.inr (Or.inr rfl)) (hd:(x == ("__debug__" : Str)) = false:=by decide)
  (hcd:(x == ("__classdict__" : Str)) = false:=by decide):PE X (.Name x pos) (tVar i):=zdV hN hv hd hcd
end
theorem iteF {A B:Prop} (h:B):if false = true then A else B:=by
 rw [if_neg YAx];exact h
theorem iteT {A B:Prop} (h:A):if true = true then A else B:=by
 rw [if_pos rfl];exact h
theorem ite2 {c A B:Prop} [Decidable c] (h1:c->A) (h2:¬ c->B):if c then A else B:=by
 by_cases h:c
 ·rw [if_pos h];exact h1 h
 ·rw [if_neg h];exact h2 h
theorem zrG {c A B:Prop} [Decidable c] (hc:c) (h:B):if (!decide c) = true then A else B:=by
 rw [YAl hc];exact iteF h
def Same (H H':Hp):Prop:=∀ b o,H b = some o->H' b = some o
theorem Same.refl (H:Hp):Same H H:=λ_ _ h=>h
theorem Same.trans {H H1 H2:Hp} (a:Same H H1) (b:Same H1 H2):Same H H2:=λc o h=>b c o (a c o h)
theorem Same.free {H H':Hp} (e:Same H H') {l:Addr} (h:H' l = Option.none):H l = Option.none:=by
 cases q:H l with
 | none=>rfl
 | some o=>
  rw [e l o q] at h;cases h
theorem Same.seq {K:PySem.W.Frag} {H H':Hp} {a:Addr} {xs:List V} (e:Same H H') (h:SqL K H a xs):SqL K H' a xs:=by
 rcases h with (h | ⟨o,h⟩) | h
 ·exact .inl (.inl (e _ _ h))
 ·exact .inl (.inr ⟨o,e _ _ h⟩)
 ·exact .inr h
section
variable {κ:Type} [DecidableEq κ]
def valV (kvs:List (κ × V)) (k:κ):Option V:=(kvs.find? λkv=>decide (kv.1 = k)).map (·.2)
def putK (kvs:List (κ × V)) (k:κ) (v:V):List (κ × V):=
 if (kvs.any λkv=>decide (kv.1 = k)) = true then kvs.map (λkv=>if kv.1 = k then (kv.1,v) else kv) else kvs ++ [(k,v)]
theorem zeY {p:κ × V} {r:List (κ × V)} {k:κ} (e:p.1 = k):valV (p :: r) k = some p.2:=by simp [valV,YBE,e]
theorem zeT {p:κ × V} {r:List (κ × V)} {k:κ} (e:¬ p.1 = k):valV (p :: r) k = valV r k:=by simp [valV,YBE,e]
theorem zek (k:κ):∀ kvs:List (κ × V),(kvs.any λkv=>decide (kv.1 = k)) = (valV kvs k).isSome
 | []=>rfl
 | p :: r=>by
  rw [YBL];by_cases e:p.1 = k
  ·simp only [zeY e,YAl e,Bool.true_or,Option.isSome_some]
  ·rw [zeT e,YAz e,Bool.false_or];exact zek k r
theorem zdx (kvs:List (κ × V)) (k:κ) (v:V):(putK kvs k v).length <= kvs.length + 1:=by
 unfold putK;split
 ·rw [YAd];omega
 ·rw [YAs,YAE,List.length_nil];omega
theorem zjF {kvs:List (κ × V)} {k:κ} (v:V) (h:valV kvs k = none):putK kvs k v = kvs ++ [(k,v)]:=by
 unfold putK;rw [zek,h];exact if_neg (by decide)
theorem RelO.isSome_eq  (r:RelO o u):o.isSome = u.isSome:=by
 cases o with
 | none=>cases u with
  | none=>rfl
  | some _=>exact (show False from r).elim
 | some _=>cases u with
  | none=>exact (show False from r).elim
  | some _=>rfl
theorem KV.val {kvs:List (κ × V)} {vs:List (κ × Value)} (r:KV kvs vs) (k:κ):RelO (valV kvs k) (valueAt vs k):=by
 unfold KV at r
 induction r with
 | nil=>exact True.intro
 | @cons p q ps qs h t ih=>
  obtain ⟨h1,h2⟩:=h;by_cases e:p.1 = k
  ·have e':q.1 = k:=h1.symm.trans e;have b:valueAt (q :: qs) k = some q.2:=by simp [valueAt,YBE,e']
   rw [zeY e,b];exact h2
  ·have e':¬ q.1 = k:=λz=>e (h1.trans z);have b:valueAt (q :: qs) k = valueAt qs k:=by simp [valueAt,YBE,e']
   rw [zeT e,b];exact ih
theorem KV.any  (r:KV kvs vs) (k:κ):(kvs.any λkv=>decide (kv.1 = k)) = vs.any λkv=>decide (kv.1 = k):=by
 unfold KV at r
 induction r with
 | nil=>rfl
 | cons h t ih=>rw [YBL,YBL,ih,h.1]
theorem KV.repl  (r:KV kvs vs) (k:κ)  (ry:RelV y u) :
  KV (kvs.map λkv=>if kv.1 = k then (kv.1,y) else kv) (vs.map λkv=>if kv.1 = k then (kv.1,u) else kv):=by
 unfold KV at r ⊢
 induction r with
 | nil=>exact .nil
 | @cons p q ps qs h t ih=>
  rw [YAb,YAb];refine .cons ?_ ih;obtain ⟨h1,h2⟩:=h;by_cases e:p.1 = k
  ·rw [if_pos e,if_pos (h1.symm.trans e)];exact ⟨h1,ry⟩
  ·rw [if_neg e,if_neg (λz=>e (h1.trans z))];exact ⟨h1,h2⟩
theorem KV.put  (r:KV kvs vs) (k:κ)  (ry:RelV y u):KV (putK kvs k y) (stored vs k u):=by
 unfold putK stored;rw [r.any k];by_cases e:(vs.any λkv=>decide (kv.1 = k)) = true
 ·rw [if_pos e,if_pos e];exact r.repl k ry
 ·rw [if_neg e,if_neg e];exact Paired.snoc r ⟨rfl,ry⟩
theorem KV.length  (r:KV kvs vs):kvs.length = vs.length:=Paired.length r
end
theorem zlv   (r:RelV (kV k) u):(zaO P w).is k u = true:=by
 cases k with
 | inl i=>obtain ⟨t,e⟩:=(show ∃ t,u = Value.int i t from r);subst e;exact zjq P w i t
 | inr x=>obtain ⟨t,e⟩:=(show ∃ t,u = Value.str x t from r);subst e;exact zi2 P w x t
theorem zhK  : ∀ {ks:List Key} {us:List Value},Vals (ks.map kV) us->ItemsAre (zaO P w) ks us
 | [],_,r=>by rw [List.map_nil] at r;cases r;exact .nil
 | k :: ks,_,r=>by
  rw [YAb] at r;cases r with
  | cons h t=>exact .cons (zlv h) (zhK t)
abbrev KT (H:Hp):List (List Key × V)->List (List Key × Addr × Value)->Prop:=Paired λp q=>p.1 = q.1/\H q.2.1 = some (.tup (p.1.map kV))/\RelV p.2 q.2.2
theorem KT.val {H:Hp} {kvs:List (List Key × V)} {xs:List (List Key × Addr × Value)} (r:KT H kvs xs) (k:List Key):RelO (valV kvs k) ((atKey xs k).map (·.2)):=by
 induction r with
 | nil=>exact True.intro
 | @cons p q ps qs h t ih=>
  obtain ⟨h1,_,h2⟩:=h;by_cases e:p.1 = k
  ·have e':q.1 = k:=h1.symm.trans e;have b:atKey (q :: qs) k = some q.2:=by simp [atKey,YBE,e']
   rw [zeY e,b];exact h2
  ·have e':¬ q.1 = k:=λz=>e (h1.trans z);have b:atKey (q :: qs) k = atKey qs k:=by simp [atKey,YBE,e']
   rw [zeT e,b];exact ih
theorem KT.repl  (r:KT H kvs xs) (k:List Key)  (ry:RelV y u) :
  KT H (kvs.map λkv=>if kv.1 = k then (kv.1,y) else kv) (xs.map (putAt k u)):=by
 induction r with
 | nil=>exact .nil
 | @cons p q ps qs h t ih=>
  rw [YAb,YAb];refine .cons ?_ ih;obtain ⟨h1,h2,h3⟩:=h;unfold putAt;by_cases e:p.1 = k
  ·rw [if_pos e,if_pos (h1.symm.trans e)];exact ⟨h1,h2,ry⟩
  ·rw [if_neg e,if_neg (λz=>e (h1.trans z))];exact ⟨h1,h2,h3⟩
theorem KT.put  (r:KT H kvs xs) (k:List Key)  (hb:H b = some (.tup (k.map kV))) (ry:RelV y u) :
  KT H (putK kvs k y) (storedH xs k b u):=by
 have e:(kvs.any λkv=>decide (kv.1 = k)) = (atKey xs k).isSome:=by
  rw [zek,(r.val k).isSome_eq,Option.isSome_map]
 unfold putK storedH;rw [e];by_cases q:(atKey xs k).isSome = true
 ·rw [if_pos q,if_pos q];exact r.repl k ry
 ·rw [if_neg q,if_neg q];exact Paired.snoc r ⟨rfl,hb,ry⟩
theorem KT.keeps  (r:KT H kvs xs) (ht:∀ b ys,H b = some (.tup ys)->H' b = some (.tup ys)):KT H' kvs xs:=
 Paired.mapP r λ_ _ z=>⟨z.1,ht _ _ z.2.1,z.2.2⟩
section
variable {P:Program} {w:World} {H:Hp} {h:Heap} {a:Addr}
theorem zq4 (ok:HOk P w H h) (e:Rd H a u):ObjOk P w H h a u:=e.ok ok
theorem zmi (ok:HOk P w H h) (e:Rd H a (.dK kvs)):kvs.length <= sizeLine/\(a == sysModules) = false/\∃ vs,KV kvs vs/\h.DictOf (zaO P w) a vs:=
 show ObjOk P w H h a (.dK kvs) from zq4 ok e
theorem zm0 (ok:HOk P w H h) (e:H a = some (.dK kvs)):kvs.length <= sizeLine/\(a == sysModules) = false/\∃ vs,KV kvs vs/\h.DictOf (zaO P w) a vs:=zmi ok (.inl e)
theorem zjJ (ok:HOk P w H h) (e:H a = some (.tup (ks.map kV))):(tupleKind (zaO P w)).is h ks a:=by
 obtain ⟨_,its,r,o,h1,h2,n,h3⟩:=(show ObjOk P w H h a (.tup (ks.map kV)) from ok a _ e);exact ⟨o,its.toArray,n,h1,h2,h3,by simpa using zhK r⟩
theorem zlC (ok:HOk P w H h) (e:Rd H a (.dT kvs)):kvs.length <= sizeLine/\(a == sysModules) = false /\
  ∃ xs,KT H kvs xs/\h.DictOfH (tupleKind (zaO P w)) a xs:=by
 obtain ⟨z,y,xs,r,o,es,ep,h1,h2,h3,h4,h5⟩:=(show ObjOk P w H h a (.dT kvs) from zq4 ok e);refine ⟨z,y,xs,r,o,es,ep,h1,h2,h3,h4,λx hx=>?_,h5⟩;have all:∀ {l:List (List Key × V)} {m:List (List Key × Addr × Value)},KT H l m->∀ x ∈ m,(tupleKind (zaO P w)).is h x.1 x.2.1:=by
  intro l m q
  induction q with
  | nil=>intro x hx;exact nomatch hx
  | @cons p q ps qs hq t ih=>
   intro x hx;rcases YAk.mp hx with e | hx
   ·subst e;exact zjJ ok (by rw [<- hq.1];exact hq.2.1)
   ·exact ih x hx
 exact all r x hx
theorem zrQ (ok:HOk P w H h) (e:H a = some (.dT kvs)):kvs.length <= sizeLine/\(a == sysModules) = false /\
  ∃ xs,KT H kvs xs/\h.DictOfH (tupleKind (zaO P w)) a xs:=zlC ok (.inl e)
end
def DGet (H:Hp) (a:Addr) (y:V) (r:Option V):Prop:=
 (∃ kvs k,Rd H a (.dK kvs)/\y = kV k/\r = valV kvs k)\/∃ kvs k b,Rd H a (.dT kvs)/\y = .ref b/\H b = some (.tup (k.map kV))/\r = valV kvs k
def DPut (H:Hp) (a:Addr) (y v:V) (H':Hp):Prop:=
 (∃ kvs k,H a = some (.dK kvs)/\y = kV k/\kvs.length < sizeLine/\H' = upd H a (.dK (putK kvs k v))) \/
 ∃ kvs k b,H a = some (.dT kvs)/\y = .ref b/\H b = some (.tup (k.map kV))/\kvs.length < sizeLine/\H' = upd H a (.dT (putK kvs k v))
theorem DGet.k {H:Hp} {a:Addr} {kvs:List (Key × V)} {k:Key} (e:H a = some (.dK kvs)):DGet H a (kV k) (valV kvs k):=.inl ⟨kvs,k,.inl e,rfl,rfl⟩
theorem DPut.k {H:Hp} {a:Addr} {kvs:List (Key × V)} {k:Key} {v:V} (e:H a = some (.dK kvs)) (hl:kvs.length < sizeLine):DPut H a (kV k) v (upd H a (.dK (putK kvs k v))):=.inl ⟨kvs,k,e,rfl,hl,rfl⟩
section
variable {X:Cx} {pins:List (Addr × Obj)} {σ:St} {H:Hp} {s:Shared} {a:Addr} {y v:V} {u r:Value} {o:Option V} {A:Around} {E:Value->Shared->Prop}
theorem Inv.big (I:Inv X pins σ H s):sysModules < s.heap.objs.size:=by
 have h:mainGlobals < s.heap.objs.size:=(I.mod.glob.keeps I.bk).lt;exact Nat.lt_trans (by decide) h
theorem zmn (hu:A.units + 1 < cLine) (I:Inv X pins σ H s) (g:DGet H a y (some v)) (ry:RelV y u) (h:∀ w' s',Inv X pins σ H s'->RelV v w'->Q w' s') :
  wpAny (model X.prog X.w) A (getItem (.ref a) u) Q E s:=by
 rcases g with ⟨kvs,k,e,ey,l⟩ | ⟨kvs,k,b,e,ey,eb,l⟩
 ·subst ey;obtain ⟨z,hd,vs,rel,dd⟩:=zmi I.hok e;obtain ⟨w',hw,rw'⟩:=RelO.some_of (v:=v) (o:=valueAt vs k) (by rw [l];exact rel.val k);exact wpAny_getItem_of (zlv ry) dd.mapOf hw (h w' _ (I.tok _) rw')
 ·subst ey;cases (show u = Value.ref b from ry);obtain ⟨z,hd,xs,rel,dd⟩:=zlC I.hok e;obtain ⟨w',hw,rw'⟩:=RelO.some_of (v:=v) (o:=(atKey xs k).map (·.2)) (by rw [l];exact rel.val k);obtain ⟨p,hp,hp2⟩:=Option.map_eq_some_iff.mp hw;refine wpAny_getItem_heap (tupleKind_room_in1 hu) (zjJ I.hok eb) dd hp ?_;rw [hp2];exact h w' _ (I.tok _) rw'
theorem zpL (hu:A.units + 1 < cLine) (I:Inv X pins σ H s) (g:DGet H a y o) (ry:RelV y u) (h:∀ s',Inv X pins σ H s'->Q (.bool (!o.isSome)) s') :
  wpAny (model X.prog X.w) A (compareOp .NotIn u (.ref a)) Q E s:=by
 rcases g with ⟨kvs,k,e,ey,l⟩ | ⟨kvs,k,b,e,ey,eb,l⟩
 ·subst ey;obtain ⟨z,hd,vs,rel,dd⟩:=zmi I.hok e;refine wpAny_notIn_of (zlv ry) hd dd.mapOf ?_;rw [<- (rel.val k).isSome_eq,<- l];exact h _ (I.tok _)
 ·subst ey;cases (show u = Value.ref b from ry);obtain ⟨z,hd,xs,rel,dd⟩:=zlC I.hok e;refine wpAny_notIn_heap (tupleKind_room_in1 hu) (zjJ I.hok eb) hd dd ?_;have q:=(rel.val k).isSome_eq;rw [Option.isSome_map] at q;rw [<- q,<- l];exact h _ (I.tok _)
theorem zjb  (I:Inv X pins σ H s) (mu:Mut (H a)) (hs:Heap.SameBut a s.heap h') (he:∃ q,h'.get? a = some q) (new:ObjOk X.prog X.w (upd H a ob) h' a ob) :
  Inv X pins σ (upd H a ob) { s with heap:=h',toks:=t' }:=
 I.write (x:=a) (e:=a) mu (.inl rfl) (λb q hb z=>(hs.2 b hb).trans z) he new
theorem zom    (z:kvs.length <= sizeLine) (hd:(a == sysModules) = false) (rel:KV kvs vs) (dd:h'.DictOf (zaO P w) a vs) :
  ObjOk P w H' h' a (.dK kvs):=⟨z,hd,vs,rel,dd⟩
theorem zmL  (hu:A.units + 1 < cLine) (I:Inv X pins σ H s) (g:DPut H a y v H') (ry:RelV y u) (rv:RelV v r) (h:∀ s',Inv X pins σ H' s'->Q () s') :
  wpAny (model X.prog X.w) A (setItem (.ref a) u r) Q E s:=by
 rcases g with ⟨kvs,k,e,ey,l,eH⟩ | ⟨kvs,k,b,e,ey,eb,l,eH⟩
 ·subst ey eH;obtain ⟨z,hd,vs,rel,dd⟩:=zm0 I.hok e;have hz:vs.length <= sizeLine:=by rw [<- rel.length];exact z
  have hl:(putK kvs k v).length <= sizeLine:=by have:=zdx kvs k v;omega
  refine wpAny_setItem_pairs (hsz:=hz) (zlv ry) dd λh' dd' hs=>h _ ?_;have he:∃ q,h'.get? a = some q:=let ⟨q,_,_,hq,_⟩:=dd';⟨q,hq⟩
  exact zjb I (by rw [e];exact True.intro) hs he (zom hl hd (rel.put k rv) dd')
 ·subst ey eH;cases (show u = Value.ref b from ry);obtain ⟨z,hd,xs,rel,dd⟩:=zrQ I.hok e;have hz:xs.length <= sizeLine:=by rw [<- Paired.length rel];exact z
  have hl:(putK kvs k v).length <= sizeLine:=by have:=zdx kvs k v;omega
  refine wpAny_setItem_heap (hsz:=hz) (tupleKind_room_in1 hu) (zjJ I.hok eb) dd λh' dd' hs=>h _ ?_;obtain ⟨q,es,ep,hq,h2,h3,h4,_,h5⟩:=dd';refine zjb I (by rw [e];exact True.intro) hs ⟨q,hq⟩ ⟨hl,hd,_,(rel.put k eb rv).keeps λc ys ec=>?_,q,es,ep,hq,h2,h3,h4,h5⟩;rw [zaf (zro ec e (λz=>nomatch z))];exact ec
end
def NoSl (i:Expr):Prop:=∀ ov iv,subscripted i false ov iv = operate [ov,iv] (getItem ov iv)
theorem zpv {prog:Program} {w:World} {A:Around} {E:Value->Shared->Prop} {s:Shared} {env:Env} {value slice:Expr} {pos:Pos} {T id:String} {Q:Value->Shared->Prop}
  (hl:typeLookup (.type T) "__getitem__" = pure (some (.builtin id))) (hs:NoSl slice)
  (h:wpAny (model prog w) A (eval value env) (λo s₁=>wpAny (model prog w) A (eval slice env) (λi s₂=>s₂.TypeIs o T/\wpAny (model prog w) A (getItem o i) Q E s₂) E s₁) E s) :
  wpAny (model prog w) A (eval (.Subscript value slice pos) env) Q E s:=by
 refine Subscript_ (YA0 h (λo s₁ h₁=>YA0 h₁ (λi s₂ h₂=>?_) λ_ _ x=>x) λ_ _ x=>x);obtain ⟨hT,h₂⟩:=h₂;unfold subscriptTail;refine YAa ?_;rw [getitemInPython_of_ne hT.not_modules];refine YAa (wpAny_specialOf hT hl ?_);have fin:wpAny (model prog w) A (subscripted slice false o i) (λr s₃=>wpAny (model prog w) A (letTemporaryGo value o r >>= λ_=>pure r) Q E s₃) E s₂:=by
  rw [hs o i];exact wpAny_operating (YA0 h₂ (λr s₃ h₃=>YAa (wpAny_letTemporaryGo (YAf h₃))) λ_ _ x=>x)
 first
  | exact YAf (YAa fin)
  | exact YAa (YAf (YAa fin))
  | exact YAa fin
theorem ziZ     (I:Inv X pins σ H s) (g:DGet H a y o):s.TypeIs (.ref a) "dict" := by
 rcases g with ⟨kvs,k,e,_,_⟩ | ⟨kvs,k,b,e,_,_,_⟩
 ·obtain ⟨_,_,vs,_,dd⟩:=zmi I.hok e;exact dd.typeIs
 ·obtain ⟨_,_,xs,_,dd⟩:=zlC I.hok e;exact dd.typeIs
def zrF (td ty:TE):TE:=λσ H Q=>td σ H λx H1=>ty σ H1 λy H2=>∃ a v,x = .ref a/\DGet H2 a y (some v)/\Q v H2
def zoL (ty td:TE):TE:=λσ H Q=>ty σ H λy H1=>td σ H1 λx H2=>∃ a o,x = .ref a/\DGet H2 a y o/\Q (.bl (!o.isSome)) H2
def zrC (td ty tv:TE):TS:=λD σ H=>tv σ H λv H1=>td σ H1 λx H2=>ty σ H2 λy H3=>∃ a H4,x = .ref a/\DPut H3 a y v H4/\D.nx σ H4
section
variable {X:Cx} {o i e value:Expr} {pos pos' tpos:Pos} {td ty tv:TE}
theorem zgG (hu:X.A.units + 1 < cLine) (ho:PE X o td) (hi:PE X i ty) (hs:NoSl i):PE X (.Subscript o i pos) (zrF td ty):=by
 intro pins s σ H Q I h;refine zpv PySem.F.slot_dict_getitem.lookup hs (thn (ho pins s σ H _ I h) λu s1 ⟨x,H1,I1,rx,q1⟩=>thn (hi pins s1 σ H1 _ I1 q1) λiv s2 ⟨y,H2,I2,ry,a,v,ex,g,q2⟩=>?_);subst ex;obtain rfl:u = Value.ref a:=rx;exact ⟨ziZ I2 g,zmn hu I2 g ry λw' s3 I3 rw'=>⟨v,H2,I3,rw',q2⟩⟩
theorem zfj (hu:X.A.units + 1 < cLine) (hi:PE X i ty) (ho:PE X o td):PC X .NotIn i o (zoL ty td):=by
 intro pins s σ H Q I h;refine thn (hi pins s σ H _ I h) λiv s1 ⟨y,H1,I1,ry,q1⟩=>thn (ho pins s1 σ H1 _ I1 q1) λu s2 ⟨x,H2,I2,rx,a,ov,ex,g,q2⟩=>?_;subst ex;obtain rfl:u = Value.ref a:=rx;exact zpL hu I2 g ry λs3 I3=>⟨.bl (!ov.isSome),H2,I3,rfl,q2⟩
theorem zoO (hu:X.A.units + 1 < cLine) (ho:PE X o td) (hi:PE X i ty) (hv:PE X value tv) (hs:swapsWith value (some (.Subscript o i pos')) pos.line X.env = pure false) :
  PS X (.Assign [.Subscript o i pos'] value pos) (zrC td ty tv):=by
 intro pins s σ H D I h;refine wpAny_Assign_Subscript (thn (hv pins s σ H _ I h) λr s1 ⟨v,H1,I1,rv,q1⟩=>thn (ho pins s1 σ H1 _ I1 q1) λu s2 ⟨x,H2,I2,rx,q2⟩=>thn (hi pins s2 σ H2 _ I2 q2) λiv s3 ⟨y,H3,I3,ry,a,H4,ex,g,q3⟩=>?_) hs;subst ex;obtain rfl:u = Value.ref a:=rx;exact zmL hu I3 g ry rv λs4 I4=>⟨σ,H4,I4,q3⟩
end
theorem zj5  (h:Heap) (hb:sysModules < h.objs.size):ObjOk P w H (h.push { cls:=.type "dict",data:=.dict #[] }) h.objs.size (.dK []):=
 ⟨YAF _,beq_eq_false_iff_ne.mpr (Ne.symm (YAw hb)),[],.nil,Heap.DictOf.new h⟩
def zq9:TE:=λ_ H Q=>∀ p,H p = none->Q (.ref p) (upd H p (.dK []))
section
variable {X:Cx} {pos:Pos}
theorem zjy:PE X (.Dict [] [] pos) zq9:=λpins s σ H Q I h=>
 wpAny_Dict_empty ⟨.ref s.heap.objs.size,_,I.laid (a:=s.heap.objs.size) (o:=.dK []) (t':=s.toks) (λ_ _ q=>YAc _ q) (YAm _) (zj5 s.heap I.big),rfl,h _ (I.hok.fresh (YAm _))⟩
end
def zlc:List (TE × TE)->St->Hp->(List (V × V)->Hp->Prop)->Prop
 | [],_,H,Q=>Q [] H
 | (tk,tv) :: r,σ,H,Q=>tk σ H λx H1=>tv σ H1 λy H2=>zlc r σ H2 λps H3=>Q ((x,y) :: ps) H3
abbrev VV:List (V × V)->List (Value × Value)->Prop:=Paired λp q=>RelV p.1 q.1/\RelV p.2 q.2
def PPs (X:Cx) (pos:Pos) (keys:List (Option Expr)) (values:List Expr) (trs:List (TE × TE)):Prop:=
 ∀ (pins:List (Addr × Obj)) (s:Shared) (σ:St) (H:Hp) (Q:List (V × V)->Hp->Prop),Inv X pins σ H s->zlc trs σ H Q ->
  wpAny (model X.prog X.w) X.A (evalPairs (pairTrees keys values X.env pos)) (λvs s'=>∃ ps H',Inv X pins σ H' s'/\VV ps vs/\Q ps H') X.xe s
theorem zpS  : PPs X pos [] [] []:=λpins s σ H Q I h=>pairTrees_nil_walk ⟨[],H,I,.nil,h⟩
theorem zn6    (hk:PE X k tk) (hv:PE X v tv) (hr:PPs X pos ks vs trs) :
  PPs X pos (some k :: ks) (v :: vs) ((tk,tv) :: trs):=λpins s σ H Q I h=>
 pairTrees_cons_walk (thn (hk pins s σ H _ I h) λu s1 ⟨x,H1,I1,rx,q1⟩=>thn (hv pins s1 σ H1 _ I1 q1) λw2 s2 ⟨y,H2,I2,ry,q2⟩=>
  thn (hr pins s2 σ H2 _ I2 q2) λws s3 ⟨ps,H3,I3,rel,q3⟩=>⟨(x,y) :: ps,H3,I3,.cons ⟨rx,ry⟩ rel,q3⟩)
def mergeK (kvs more:List (Key × V)):List (Key × V):=more.foldl (λacc kv=>putK acc kv.1 kv.2) kvs
theorem KV.merge:∀ {more:List (Key × V)} {rs:List (Key × Value)} {kvs:List (Key × V)} {vs:List (Key × Value)},KV more rs->KV kvs vs->KV (mergeK kvs more) (merged vs rs):=by
 intro more rs kvs vs r;unfold KV at r
 induction r generalizing kvs vs with
 | nil=>intro q;exact q
 | @cons p q ps qs h t ih=>
  intro r0;have e:KV (putK kvs p.1 p.2) (stored vs q.1 q.2):=by
   have:=r0.put p.1 h.2
   rw [<- h.1];exact this
  exact ih e
theorem zcF:∀ (more kvs:List (Key × V)),(mergeK kvs more).length <= kvs.length + more.length
 | [],kvs=>by show kvs.length <= kvs.length + 0;omega
 | p :: r,kvs=>by
  have h1:=zcF r (putK kvs p.1 p.2);have h2:=zdx kvs p.1 p.2;show (mergeK (putK kvs p.1 p.2) r).length <= _;rw [YAE];omega
theorem zf9  : ∀ {kvs:List (Key × V)} {ws:List (Value × Value)},VV (kvs.map λkv=>(kV kv.1,kv.2)) ws->∃ rs,Carries (zaO P w) ws rs/\KV kvs rs
 | [],_,r=>by rw [List.map_nil] at r;cases r;exact ⟨[],True.intro,.nil⟩
 | p :: kvs,_,r=>by
  rw [YAb] at r;cases r with
  | @cons a b as bs h t=>
   obtain ⟨rs,c,q⟩:=zf9 (P:=P) (w:=w) t;obtain ⟨b1,b2⟩:=b;exact ⟨(p.1,b2) :: rs,⟨zlv h.1,rfl,c⟩,.cons ⟨rfl,h.2⟩ q⟩
def zrU (trs:List (TE × TE)):TE:=λσ H Q=>∀ p,H p = none->zlc trs σ (upd H p (.dK [])) λps H2=>H2 p = some (.dK [])/\∃ kvs:List (Key × V),ps = kvs.map (λkv=>(kV kv.1,kv.2))/\kvs.length <= 15/\Q (.ref p) (upd H2 p (.dK (mergeK [] kvs)))
theorem zoZ   (h:PPs X pos keys values trs) (hall:keys.all (·.isSome) = true) (hl:keys.length = values.length) (h0:keys ≠ [])
  (h15:keys.length <= 15):PE X (.Dict keys values pos) (zrU trs):=by
 intro pins s σ H Q I q;have hn:=I.hok.fresh (YAm s.heap.objs.size);have I1:=I.laid (a:=s.heap.objs.size) (o:=.dK []) (h':=s.heap.push { cls:=.type "dict",data:=.dict #[] }) (t':=s.toks) (λ_ _ q=>YAc _ q) (YAm _) (zj5 s.heap I.big);refine wpAny_Dict_walk (knd:=zaO X.prog X.w) hall hl h0 h15 (thn (h pins _ σ _ _ I1 (q _ hn)) λws s2 ⟨ps,H2,I2,rel,e,kvs,ep,lk,q2⟩=>?_);subst ep;obtain ⟨rs,c,rk⟩:=zf9 (P:=X.prog) (w:=X.w) rel;obtain ⟨z,hd,vs0,r0,dd⟩:=zm0 I2.hok e;cases r0;refine ⟨rs,c,dd,λh' dd' hs=>⟨.ref s.heap.objs.size,_,?_,rfl,q2⟩⟩;have hz:(mergeK [] kvs).length <= sizeLine:=by
  have h1:=zcF kvs [];rw [List.length_nil] at h1;rw [YAR];omega
 have he:∃ q,h'.get? s.heap.objs.size = some q:=let ⟨q,_,_,hq,_⟩:=dd';⟨q,hq⟩
 exact zjb I2 (by rw [e];exact True.intro) hs he (zom hz hd (rk.merge .nil) dd')
structure M1 (X:Cx) (o:Expr) (m:Str) (apos:Pos) (e:Expr) (cpos:Pos):Prop where
 base:attributeBase o m X.env (eval o X.env) = eval o X.env
 few:((backTo cpos (starEach [e] X.env)).all (λx=>!x.1) && (backToKw cpos (keywordEach [] X.env)).all (λx=>x.1.isSome)
  && decide (([e]:List Expr).length + ([]:List Keyword).length + (if ([]:List Keyword).isEmpty then 0 else 1) < 30)) = true
 line:(apos.endLine == cpos.line) = true
 trees:backTo cpos (starEach [e] X.env) = [(false,eval e X.env)]
def IsD (H:Hp) (a:Addr):Prop:=(∃ kvs,Rd H a (.dK kvs))\/∃ kvs,Rd H a (.dT kvs)
theorem zp3    (I:Inv X pins σ H s) (d:IsD H a) :
  s.TypeIs (.ref a) "dict" /\ (∀ b,Value.ref a = .ref b->∃ ob,s.heap.get? b = some ob/\ob.dict = none)/\(a == sysModules) = false:=by
 rcases d with ⟨kvs,e⟩ | ⟨kvs,e⟩
 ·obtain ⟨_,hd,vs,_,dd⟩:=zmi I.hok e;refine ⟨dd.typeIs,λb q=>?_,hd⟩;cases q;obtain ⟨ob,_,_,h1,h2,_⟩:=dd;exact ⟨ob,h1,h2.2.1⟩
 ·obtain ⟨_,hd,xs,_,dd⟩:=zlC I.hok e;refine ⟨dd.typeIs,λb q=>?_,hd⟩;cases q;obtain ⟨ob,_,_,h1,h2,_⟩:=dd;exact ⟨ob,h1,h2.2.1⟩
section
variable {κ:Type} [DecidableEq κ]
theorem znO {kvs:List (κ × V)} {k:κ} (h:valV kvs k = none):¬ k ∈ kvs.map (·.1):=by
 intro m;obtain ⟨p,hp,e⟩:=YAD.mp m;have q:(kvs.any λkv=>decide (kv.1 = k)) = true:=List.any_eq_true.mpr ⟨p,hp,YAl e⟩;rw [zek,h] at q;exact absurd q (by simp)
theorem zk7 {kvs:List (κ × V)} {k:κ} {v:V} (h:valV kvs k = some v):k ∈ kvs.map (·.1):=by
 have q:(kvs.any λkv=>decide (kv.1 = k)) = true:=by
  rw [zek,h]
  all_goals rfl
 obtain ⟨p,hp,e⟩:=List.any_eq_true.mp q;exact YAD.mpr ⟨p,hp,YAM e⟩
theorem zhm:∀ {l:List κ} {k:κ},l.Nodup->¬ k ∈ l->(l ++ [k]).Nodup
 | [],k,_,_=>by simp
 | a :: r,k,h,hk=>by
  obtain ⟨h1,h2⟩:=YBf.mp h;show (a :: (r ++ [k])).Nodup;refine YBf.mpr ⟨λm=>?_,zhm h2 λm=>hk (YAk.mpr (Or.inr m))⟩;rcases YAr.mp m with q | q
  ·exact h1 q
  ·exact hk (YAk.mpr (Or.inl (YAg.mp q).symm))
end
end L2
set_option maxHeartbeats 4000000
namespace L2
open PySem PySem.Spec PyProof.Rows
def zrd (σ:St):Option Nat->Option V
 | none=>none
 | some j=>(σ[j]?).join
def za8 (sub:List (Option Nat)) (σ:St):St:=sub.map (zrd σ)
theorem zdG (sub:List (Option Nat)) (σ:St):(za8 sub σ).length = sub.length:=by unfold za8;simp
theorem zcW {sub:List (Option Nat)} {σ:St} {i:Nat} {v:V} (h:(za8 sub σ)[i]? = some (some v)):∃ j,sub[i]? = some (some j)/\σ[j]? = some (some v):=by
 unfold za8 at h;rw [YAu] at h;cases e:sub[i]? with
 | none=>rw [e] at h;cases h
 | some o=>
  rw [e] at h;have h':zrd σ o = some v:=Option.some.inj h;cases o with
  | none=>cases h'
  | some j=>
   refine ⟨j,rfl,?_⟩;have h2:(σ[j]?).join = some v:=h';cases e2:σ[j]? with
   | none=>rw [e2] at h2;cases h2
   | some w=>rw [e2] at h2;exact congrArg some h2
def zge (N:List Str) (osc sc:Scope) (Nc:List Str) (sub:List (Option Nat)):Bool:=
 decide (sc.kind = .function) && sc.names.all (λy=>decide (y.2 ≠ .cell)) && sc.names.all (λy=>!decide (y.2 = .local) || decide (sc.names.lookup y.1 = some .local)) && decide (sub.length = Nc.length) &&
 (Nc.zip sub).all (λp=>match p.2 with | none=>true | some j=>decide (N[j]? = some p.1) && decide (sc.names.lookup p.1 = some .free)) &&
 sc.names.all (λy=>!decide (y.2 = .free) || (decide (osc.names.lookup y.1 = some .cell) || decide (osc.names.lookup y.1 = some .free)))
structure CompScope (N:List Str) (osc sc:Scope) (Nc:List Str) (sub:List (Option Nat)):Prop where
 kind:sc.kind = .function
 nocell:∀ y ∈ sc.names,y.2 ≠ .cell
 names:∀ y ∈ sc.names,y.2 = .local->sc.names.lookup y.1 = some .local
 len:sub.length = Nc.length
 vis:∀ (i j:Nat) (x:Str),Nc[i]? = some x->sub[i]? = some (some j)->N[j]? = some x/\sc.names.lookup x = some .free
 frees:∀ y ∈ sc.names,y.2 = .free->osc.names.lookup y.1 = some .cell\/osc.names.lookup y.1 = some .free
theorem CompScope.of {N:List Str} {osc sc:Scope} {Nc:List Str} {sub:List (Option Nat)} (h:zge N osc sc Nc sub = true):CompScope N osc sc Nc sub:=by
 unfold zge at h;simp only [YAL,YBi,decide_eq_true_eq,Bool.or_eq_true,Bool.not_eq_true',decide_eq_false_iff_not] at h;obtain ⟨⟨⟨⟨⟨h1,h2⟩,h3⟩,h4⟩,h5⟩,h6⟩:=h;refine ⟨h1,h2,λy hy e=>(h3 y hy).elim (λz=>absurd e z) id,h4,λi j x e1 e2=>?_,λy hy e=>(h6 y hy).elim (λz=>absurd e z) id⟩;have hz:(Nc.zip sub)[i]? = some (x,some j):=by
  rw [List.getElem?_zip_eq_some];exact ⟨e1,e2⟩
 have q:=h5 (x,some j) (YAA hz);simp only [YAL,decide_eq_true_eq] at q;exact q
def clOf (cells:List (Str × Addr)):List (Str × NameKind)->List (Str × Addr)->List (Str × Addr)
 | [],acc=>acc
 | (n,k) :: r,acc=>clOf cells r (if k = .free then (n,(cells.lookup n).getD 0) :: acc else acc)
theorem zg1:∀ (names:List (Str × NameKind)) (acc:List (Str × Addr)),(∀ y ∈ names,y.2 = .free->∃ c,env.cells.lookup y.1 = some c) ->
  (forIn names acc λx r=>match x with | (name,kind)=>if (kind == NameKind.free) = true then do let a <- cellOf env name;pure (ForInStep.yield ((name,a) :: r)) else pure (ForInStep.yield r):Sem (List (Str × Addr))) = pure (clOf env.cells names acc):=by
 intro names
 induction names with
 | nil=>intro acc _;rfl
 | cons y r ih=>
  intro acc h;obtain ⟨n,k⟩:=y;have ih':=ih (if k = .free then (n,(env.cells.lookup n).getD 0) :: acc else acc) λy hy=>h y (YAj _ hy);rw [List.forIn_cons];by_cases hk:k = .free
  ·subst hk;obtain ⟨c,hc⟩:=h (n,.free) YAh rfl;have e1:cellOf env n = pure c:=by unfold cellOf;rw [hc]
   simp only [beq_self_eq_true,if_true,e1,pure_bind];unfold clOf;rw [hc] at ih' ⊢
   simpa using ih'
  ·have hb:(k == NameKind.free) = false:=by simpa using hk
   simp only [hb,YA2,YBM,pure_bind];unfold clOf;rw [if_neg hk] at ih' ⊢;exact ih'
theorem znV:∀ (names:List (Str × NameKind)) (acc:List (Str × Addr)),(∀ y ∈ names,y.2 = .free->∃ c,cells.lookup y.1 = some c)->(∀ p ∈ acc,cells.lookup p.1 = some p.2) ->
  ∀ p ∈ clOf cells names acc,cells.lookup p.1 = some p.2:=by
 intro names
 induction names with
 | nil=>intro acc _ h;exact h
 | cons y r ih=>
  intro acc h ha;obtain ⟨n,k⟩:=y;refine ih _ (λy hy=>h y (YAj _ hy)) ?_;by_cases hk:k = .free
  ·rw [if_pos hk];intro p hp;rcases YAk.mp hp with e | e
   ·subst e;obtain ⟨c,hc⟩:=h (n,k) YAh hk;show cells.lookup n = some ((cells.lookup n).getD 0);have hc':cells.lookup n = some c:=hc;rw [hc'];rfl
   ·exact ha p e
  ·rw [if_neg hk];exact ha
theorem zlr  : ∀ (names:List (Str × NameKind)) (acc:List (Str × Addr)),p ∈ acc->p ∈ clOf cells names acc:=by
 intro names
 induction names with
 | nil=>intro acc h;exact h
 | cons y r ih=>
  intro acc h;obtain ⟨n,k⟩:=y;refine ih _ ?_;by_cases hk:k = .free
  ·rw [if_pos hk];exact YAj _ h
  ·rw [if_neg hk];exact h
theorem znX  : ∀ (names:List (Str × NameKind)) (acc:List (Str × Addr)),(x,NameKind.free) ∈ names->∃ c,(x,c) ∈ clOf cells names acc:=by
 intro names
 induction names with
 | nil=>intro acc h;cases h
 | cons y r ih=>
  intro acc h;obtain ⟨n,k⟩:=y;rcases YAk.mp h with e | e
  ·cases e;refine ⟨(cells.lookup x).getD 0,?_⟩;unfold clOf;refine zlr _ _ ?_;rw [if_pos rfl];exact YAh
  ·exact ih _ e
theorem zd4 {α:Type} {x:Str} {c:α}:∀ {l:List (Str × α)},(x,c) ∈ l->∃ d,l.lookup x = some d
 | [],h=>by cases h
 | (y,d) :: r,h=>by
  by_cases e:x = y
  ·subst e;exact ⟨d,by simp [List.lookup]⟩
  ·have hb:(x == y) = false:=beq_eq_false_iff_ne.mpr e;rcases YAk.mp h with q | q
   ·cases q;exact absurd rfl e
   ·obtain ⟨d',q'⟩:=zd4 q;exact ⟨d',by simp only [List.lookup,hb];exact q'⟩
theorem zbx  (h:∀ y ∈ scope.names,y.2 = .free->∃ c,env.cells.lookup y.1 = some c) :
  ∃ cl,closureFor scope env = pure cl/\(∀ x c,cl.lookup x = some c->env.cells.lookup x = some c)/\∀ x,scope.names.lookup x = some .free->∃ c,cl.lookup x = some c:=by
 refine ⟨clOf env.cells scope.names [],?_,λx c e=>?_,λx e=>?_⟩
 ·unfold closureFor;show (forIn scope.names ([]:List (Str × Addr)) (λx r=>match x with | (name,kind)=>if (kind == NameKind.free) = true then do let a <- cellOf env name;pure (ForInStep.yield ((name,a) :: r)) else pure (ForInStep.yield r)) >>= λcs=>pure cs:Sem (List (Str × Addr))) = _;rw [zg1 scope.names [] h,pure_bind]
 ·exact znV scope.names [] h (λp hp=>nomatch hp) (x,c) (YBp e)
 ·obtain ⟨c,hc⟩:=znX (cells:=env.cells) scope.names [] (YBp e);exact zd4 hc
theorem zbT {env:Env}:∀ {names:List (Str × NameKind)} {x:Str},names.lookup x = some .free ->
  (names.map λ(n,k)=>if (k == NameKind.free && env.scope.kind == .function && env.kindOf n == some .cell) then (n,NameKind.cell) else (n,k)).lookup x = some .cell \/
  (names.map λ(n,k)=>if (k == NameKind.free && env.scope.kind == .function && env.kindOf n == some .cell) then (n,NameKind.cell) else (n,k)).lookup x = some .free
 | [],_,h=>by simp at h
 | (n,k) :: r,x,h=>by
  have ih:=@zbT env r x;show List.lookup x ((if (k == NameKind.free && env.scope.kind == .function && env.kindOf n == some .cell) = true then (n,NameKind.cell) else (n,k)) :: _) = _\/List.lookup x ((if (k == NameKind.free && env.scope.kind == .function && env.kindOf n == some .cell) = true then (n,NameKind.cell) else (n,k)) :: _) = _;cases hx:x == n with
  | true=>
   simp only [YBn,hx] at h;cases h;by_cases hc:(NameKind.free == NameKind.free && env.scope.kind == .function && env.kindOf n == some .cell) = true
   ·rw [if_pos hc];left;simp only [YBn,hx]
   ·rw [if_neg hc];right;simp only [YBn,hx]
  | false=>
   simp only [YBn,hx] at h;by_cases hc:(k == NameKind.free && env.scope.kind == .function && env.kindOf n == some .cell) = true
   ·rw [if_pos hc];simp only [YBn,hx];exact ih h
   ·rw [if_neg hc];simp only [YBn,hx];exact ih h
theorem zc0 {env:Env}:∀ {names:List (Str × NameKind)} {x:Str},(∀ y ∈ names,y.2 ≠ .cell) ->
  ((names.map λ(n,k)=>if (k == NameKind.free && env.scope.kind == .function && env.kindOf n == some .cell) then (n,NameKind.cell) else (n,k)).lookup x = some .cell \/
  (names.map λ(n,k)=>if (k == NameKind.free && env.scope.kind == .function && env.kindOf n == some .cell) then (n,NameKind.cell) else (n,k)).lookup x = some .free)->names.lookup x = some .free
 | [],_,_,h=>by simp at h
 | (n,k) :: r,x,nc,h=>by
  have ih:=@zc0 env r x λy hy=>nc y (YAj _ hy);have nk:k ≠ .cell:=nc (n,k) YAh;have h':List.lookup x ((if (k == NameKind.free && env.scope.kind == .function && env.kindOf n == some .cell) = true then (n,NameKind.cell) else (n,k)) :: (r.map λ(n,k)=>if (k == NameKind.free && env.scope.kind == .function && env.kindOf n == some .cell) then (n,NameKind.cell) else (n,k))) = some .cell\/List.lookup x ((if (k == NameKind.free && env.scope.kind == .function && env.kindOf n == some .cell) = true then (n,NameKind.cell) else (n,k)) :: (r.map λ(n,k)=>if (k == NameKind.free && env.scope.kind == .function && env.kindOf n == some .cell) then (n,NameKind.cell) else (n,k))) = some .free:=h;clear h;by_cases hc:(k == NameKind.free && env.scope.kind == .function && env.kindOf n == some .cell) = true
  ·rw [if_pos hc] at h';have kf:k = .free:=by
    rw [YAL,YAL] at hc;exact beq_iff_eq.mp hc.1.1
   cases hx:x == n with
   | true=>simp only [YBn,hx];rw [kf]
   | false=>simp only [YBn,hx] at h' ⊢;exact ih h'
  ·rw [if_neg hc] at h';cases hx:x == n with
   | true=>
    simp only [YBn,hx] at h' ⊢;rcases h' with e | e
    ·exact absurd (Option.some.inj e) nk
    ·exact e
   | false=>simp only [YBn,hx] at h' ⊢;exact ih h'
def zan (X:Cx) (Nc:List Str) (scope:Scope) (cl:List (Str × Addr)) (L:Addr) (s₀:Shared) (H₀:Hp) (ex:List Addr):Cx:=
 { X with N:=Nc,s₀:=s₀,H₀:=H₀,env:=compEnvC scope cl L X.env,outer:=X.stack,ex:=ex,fn:=λ_=>false,pn:=[],xe:=λ_ _=>False }
def zeP (sub:List (Option Nat)) (g:TG):Prop:=∀ v σ H (Q:St->Hp->Prop),g v σ H Q->g v σ H λσ2 H2=>Q σ2 H2/\∀ (i j:Nat),sub[i]? = some (some j)->σ2[i]? = σ[i]?
def zgd (sub:List (Option Nat)) (g:TGs):Prop:=∀ v σ H (Q:St->Hp->Prop),g v σ H Q->g v σ H λσ2 H2=>Q σ2 H2/\∀ (i j:Nat),sub[i]? = some (some j)->σ2[i]? = σ[i]?
theorem zeB  (h:sub[i]? = some none):zeP sub (zcR i):=λv σ H Q q=>by
 refine ⟨q,λk j e=>?_⟩;have ne:i ≠ k:=λz=>by subst z;rw [h] at e;cases e
 rw [YAG ne]
theorem zlX:zgd sub gNil:=λ_ _ _ _ ⟨e,q⟩=>⟨e,q,λ_ _ _=>rfl⟩
def zet (g:TG):Prop:=∀ v σ H (Q Q':St->Hp->Prop),(∀ σ2 H2,Q σ2 H2->Q' σ2 H2)->g v σ H Q->g v σ H Q'
def zfQ (g:TGs):Prop:=∀ v σ H (Q Q':St->Hp->Prop),(∀ σ2 H2,Q σ2 H2->Q' σ2 H2)->g v σ H Q->g v σ H Q'
theorem zbk:zet (zcR i):=λ_ _ _ _ _ f q=>f _ _ q
theorem zer:zfQ gNil:=λ_ _ _ _ _ f ⟨e,q⟩=>⟨e,f _ _ q⟩
theorem zby  (h1:zet t) (h2:zfQ u):zfQ (zeR t u):=λv σ H Q Q' f ⟨x,r,e,q⟩=>⟨x,r,e,h1 _ _ _ _ _ (λσ2 H2 z=>h2 _ _ _ _ _ f z) q⟩
theorem zqg {K:PySem.W.Frag} {n:Nat} {t:TGs} (h:zfQ t):zet (gTup K n t):=λv σ H Q Q' f ⟨a,xs,e,s,l,q⟩=>⟨a,xs,e,s,l,h _ _ _ _ _ f q⟩
theorem zdQ  (h1:zeP sub t) (m1:zet t) (h2:zgd sub u) (m2:zfQ u):zgd sub (zeR t u):=λv σ H Q ⟨x,r,e,q⟩=>by
 refine ⟨x,r,e,?_⟩;refine m1 _ _ _ _ _ (λσ2 H2 z=>?_) (h1 _ _ _ _ q);obtain ⟨z,k⟩:=z;refine m2 _ _ _ _ _ (λσ3 H3 y=>?_) (h2 _ _ _ _ z);exact ⟨y.1,λi j e=>(y.2 i j e).trans (k i j e)⟩
theorem zrh {K:PySem.W.Frag} {sub:List (Option Nat)} {n:Nat} {t:TGs} (h:zgd sub t):zeP sub (gTup K n t):=λv σ H Q ⟨a,xs,e,s,l,q⟩=>⟨a,xs,e,s,l,h _ _ _ _ q⟩
def PIfs (X:Cx) (ifs:List Expr) (t:TT):Prop:=
 ∀ (pins:List (Addr × Obj)) (s:Shared) (σ:St) (H:Hp) (Q:Bool->Hp->Prop),Inv X pins σ H s->t σ H Q ->
  wpAny (model X.prog X.w) X.A (forIn ifs true λc r=>if r = true then do let ok <- isTrue c X.env (eval c X.env);pure (ForInStep.yield ok) else pure (ForInStep.yield r)) (TP X pins σ Q) X.xe s
def zni:TT:=λ_ H Q=>Q true H
theorem pif0:PIfs X [] zni:=λ_ _ _ H _ I h=>wpAny_tests_nil ⟨H,I,h⟩
theorem pif1  (h:PT X c t):PIfs X [c] t:=λpins s σ H Q I q=>wpAny_tests_one (h pins s σ H Q I q)
def zhT (g:TG) (tc:TT) (te:TE) (σc:St) (l:Addr) (J:It) (H1:Hp) (Q:VK):Prop:=
 ∃ W:Nat->Nat->List V->Hp->Prop,(∃ m,W 0 m [] (upd H1 l (.lst [])))/\∀ i m xs H2,W i m xs H2->H2 l = some (.lst xs) /\
  ((J.stop i H2/\Q (.ref l) H2)\/(J.go i H2/\∃ N:List V->Hp->Prop,(∀ xs' H',N xs' H'->∃ m',m' < m/\W (i + 1) m' xs' H') /\
   ∀ x H',J.yld i H2 x H'->g x σc H' λσ2 H3=>tc σ2 H3 λb H4=>if b = true then te σ2 H4 λy H5=>H5 l = some (.lst xs)/\xs.length < sizeLine/\N (xs ++ [y]) (upd H5 l (.lst (xs ++ [y]))) else N xs H4))
def zmN (sub:List (Option Nat)) (wi:TI) (g:TG) (tc:TT) (te:TE):TE:=λσ H Q=>wi σ H λJ H1=>∀ l,H1 l = none->zhT g tc te (za8 sub σ) l J H1 Q
section
variable {X:Cx} {pins:List (Addr × Obj)} {σ:St} {H:Hp} {s:Shared} {scope:Scope} {Nc:List Str} {sub:List (Option Nat)} {elt tg iter:Expr} {ifs:List Expr} {pos:Pos} {g:TG} {tc:TT} {te:TE}
theorem zfr {cl:List (Str × Addr)} {fp:List Addr} {it:Addr} {J:It} {tn:Nat->Heap->Prop} (I:Inv X pins σ H s) (hS:CompScope X.N X.env.scope scope Nc sub)
  (hcl:∀ x c,cl.lookup x = some c->X.env.cells.lookup x = some c) (hcl2:∀ x,scope.names.lookup x = some .free->∃ c,cl.lookup x = some c)
  (hf:∀ b ∈ fp,FpOk X pins H b) (hlt:∀ b ∈ fp,b < s.heap.objs.size):(zan X Nc scope cl s.heap.objs.size s H fp).Ok where
 mod:=I.ok.mod
 kind:=hS.kind
 glob:=I.ok.glob
 blt:=I.ok.blt
 above:=YAm _
 inj:=λx y c e1 e2=>I.ok.inj x y c (hcl x c e1) (hcl y c e2)
 has:=λx h=>hcl2 x (zc0 (env:=X.env) hS.nocell h)
 cab:=λx c h=>by cases h
 hd:=I.ok.hd
 frames:=I.ok.frames
 stk:=.inl rfl
 exf:=λb hb=>⟨YAw (hlt b hb),λx c e=>(hf b hb).2.2.2.2.1 x c (hcl x c e)⟩
 bs:=I.bs
 bsz:=YAK I.ok.bsz I.sz
 noex:=λb o e hb=>by
  rcases (hf b hb).2.2.2.1 with z | z
  ·exact I.ok.noex b o e z
  ·exact absurd (YAv (YAn e) (YAK I.ok.bsz z)) (YA8 _)
 exfs:=λb hb hq=>by
  rcases YAk.mp (I.stkSub b hq) with z | z
  ·exact (hf b hb).2.1 z
  ·exact (hf b hb).2.2.1 z
 funs:=I.stack
 frf:=I.stkFree
theorem zc3 {cl:List (Str × Addr)} {fp:List Addr} {h1:Heap} {t':Nat} {m:Str->Option Value} (I:Inv X pins σ H s) (hS:CompScope X.N X.env.scope scope Nc sub)
  (hcl:∀ x c,cl.lookup x = some c->X.env.cells.lookup x = some c) (hcl2:∀ x,scope.names.lookup x = some .free->∃ c,cl.lookup x = some c)
  (ok:(zan X Nc scope cl s.heap.objs.size s H fp).Ok) (hn:h1.Ns s.heap.objs.size m) (hk:∀ b o,s.heap.get? b = some o->h1.get? b = some o) :
  Inv (zan X Nc scope cl s.heap.objs.size s H fp) [] (za8 sub σ) H { s with heap:=h1,toks:=t' } where
 ok:=ok
 os:=rfl
 bare:=I.bare
 base:=Un.kept hk
 loc:=by
  refine ⟨m,hn,λi x v e1 e2 _=>?_⟩;obtain ⟨j,e3,e4⟩:=zcW e2;obtain ⟨e5,e6⟩:=hS.vis i j x e1 e3;obtain ⟨m',_,hl⟩:=I.loc;have hfr:X.env.kindOf x = some .cell\/X.env.kindOf x = some .free:=hS.frees (x,.free) (YBp e6) rfl;obtain ⟨u,r,l⟩:=hl j x v e5 e4 (.inr hfr);refine ⟨u,r,?_⟩;rcases l with ⟨k,_⟩ | ⟨_,c,e,z⟩
  ·rcases hfr with q | q
   ·rw [k] at q;cases q
   ·rw [k] at q;cases q
  ·obtain ⟨c',e'⟩:=hcl2 x e6
   have:=hcl x c' e'
   rw [e] at this;cases this;exact .inr ⟨zbT (env:=X.env) e6,c,e',z.keeps hk⟩
 cell:=λx c e=>by
  obtain ⟨v,z⟩:=I.cell x c (hcl x c e);exact ⟨v,z.keeps hk⟩
 free:=I.hok.fresh (YAm _)
 freeC:=λx c e=>I.freeC x c (hcl x c e)
 pin:=λp hp=>absurd (show p ∈ ([]:List (Addr × Obj)) from hp) (by simp)
 hok:=I.hok.kept hk
 len:=(zdG sub σ).trans hS.len
theorem zep {cl:List (Str × Addr)} {fp:List Addr} {pinsC:List (Addr × Obj)} {σc:St} {H':Hp} {s':Shared} (I:Inv X pins σ H s) (hf:∀ b ∈ fp,FpOk X pins H b)
  (J:Inv (zan X Nc scope cl s.heap.objs.size s H fp) pinsC σc H' s'):Inv X pins σ H' s':=
 I.call' (ch:=fp) J.os J.base J.hok J.bare λb hb=>⟨(hf b hb).2.2.2.1,(hf b hb).2.1,(hf b hb).2.2.2.2.1,(hf b hb).2.2.2.2.2⟩
theorem zjZ {cl:List (Str × Addr)} {fp:List Addr} {it:Addr} {J:It} {tn:Nat->Heap->Prop} {E:Value->Shared->Prop} {Q:VK} {RR:Value->Addr->Result->Shared->Prop}
  (hc:X.calm = true) (I:Inv X pins σ H s) (hS:CompScope X.N X.env.scope scope Nc sub)
  (hcl:∀ x c,cl.lookup x = some c->X.env.cells.lookup x = some c) (hcl2:∀ x,scope.names.lookup x = some .free->∃ c,cl.lookup x = some c)
  (T:Turn X.prog X.w X.K tg J fp it tn) (st:tn 0 s.heap) (hf:∀ b ∈ fp,FpOk X pins H b)
  (hg:∀ cl L s0 H0 ex,PG (zan X Nc scope cl L s0 H0 ex) tg g) (gk:zeP sub g)
  (hi:∀ cl L s0 H0 ex,PIfs (zan X Nc scope cl L s0 H0 ex) ifs tc) (he:∀ cl L s0 H0 ex,PE (zan X Nc scope cl L s0 H0 ex) elt te)
  (gm:zet g) (q:∀ l,H l = none->zhT g tc te (za8 sub σ) l J H Q)
  (hRR:∀ l C H' s' m,Inv X pins σ H' s'->Q (.ref l) H'->s'.heap.Ns C m->s.heap.objs.size <= C->H' C = none->RR (.ref l) C (.ok .next) s') :
  wpAny (model X.prog X.w) X.A (newList []) (λacc s₃=>wpAny (model X.prog X.w) X.A (newFunctionEnv scope X.env.globals cl [] X.env.qual none .none (some X.env)) (λcenv s₄=>
   codeAny (model X.prog X.w) X.A (.compStart (.ListComp elt [⟨tg,iter,ifs,0⟩] scope pos) 0 (.ref it) acc { cenv with scope:=relabel scope X.env }) (RR acc cenv.locals) s₄) E s₃) E s:=by
 have hlt:∀ b ∈ fp,b < s.heap.objs.size:=λb hb=>let ⟨o,e,_⟩:=T.obj _ _ st b hb;YAn e
 have hl0:H s.heap.objs.size = none:=I.hok.fresh (YAm _);obtain ⟨W,⟨m0,w0⟩,turn⟩:=q s.heap.objs.size hl0;refine YAQ ?_
 -- the list is laid
 have I3:Inv X pins σ (upd H s.heap.objs.size (.lst [])) { s with heap:=s.heap.push { cls:=.type "list",data:=.seq ([]:List Value).toArray },toks:=s.toks }:=I.lnew (its:=[]) .nil (YAF _);generalize hs3:({ s with heap:=s.heap.push { cls:=.type "list",data:=.seq ([]:List Value).toArray },toks:=s.toks }:Shared) = s3 at I3;have e3:({ s with heap:=s.heap.push { cls:=.type "list",data:=.seq ([]:List Value).toArray } }:Shared) = s3:=hs3;have k3:∀ b o,s.heap.get? b = some o->s3.heap.get? b = some o:=λb o e=>by rw [<- hs3];exact YAc _ e
 have z3:s.heap.objs.size <= s3.heap.objs.size:=by rw [<- hs3];show _ <= (s.heap.push _).objs.size;rw [YBl];exact Nat.le_succ _
 have f3:∀ b ∈ fp,FpOk X pins (upd H s.heap.objs.size (.lst [])) b:=λb hb=>⟨by rw [zaf (YAw (hlt b hb))];exact (hf b hb).1,(hf b hb).2⟩;have lt3:∀ b ∈ fp,b < s3.heap.objs.size:=λb hb=>YAv (hlt b hb) z3;have st3:tn 0 s3.heap:=T.keep _ _ _ st λb _ o e=>k3 b o e;refine wpAny_newFunctionEnv hS.nocell (by intro y hy;simp at hy) (λh₁ hns₁ hsb₁=>?_) hS.kind;have k4:∀ b o,s3.heap.get? b = some o->h₁.get? b = some o:=λb o e=>hsb₁.extBut b o (YAw (YAn e)) (YAc _ e);have ok4:=zfr (J:=J) (it:=it) (tn:=tn) I3 hS hcl hcl2 f3 lt3;have I4:=zc3 (t':=s3.toks + ([]:List (Str × Value)).length) I3 hS hcl hcl2 ok4 hns₁ k4;have st4:tn 0 h₁:=T.keep _ _ _ st3 λb _ o e=>k4 b o e
 -- what stays true of the iterator's objects
 have stat:∀ {H':Hp},(∀ b ∈ fp,H' b = none)->∀ b ∈ fp,FpOk (zan X Nc scope cl s3.heap.objs.size s3 (upd H s.heap.objs.size (.lst [])) fp) [] H' b:=λhn b hb=>
  ⟨hn b hb,(ok4.exf b hb).1,ok4.exfs b hb,.inl hb,(ok4.exf b hb).2,λp hp=>absurd (show p ∈ ([]:List (Addr × Obj)) from hp) (by simp)⟩
 have loop:∀ s₄:Shared,s₄ = { s3 with heap:=h₁,toks:=s3.toks + ([]:List (Str × Value)).length } ->
   codeAny (model X.prog X.w) X.A (.compLoop (.ListComp elt [⟨tg,iter,ifs,0⟩] scope pos) 0 (.ref it) (.ref s.heap.objs.size) (compEnvC scope cl s3.heap.objs.size X.env)) (RR (.ref s.heap.objs.size) s3.heap.objs.size) s₄:=by
  rintro s₄ rfl;refine codeAny_loop rfl (λn s'=>∃ i xs H',Inv (zan X Nc scope cl s3.heap.objs.size s3 (upd H s.heap.objs.size (.lst [])) fp) [] (za8 sub σ) H' s'/\tn i s'.heap/\(∀ b ∈ fp,H' b = none)/\W i n xs H') ?_ m0
   ⟨0,[],_,I4,st4,λb hb=>(f3 b hb).1,w0⟩
  rintro n s5 ⟨i,xs,H5,I5,st5,fr5,w5⟩;show wpAny _ X.A ((compTurn (.ListComp elt [⟨tg,iter,ifs,0⟩] scope pos) 0 (.ref it) (.ref s.heap.objs.size) (compEnvC scope cl s3.heap.objs.size X.env)).onRaise (λx=>do noteFrame x (compEnvC scope cl s3.heap.objs.size X.env);theTreesLotGoes x)) _ _ s5;refine wpAny_noted ?_;rw [compTurn_list];refine YAa (YBc (YAa ?_));obtain ⟨hl5,w5⟩:=turn i n xs H5 w5;rcases w5 with ⟨stop,qn⟩ | ⟨go,N,hN,step⟩
  ·refine thn (T.done (zan X Nc scope cl s3.heap.objs.size s3 (upd H s.heap.objs.size (.lst [])) fp) rfl rfl rfl hc i [] s5 (za8 sub σ) H5 _ I5 (stat fr5) st5 stop) λr s6 ⟨hr,I6⟩=>?_;subst hr;obtain ⟨m6,hn6,_⟩:=I6.loc;exact YAf (hRR _ _ H5 s6 m6 (zep I3 f3 I6) qn hn6 z3 I6.free)
  ·refine thn (T.item (zan X Nc scope cl s3.heap.objs.size s3 (upd H s.heap.objs.size (.lst [])) fp) rfl rfl rfl hc i [] s5 (za8 sub σ) H5 _ I5 (stat fr5) st5 go) λr s6 ⟨u,hr,h6⟩=>?_;subst hr;refine YAa (thn h6 λ_ s7 ⟨x,H7,I7,r7,y7,st7,fr7⟩=>?_);have I7':=I7.pinned (stat fr7) (T.obj _ _ st7);have again:∀ {σ8:St} {H8:Hp} {ys:List V} {s8:Shared},Inv (zan X Nc scope cl s3.heap.objs.size s3 (upd H s.heap.objs.size (.lst [])) fp) ([] ++ zeM fp s7.heap) σ8 H8 s8->(∀ (i j:Nat),sub[i]? = some (some j)->σ8[i]? = (za8 sub σ)[i]?)->N ys H8 ->
     ∃ m,m < n/\∃ i xs H',Inv (zan X Nc scope cl s3.heap.objs.size s3 (upd H s.heap.objs.size (.lst [])) fp) [] (za8 sub σ) H' s8/\tn i s8.heap/\(∀ b ∈ fp,H' b = none)/\W i m xs H':=λ{σ8 H8 ys s8} I8 k8 n8=>by
    obtain ⟨m',hm,w8⟩:=hN ys H8 n8;refine ⟨m',hm,i + 1,ys,H8,?_,T.keep _ _ _ st7 λb hb o e=>(I8.pin (b,o) (YAo _ (YAo _ (za7 hb e)))).1,λb hb=>?_,w8⟩
    ·refine I8.unpinned.weak ?_ λk v e=>?_
     ·rw [I8.len];exact (zdG sub σ).trans hS.len
     ·obtain ⟨j,e1,_⟩:=zcW e;rw [k8 k j e1];exact e
    ·obtain ⟨o,e,d⟩:=T.obj _ _ st7 b hb;exact (I8.pin (b,o) (YAo _ (YAo _ (za7 hb e)))).2.1
   refine YAa (YA0 (hg cl _ s3 _ fp _ s7 (za8 sub σ) H7 x u _ I7' r7 (gk _ _ _ _ (step x H7 y7))) (λ_ s8 ⟨σ8,H8,I8,q8,k8⟩=>?_) λ_ _ z=>False.elim z);refine YAa (YA0 (hi cl _ s3 _ fp _ s8 σ8 H8 _ I8 q8) (λok s9 ⟨H9,I9,q9⟩=>?_) λ_ _ z=>False.elim z);cases ok with
   | false=>exact YAf ⟨rfl,again I9 k8 q9⟩
   | true=>
    refine YAa (YAa (YA0 (he cl _ s3 _ fp _ s9 σ8 H9 _ I9 q9) (λxv s10 ⟨y,H10,I10,r10,hl10,hz,q10⟩=>?_) λ_ _ z=>False.elim z));refine YAa (YA0 (zbY (X:=(zan X Nc scope cl s3.heap.objs.size s3 (upd H s.heap.objs.size (.lst [])) fp)) _ s10 σ8 H10 (.ref s.heap.objs.size) [y] (.ref s.heap.objs.size) [xv] (λ_ H11=>N (xs ++ [y]) H11) I10 rfl (.cons r10 .nil) ⟨_,xs,y,rfl,rfl,hl10,hz,q10⟩) (λ_ s11 ⟨_,H11,I11,_,q11⟩=>?_) λ_ _ z=>False.elim z);exact YAf (YAf ⟨rfl,again I11 k8 q11⟩)
 exact codeAny_compStart_list (loop _ rfl) (T.self _ 0 _ _ _ st4 (loop _ rfl))
theorem zdd (I:Inv X pins σ H s) (hS:CompScope X.N X.env.scope scope Nc sub):∀ y ∈ scope.names,y.2 = .free->∃ c,X.env.cells.lookup y.1 = some c:=λy hy e=>
 I.ok.has y.1 (hS.frees y hy e)
theorem zjX (hc:X.calm = true) (hS:CompScope X.N X.env.scope scope Nc sub) (hI:PI X tg iter wi)
  (hg:∀ cl L s0 H0 ex,PG (zan X Nc scope cl L s0 H0 ex) tg g) (gk:zeP sub g) (gm:zet g)
  (hi:∀ cl L s0 H0 ex,PIfs (zan X Nc scope cl L s0 H0 ex) ifs tc) (he:∀ cl L s0 H0 ex,PE (zan X Nc scope cl L s0 H0 ex) elt te)
  (hs:∀ x,foldedSetIterable iter X.env x = pure x:=by intro _;rfl):PE X (.ListComp elt [⟨tg,iter,ifs,0⟩] scope pos) (zmN sub wi g tc te):=by
 intro pins s σ H Q I h;obtain ⟨cl,hcl0,hcl,hcl2⟩:=zbx (zdd I hS);rw [eval_ListComp];refine wpAny_comprehension_free (use:=none) rfl hs hcl0 hS.kind hS.names ?_;refine thn (hI pins s σ H _ I h) λxv s1 h1=>thn h1 λitv s2 h2=>?_;obtain ⟨it,fp,tn,J,H2,e,I2,T,st2,f2,q⟩:=h2;subst e;refine zjZ hc I2 hS hcl hcl2 T st2 f2 hg gk hi he gm q λl C H' s' m I' q' hn hC hfr=>?_;refine ⟨m,hn,λh' sb=>?_⟩;have nL:C ≠ X.env.locals:=YBe (YAv I2.lt hC);refine ⟨.ref l,H',?_,rfl,q'⟩;exact I'.turned (it:=C) (t':=s'.toks) (λb o hb e=>(sb.2 b hb).trans e) hfr nL (.inr (YAK I2.sz hC)) (λx c e z=>by
  obtain ⟨v,w⟩:=I2.cell x c e;exact absurd (YAv w.lt (by rw [z];exact hC)) (YA8 _)) λp hp z=>
  absurd (YAv (YAn (I2.pin p hp).1) (by rw [z];exact hC)) (YA8 _)
theorem zl0   (hc:X.calm = true) (hN:X.N.Nodup) (hiN:X.N[i]? = some y) (hy:X.env.scope.names.lookup y = some .local) (hS:CompScope X.N X.env.scope scope Nc sub) (hI:PI X tg iter wi)
  (hg:∀ cl L s0 H0 ex,PG (zan X Nc scope cl L s0 H0 ex) tg g) (gk:zeP sub g) (gm:zet g)
  (hi:∀ cl L s0 H0 ex,PIfs (zan X Nc scope cl L s0 H0 ex) ifs tc) (he:∀ cl L s0 H0 ex,PE (zan X Nc scope cl L s0 H0 ex) elt te)
  (hsw:swapsWith (.ListComp elt [⟨tg,iter,ifs,0⟩] scope pos) (some (.Name y py)) spos.line X.env = pure true:=by rfl)
  (hs:∀ x,foldedSetIterable iter X.env x = pure x:=by intro _;rfl):PS X (.Assign [.Name y py] (.ListComp elt [⟨tg,iter,ifs,0⟩] scope pos) spos) (tAsg (zmN sub wi g tc te) (zcR i)):=by
 intro pins s σ H D I h;obtain ⟨cl,hcl0,hcl,hcl2⟩:=zbx (zdd I hS);rw [exec_Assign_Name_used _ _ _ _ hsw];refine YAa (YBc (YAa ?_));show wpAny _ X.A (do let _ <- comprehension (.ListComp elt [⟨tg,iter,ifs,0⟩] scope pos) scope X.env _ (newList []) false (eval iter X.env) (some (assign (.Name y py) X.env))) _ _ s;refine YAa (YA0 (wpAny_comprehension_free (use:=some (assign (.Name y py) X.env)) (Q:=λ_ s'=>SP X pins D .next s') rfl hs hcl0 hS.kind hS.names
  (thn (hI pins s σ H _ I h) λxv s1 h1=>thn h1 λitv s2 h2=>?_)) (λ_ s' hq=>YAf (YAf hq)) λ_ _ e=>e)
 obtain ⟨it,fp,tn,J,H2,e,I2,T,st2,f2,q⟩:=h2;subst e;refine zjZ hc I2 hS hcl hcl2 T st2 f2 hg gk hi he gm q λl C H' s' m I' q' hn hC hfr=>?_;have nL:C ≠ X.env.locals:=YBe (YAv I2.lt hC);show wpAny _ X.A (assign (.Name y py) X.env (.ref l)) _ _ _;refine wpAny_assign_Name (ze4 I' hN hiN (.inl hy) (v:=.ref l) rfl (λs6 I6 ⟨a,sb6,ha⟩=>?_) (.inr hy));have nA:C ≠ a:=λz=>by
  rcases ha with e | e
  ·exact nL (z.trans e)
  ·obtain ⟨v,w⟩:=I2.cell y a e;exact absurd (YAv w.lt (by rw [<- z];exact hC)) (YA8 _)
 refine ⟨m,hn.sameBut sb6 nA,λh' sb=>?_⟩;refine ⟨_,H',I6.turned (it:=C) (t':=s6.toks) (λb o hb e=>(sb.2 b hb).trans e) hfr nL (.inr (YAK I2.sz hC)) (λx c e z=>by
  obtain ⟨v,w⟩:=I2.cell x c e;exact absurd (YAv w.lt (by rw [z];exact hC)) (YA8 _)) (λp hp z=>
  absurd (YAv (YAn (I2.pin p hp).1) (by rw [z];exact hC)) (YA8 _)),q'⟩
end
theorem zmS {K:PySem.W.Frag} {a l:Addr} {ys:List V} {g:TG} {tc:TT} {te:TE} {σc:St} {H1:Hp} {Q:VK} (Pv:Nat->List V->Hp->Prop) (h0:Pv 0 [] (upd H1 l (.lst [])))
  (hl:∀ i xs H,i <= ys.length->Pv i xs H->SqL K H a ys/\H l = some (.lst xs))
  (hs:∀ i x xs H,ys[i]? = some x->Pv i xs H->g x σc H λσ2 H3=>tc σ2 H3 λb H4=>if b = true then te σ2 H4 λy H5=>H5 l = some (.lst xs)/\xs.length < sizeLine/\Pv (i + 1) (xs ++ [y]) (upd H5 l (.lst (xs ++ [y]))) else Pv (i + 1) xs H4)
  (hd:∀ xs H,Pv ys.length xs H->Q (.ref l) H):zhT g tc te σc l (Itl K a) H1 Q:=by
 refine ⟨λi m xs H=>m = ys.length - i/\i <= ys.length/\Pv i xs H,⟨ys.length,by simp,YAF _,h0⟩,?_⟩;rintro i m xs H ⟨rfl,hi,p⟩;obtain ⟨q,hll⟩:=hl i xs H hi p;refine ⟨hll,?_⟩;by_cases hlt:i < ys.length
 ·refine .inr ⟨⟨ys,ys[i],q,by simp [hlt]⟩,Pv (i + 1),λxs' H' p'=>⟨ys.length - (i + 1),by omega,rfl,hlt,p'⟩,λx H' y=>?_⟩;obtain ⟨e,y⟩:=y;subst e;exact hs i x xs _ (y ys q) p
 ·have e:i = ys.length:=by omega
  subst e;exact .inl ⟨⟨ys,q,YAm _⟩,hd xs H p⟩
theorem zkM {l:Addr} {lo:Int} {n:Nat} {g:TG} {tc:TT} {te:TE} {σc:St} {H1:Hp} {Q:VK} (Pv:Nat->List V->Hp->Prop) (h0:Pv 0 [] (upd H1 l (.lst [])))
  (hl:∀ i xs H,i <= n->Pv i xs H->H l = some (.lst xs))
  (hs:∀ i xs H,i < n->Pv i xs H->g (.int (lo + i)) σc H λσ2 H3=>tc σ2 H3 λb H4=>if b = true then te σ2 H4 λy H5=>H5 l = some (.lst xs)/\xs.length < sizeLine/\Pv (i + 1) (xs ++ [y]) (upd H5 l (.lst (xs ++ [y]))) else Pv (i + 1) xs H4)
  (hd:∀ xs H,Pv n xs H->Q (.ref l) H):zhT g tc te σc l (Itr lo n) H1 Q:=by
 refine ⟨λi m xs H=>m = n - i/\i <= n/\Pv i xs H,⟨n,by simp,YAF _,h0⟩,?_⟩;rintro i m xs H ⟨rfl,hi,p⟩;refine ⟨hl i xs H hi p,?_⟩;by_cases hlt:i < n
 ·refine .inr ⟨hlt,Pv (i + 1),λxs' H' p'=>⟨n - (i + 1),by omega,rfl,hlt,p'⟩,λx H' y=>?_⟩;obtain ⟨e,y⟩:=y;subst e y;exact hs i xs _ hlt p
 ·have e:i = n:=by omega
  subst e;exact .inl ⟨YAm _,hd xs H p⟩
theorem zfi (elt tg iter tg2 iter2:Expr) (ifs:List Expr) (scope:Scope) (pos:Pos) (it acc:Value) (env:Env) :
  compTurn (.ListComp elt [⟨tg,iter,[],0⟩,⟨tg2,iter2,ifs,0⟩] scope pos) 0 it acc env = (do
   standAt iter.pos
   match <- pyNext it with
   | none=>pure (.done .next)
   | some v=>
    letOwnedTupleGo tg it v
    assign tg env v
    let mut ok:=true
    for c in ([]:List Expr) do
     if ok then ok <- isTrue c env (eval c env)
    if ok then
     let x <- eval iter2 env
     standAt iter2.pos
     let x <- foldedSetIterable iter2 env x
     let _ <- runOwn (.compStart (.ListComp elt [⟨tg,iter,[],0⟩,⟨tg2,iter2,ifs,0⟩] scope pos) 1 (<- holding [x] (pyIter x)) acc env) env
    again (.compLoop (.ListComp elt [⟨tg,iter,[],0⟩,⟨tg2,iter2,ifs,0⟩] scope pos) 0 it acc env)):=by rfl
theorem zfI (elt tg iter tg2 iter2:Expr) (ifs:List Expr) (scope:Scope) (pos:Pos) (it acc:Value) (env:Env) :
  compTurn (.ListComp elt [⟨tg,iter,[],0⟩,⟨tg2,iter2,ifs,0⟩] scope pos) 1 it acc env = (do
   standAt iter2.pos
   match <- pyNext it with
   | none=>pure (.done .next)
   | some v=>
    letOwnedTupleGo tg2 it v
    assign tg2 env v
    let mut ok:=true
    for c in ifs do
     if ok then ok <- isTrue c env (eval c env)
    if ok then
     (do let _ <- call (.builtin "list.append") [acc,<- eval elt env])
    again (.compLoop (.ListComp elt [⟨tg,iter,[],0⟩,⟨tg2,iter2,ifs,0⟩] scope pos) 1 it acc env)):=by rfl
theorem zcG
  (h0:codeAny (model prog w) A (.compLoop (.ListComp elt [⟨tg,iter,[],0⟩,⟨tg2,iter2,ifs,0⟩] scope pos) 1 it acc env) R s)
  (h:wpAny (model prog w) A (pyIter it) (λit' s'=>codeAny (model prog w) A (.compLoop (.ListComp elt [⟨tg,iter,[],0⟩,⟨tg2,iter2,ifs,0⟩] scope pos) 1 it' acc env) R s')
   (notedBy (model prog w) A env λx s'=>R (.error x) s') s) :
  codeAny (model prog w) A (.compStart (.ListComp elt [⟨tg,iter,[],0⟩,⟨tg2,iter2,ifs,0⟩] scope pos) 1 it acc env) R s:=by
 refine codeAny_of_tree ?_;show wpAny _ _ ((compStart (.ListComp elt [⟨tg,iter,[],0⟩,⟨tg2,iter2,ifs,0⟩] scope pos) 1 it acc env).onRaise (λx=>do noteFrame x env;standAt theWindowsPlace)) _ _ s;refine wpAny_notedAt ?_;unfold compStart;show wpAny _ _ (ask >>= _) _ _ s;refine YAa (YBU (wpAny_ite ?_));split
 ·first
   | exact YAa (YAf (YAf (And.intro rfl h0)))
   | exact YAf (And.intro rfl h0)
 ·first
   | exact YAa (YBH (YAa (YBc (YAa (YA0 h (λit' s' h'=>YAf (And.intro rfl h')) λ_ _ x=>x)))))
   | (refine YAa (YBH ?_);show wpAny _ _ (standAt iter2.pos >>= _) _ _ s;exact YAa (YBc (YAa (YA0 h (λit' s' h'=>YAf (And.intro rfl h')) λ_ _ x=>x))))
def tIn (g:TG) (tc:TT) (te:TE) (σc:St) (l:Addr) (J:It) (H1:Hp) (xs0:List V) (N:List V->Hp->Prop):Prop:=
 ∃ W:Nat->Nat->List V->Hp->Prop,(∃ m,W 0 m xs0 H1)/\∀ i m xs H2,W i m xs H2->H2 l = some (.lst xs) /\
  ((J.stop i H2/\N xs H2)\/(J.go i H2/\∃ N':List V->Hp->Prop,(∀ xs' H',N' xs' H'->∃ m',m' < m/\W (i + 1) m' xs' H') /\
   ∀ x H',J.yld i H2 x H'->g x σc H' λσ2 H3=>tc σ2 H3 λb H4=>if b = true then te σ2 H4 λy H5=>H5 l = some (.lst xs)/\xs.length < sizeLine/\N' (xs ++ [y]) (upd H5 l (.lst (xs ++ [y]))) else N' xs H4))
theorem zm3
  (hc:X.calm = true) (hx:X.xe = λ_ _=>False) (I:Inv X pins σ H s) (T:Turn X.prog X.w X.K tg2 J fp it tn) (st:tn 0 s.heap) (hf:∀ b ∈ fp,FpOk X pins H b)
  (hg:PG X tg2 g) (gk:∀ v H (Q:St->Hp->Prop),g v σ H Q->g v σ H λσ2 H2=>Q σ2 H2/\∀ (i:Nat) (v:V),σ[i]? = some (some v)->σ2[i]? = some (some v)) (hi:PIfs X ifs tc) (he:PE X elt te)
  (q:tIn g tc te σ l J H xs0 N) (hR:∀ ys H' s',Inv X pins σ H' s'->N ys H'->R (.ok .next) s') :
  codeAny (model X.prog X.w) X.A (.compStart (.ListComp elt [⟨tg,iter,[],0⟩,⟨tg2,iter2,ifs,0⟩] scope pos) 1 (.ref it) (.ref l) X.env) R s:=by
 obtain ⟨W,⟨m0,w0⟩,turn⟩:=q;have stat:∀ {H':Hp},(∀ b ∈ fp,H' b = none)->∀ b ∈ fp,FpOk X pins H' b:=λhn b hb=>⟨hn b hb,(hf b hb).2⟩;have nox:∀ {E:Value->Shared->Prop} (a:Value) (b:Shared),X.xe a b->E a b:=λ{E} a b z=>by rw [hx] at z;exact z.elim
 have loop:codeAny (model X.prog X.w) X.A (.compLoop (.ListComp elt [⟨tg,iter,[],0⟩,⟨tg2,iter2,ifs,0⟩] scope pos) 1 (.ref it) (.ref l) X.env) R s:=by
  refine codeAny_loop rfl (λn s'=>∃ i xs H',Inv X pins σ H' s'/\tn i s'.heap/\(∀ b ∈ fp,H' b = none)/\W i n xs H') ?_ m0 ⟨0,xs0,H,I,st,λb hb=>(hf b hb).1,w0⟩;rintro n s5 ⟨i,xs,H5,I5,st5,fr5,w5⟩;show wpAny _ X.A ((compTurn (.ListComp elt [⟨tg,iter,[],0⟩,⟨tg2,iter2,ifs,0⟩] scope pos) 1 (.ref it) (.ref l) X.env).onRaise (λx=>do noteFrame x X.env;theTreesLotGoes x)) _ _ s5;refine wpAny_noted ?_;rw [zfI];refine YAa (YBc (YAa ?_));obtain ⟨hl5,w5⟩:=turn i n xs H5 w5;rcases w5 with ⟨stop,qn⟩ | ⟨go,N',hN,step⟩
  ·refine thn (T.done X rfl rfl rfl hc i pins s5 σ H5 _ I5 (stat fr5) st5 stop) λr s6 ⟨hr,I6⟩=>?_;subst hr;exact YAf (hR _ H5 s6 I6 qn)
  ·refine thn (T.item X rfl rfl rfl hc i pins s5 σ H5 _ I5 (stat fr5) st5 go) λr s6 ⟨u,hr,h6⟩=>?_;subst hr;refine YAa (thn h6 λ_ s7 ⟨x,H7,I7,r7,y7,st7,fr7⟩=>?_);have I7':=I7.pinned (stat fr7) (T.obj _ _ st7);have again:∀ {σ8:St} {H8:Hp} {ys:List V} {s8:Shared},Inv X (pins ++ zeM fp s7.heap) σ8 H8 s8->(∀ (i:Nat) (v:V),σ[i]? = some (some v)->σ8[i]? = some (some v))->N' ys H8 ->
     ∃ m,m < n/\∃ i xs H',Inv X pins σ H' s8/\tn i s8.heap/\(∀ b ∈ fp,H' b = none)/\W i m xs H':=λ{σ8 H8 ys s8} I8 k8 n8=>by
    obtain ⟨m',hm,w8⟩:=hN ys H8 n8;refine ⟨m',hm,i + 1,ys,H8,?_,T.keep _ _ _ st7 λb hb o e=>(I8.pin (b,o) (YAo _ (YAo _ (za7 hb e)))).1,λb hb=>?_,w8⟩
    ·refine I8.unpinned.weak ?_ λk v e=>k8 k v e;rw [I8.len];exact I.len
    ·obtain ⟨o,e,d⟩:=T.obj _ _ st7 b hb;exact (I8.pin (b,o) (YAo _ (YAo _ (za7 hb e)))).2.1
   refine YAa (YA0 (hg _ s7 σ H7 x u _ I7' r7 (gk _ _ _ (step x H7 y7))) (λ_ s8 ⟨σ8,H8,I8,q8,k8⟩=>?_) nox);refine YAa (YA0 (hi _ s8 σ8 H8 _ I8 q8) (λok s9 ⟨H9,I9,q9⟩=>?_) nox);cases ok with
   | false=>exact YAf ⟨rfl,again I9 k8 q9⟩
   | true=>
    refine YAa (YAa (YA0 (he _ s9 σ8 H9 _ I9 q9) (λxv s10 ⟨y,H10,I10,r10,hl10,hz,q10⟩=>?_) nox));refine YAa (YA0 (zbY (X:=X) _ s10 σ8 H10 (.ref l) [y] (.ref l) [xv] (λ_ H11=>N' (xs ++ [y]) H11) I10 rfl (.cons r10 .nil) ⟨_,xs,y,rfl,rfl,hl10,hz,q10⟩) (λ_ s11 ⟨_,H11,I11,_,q11⟩=>?_) nox);exact YAf (YAf ⟨rfl,again I11 k8 q11⟩)
 exact zcG loop (T.self _ 0 _ _ _ st loop)
def zo7 (sub:List (Option Nat)) (g g2:TG):Prop:=∀ v (σ:St) H (Q:St->Hp->Prop),g v (za8 sub σ) H Q->g v (za8 sub σ) H λσ2 H2=>Q σ2 H2 /\
 ∀ σ',σ' = σ->∀ u H' (Q':St->Hp->Prop),g2 u σ2 H' Q'->g2 u σ2 H' λσ3 H3=>Q' σ3 H3/\∀ (i:Nat) (v:V),σ2[i]? = some (some v)->σ3[i]? = some (some v)
def zl7 (g:TG) (wi2:TI) (g2:TG) (tc:TT) (te:TE) (σc:St) (l:Addr) (J:It) (H1:Hp) (Q:VK):Prop:=
 ∃ W:Nat->Nat->List V->Hp->Prop,(∃ m,W 0 m [] (upd H1 l (.lst [])))/\∀ i m xs H2,W i m xs H2->H2 l = some (.lst xs) /\
  ((J.stop i H2/\Q (.ref l) H2)\/(J.go i H2/\∃ N:List V->Hp->Prop,(∀ xs' H',N xs' H'->∃ m',m' < m/\W (i + 1) m' xs' H') /\
   ∀ x H',J.yld i H2 x H'->g x σc H' λσ2 H3=>wi2 σ2 H3 λJ2 H4=>tIn g2 tc te σ2 l J2 H4 xs N))
def zmI (sub:List (Option Nat)) (wi:TI) (g:TG) (wi2:TI) (g2:TG) (tc:TT) (te:TE):TE:=λσ H Q=>wi σ H λJ H1=>∀ l,H1 l = none->zl7 g wi2 g2 tc te (za8 sub σ) l J H1 Q
section
variable {X:Cx} {pins:List (Addr × Obj)} {σ:St} {H:Hp} {s:Shared} {scope:Scope} {Nc:List Str} {sub:List (Option Nat)} {elt tg iter tg2 iter2:Expr} {ifs:List Expr} {pos:Pos} {g g2:TG} {wi2:TI} {tc:TT} {te:TE}
theorem zma {cl:List (Str × Addr)} {fp:List Addr} {it:Addr} {J:It} {tn:Nat->Heap->Prop} {E:Value->Shared->Prop} {Q:VK} {RR:Value->Addr->Result->Shared->Prop}
  (hc:X.calm = true) (I:Inv X pins σ H s) (hS:CompScope X.N X.env.scope scope Nc sub)
  (hcl:∀ x c,cl.lookup x = some c->X.env.cells.lookup x = some c) (hcl2:∀ x,scope.names.lookup x = some .free->∃ c,cl.lookup x = some c)
  (T:Turn X.prog X.w X.K tg J fp it tn) (st:tn 0 s.heap) (hf:∀ b ∈ fp,FpOk X pins H b)
  (hg:∀ cl L s0 H0 ex,PG (zan X Nc scope cl L s0 H0 ex) tg g) (gk:zeP sub g) (hI2:∀ cl L s0 H0 ex,PI (zan X Nc scope cl L s0 H0 ex) tg2 iter2 wi2) (hg2:∀ cl L s0 H0 ex,PG (zan X Nc scope cl L s0 H0 ex) tg2 g2) (gk2:zo7 sub g g2) (hs2:∀ cl L s0 H0 ex x,foldedSetIterable iter2 (zan X Nc scope cl L s0 H0 ex).env x = pure x)
  (hi:∀ cl L s0 H0 ex,PIfs (zan X Nc scope cl L s0 H0 ex) ifs tc) (he:∀ cl L s0 H0 ex,PE (zan X Nc scope cl L s0 H0 ex) elt te)
  (gm:zet g) (q:∀ l,H l = none->zl7 g wi2 g2 tc te (za8 sub σ) l J H Q)
  (hRR:∀ l C H' s' m,Inv X pins σ H' s'->Q (.ref l) H'->s'.heap.Ns C m->s.heap.objs.size <= C->H' C = none->RR (.ref l) C (.ok .next) s') :
  wpAny (model X.prog X.w) X.A (newList []) (λacc s₃=>wpAny (model X.prog X.w) X.A (newFunctionEnv scope X.env.globals cl [] X.env.qual none .none (some X.env)) (λcenv s₄=>
   codeAny (model X.prog X.w) X.A (.compStart (.ListComp elt [⟨tg,iter,[],0⟩,⟨tg2,iter2,ifs,0⟩] scope pos) 0 (.ref it) acc { cenv with scope:=relabel scope X.env }) (RR acc cenv.locals) s₄) E s₃) E s:=by
 have hlt:∀ b ∈ fp,b < s.heap.objs.size:=λb hb=>let ⟨o,e,_⟩:=T.obj _ _ st b hb;YAn e
 have hl0:H s.heap.objs.size = none:=I.hok.fresh (YAm _);obtain ⟨W,⟨m0,w0⟩,turn⟩:=q s.heap.objs.size hl0;refine YAQ ?_
 -- the list is laid
 have I3:Inv X pins σ (upd H s.heap.objs.size (.lst [])) { s with heap:=s.heap.push { cls:=.type "list",data:=.seq ([]:List Value).toArray },toks:=s.toks }:=I.lnew (its:=[]) .nil (YAF _);generalize hs3:({ s with heap:=s.heap.push { cls:=.type "list",data:=.seq ([]:List Value).toArray },toks:=s.toks }:Shared) = s3 at I3;have e3:({ s with heap:=s.heap.push { cls:=.type "list",data:=.seq ([]:List Value).toArray } }:Shared) = s3:=hs3;have k3:∀ b o,s.heap.get? b = some o->s3.heap.get? b = some o:=λb o e=>by rw [<- hs3];exact YAc _ e
 have z3:s.heap.objs.size <= s3.heap.objs.size:=by rw [<- hs3];show _ <= (s.heap.push _).objs.size;rw [YBl];exact Nat.le_succ _
 have f3:∀ b ∈ fp,FpOk X pins (upd H s.heap.objs.size (.lst [])) b:=λb hb=>⟨by rw [zaf (YAw (hlt b hb))];exact (hf b hb).1,(hf b hb).2⟩;have lt3:∀ b ∈ fp,b < s3.heap.objs.size:=λb hb=>YAv (hlt b hb) z3;have st3:tn 0 s3.heap:=T.keep _ _ _ st λb _ o e=>k3 b o e;refine wpAny_newFunctionEnv hS.nocell (by intro y hy;simp at hy) (λh₁ hns₁ hsb₁=>?_) hS.kind;have k4:∀ b o,s3.heap.get? b = some o->h₁.get? b = some o:=λb o e=>hsb₁.extBut b o (YAw (YAn e)) (YAc _ e);have ok4:=zfr (J:=J) (it:=it) (tn:=tn) I3 hS hcl hcl2 f3 lt3;have I4:=zc3 (t':=s3.toks + ([]:List (Str × Value)).length) I3 hS hcl hcl2 ok4 hns₁ k4;have st4:tn 0 h₁:=T.keep _ _ _ st3 λb _ o e=>k4 b o e
 -- what stays true of the iterator's objects
 have stat:∀ {H':Hp},(∀ b ∈ fp,H' b = none)->∀ b ∈ fp,FpOk (zan X Nc scope cl s3.heap.objs.size s3 (upd H s.heap.objs.size (.lst [])) fp) [] H' b:=λhn b hb=>
  ⟨hn b hb,(ok4.exf b hb).1,ok4.exfs b hb,.inl hb,(ok4.exf b hb).2,λp hp=>absurd (show p ∈ ([]:List (Addr × Obj)) from hp) (by simp)⟩
 have loop:∀ s₄:Shared,s₄ = { s3 with heap:=h₁,toks:=s3.toks + ([]:List (Str × Value)).length } ->
   codeAny (model X.prog X.w) X.A (.compLoop (.ListComp elt [⟨tg,iter,[],0⟩,⟨tg2,iter2,ifs,0⟩] scope pos) 0 (.ref it) (.ref s.heap.objs.size) (compEnvC scope cl s3.heap.objs.size X.env)) (RR (.ref s.heap.objs.size) s3.heap.objs.size) s₄:=by
  rintro s₄ rfl;refine codeAny_loop rfl (λn s'=>∃ i xs H',Inv (zan X Nc scope cl s3.heap.objs.size s3 (upd H s.heap.objs.size (.lst [])) fp) [] (za8 sub σ) H' s'/\tn i s'.heap/\(∀ b ∈ fp,H' b = none)/\W i n xs H') ?_ m0
   ⟨0,[],_,I4,st4,λb hb=>(f3 b hb).1,w0⟩
  rintro n s5 ⟨i,xs,H5,I5,st5,fr5,w5⟩;show wpAny _ X.A ((compTurn (.ListComp elt [⟨tg,iter,[],0⟩,⟨tg2,iter2,ifs,0⟩] scope pos) 0 (.ref it) (.ref s.heap.objs.size) (compEnvC scope cl s3.heap.objs.size X.env)).onRaise (λx=>do noteFrame x (compEnvC scope cl s3.heap.objs.size X.env);theTreesLotGoes x)) _ _ s5;refine wpAny_noted ?_;rw [zfi];refine YAa (YBc (YAa ?_));obtain ⟨hl5,w5⟩:=turn i n xs H5 w5;rcases w5 with ⟨stop,qn⟩ | ⟨go,N,hN,step⟩
  ·refine thn (T.done (zan X Nc scope cl s3.heap.objs.size s3 (upd H s.heap.objs.size (.lst [])) fp) rfl rfl rfl hc i [] s5 (za8 sub σ) H5 _ I5 (stat fr5) st5 stop) λr s6 ⟨hr,I6⟩=>?_;subst hr;obtain ⟨m6,hn6,_⟩:=I6.loc;exact YAf (hRR _ _ H5 s6 m6 (zep I3 f3 I6) qn hn6 z3 I6.free)
  ·refine thn (T.item (zan X Nc scope cl s3.heap.objs.size s3 (upd H s.heap.objs.size (.lst [])) fp) rfl rfl rfl hc i [] s5 (za8 sub σ) H5 _ I5 (stat fr5) st5 go) λr s6 ⟨u,hr,h6⟩=>?_;subst hr;refine YAa (thn h6 λ_ s7 ⟨x,H7,I7,r7,y7,st7,fr7⟩=>?_);have I7':=I7.pinned (stat fr7) (T.obj _ _ st7);have again:∀ {σ8:St} {H8:Hp} {ys:List V} {s8:Shared},Inv (zan X Nc scope cl s3.heap.objs.size s3 (upd H s.heap.objs.size (.lst [])) fp) ([] ++ zeM fp s7.heap) σ8 H8 s8->(∀ (i j:Nat),sub[i]? = some (some j)->σ8[i]? = (za8 sub σ)[i]?)->N ys H8 ->
     ∃ m,m < n/\∃ i xs H',Inv (zan X Nc scope cl s3.heap.objs.size s3 (upd H s.heap.objs.size (.lst [])) fp) [] (za8 sub σ) H' s8/\tn i s8.heap/\(∀ b ∈ fp,H' b = none)/\W i m xs H':=λ{σ8 H8 ys s8} I8 k8 n8=>by
    obtain ⟨m',hm,w8⟩:=hN ys H8 n8;refine ⟨m',hm,i + 1,ys,H8,?_,T.keep _ _ _ st7 λb hb o e=>(I8.pin (b,o) (YAo _ (YAo _ (za7 hb e)))).1,λb hb=>?_,w8⟩
    ·refine I8.unpinned.weak ?_ λk v e=>?_
     ·rw [I8.len];exact (zdG sub σ).trans hS.len
     ·obtain ⟨j,e1,_⟩:=zcW e;rw [k8 k j e1];exact e
    ·obtain ⟨o,e,d⟩:=T.obj _ _ st7 b hb;exact (I8.pin (b,o) (YAo _ (YAo _ (za7 hb e)))).2.1
   refine YAa (YA0 (hg cl _ s3 _ fp _ s7 (za8 sub σ) H7 x u _ I7' r7 (gk2 _ _ _ _ (gk _ _ _ _ (step x H7 y7)))) (λ_ s8 ⟨σ8,H8,I8,⟨q8,k8⟩,hga⟩=>?_) λ_ _ z=>False.elim z);refine YAa (wpAny_tests_nil ?_);refine YAa (YA0 (hI2 cl _ s3 _ fp _ s8 σ8 H8 _ I8 q8) (λxv s9 h9=>?_) λ_ _ z=>False.elim z);refine YAa (YBc (YAa (wpAny_of_eq (hs2 cl s3.heap.objs.size s3 (upd H s.heap.objs.size (.lst [])) fp xv) (YAa (YAX (YA0 h9 (λitv s10 h10=>?_) λ_ _ z=>False.elim z))))));obtain ⟨it2,fp2,tn2,J2,H10,e10,I10,T2,st10,f10,q10⟩:=h10;subst e10;refine YAa (wpAny_runOwn (zm3 (X:=zan X Nc scope cl s3.heap.objs.size s3 (upd H s.heap.objs.size (.lst [])) fp) hc rfl I10 T2 st10 f10 (hg2 cl _ s3 _ fp) (hga σ rfl) (hi cl _ s3 _ fp) (he cl _ s3 _ fp) q10 λys H11 s11 I11 n11=>?_));exact YAf ⟨rfl,again I11 k8 n11⟩
 exact codeAny_compStart_list (loop _ rfl) (T.self _ 0 _ _ _ st4 (loop _ rfl))
theorem znx   (hc:X.calm = true) (hN:X.N.Nodup) (hiN:X.N[i]? = some y) (hy:X.env.scope.names.lookup y = some .local) (hS:CompScope X.N X.env.scope scope Nc sub) (hI:PI X tg iter wi)
  (hg:∀ cl L s0 H0 ex,PG (zan X Nc scope cl L s0 H0 ex) tg g) (gk:zeP sub g) (hI2:∀ cl L s0 H0 ex,PI (zan X Nc scope cl L s0 H0 ex) tg2 iter2 wi2) (hg2:∀ cl L s0 H0 ex,PG (zan X Nc scope cl L s0 H0 ex) tg2 g2) (gk2:zo7 sub g g2) (hs2:∀ cl L s0 H0 ex x,foldedSetIterable iter2 (zan X Nc scope cl L s0 H0 ex).env x = pure x) (gm:zet g)
  (hi:∀ cl L s0 H0 ex,PIfs (zan X Nc scope cl L s0 H0 ex) ifs tc) (he:∀ cl L s0 H0 ex,PE (zan X Nc scope cl L s0 H0 ex) elt te)
  (hsw:swapsWith (.ListComp elt [⟨tg,iter,[],0⟩,⟨tg2,iter2,ifs,0⟩] scope pos) (some (.Name y py)) spos.line X.env = pure true:=by rfl)
  (hs:∀ x,foldedSetIterable iter X.env x = pure x:=by intro _;rfl):PS X (.Assign [.Name y py] (.ListComp elt [⟨tg,iter,[],0⟩,⟨tg2,iter2,ifs,0⟩] scope pos) spos) (tAsg (zmI sub wi g wi2 g2 tc te) (zcR i)):=by
 intro pins s σ H D I h;obtain ⟨cl,hcl0,hcl,hcl2⟩:=zbx (zdd I hS);rw [exec_Assign_Name_used _ _ _ _ hsw];refine YAa (YBc (YAa ?_));show wpAny _ X.A (do let _ <- comprehension (.ListComp elt [⟨tg,iter,[],0⟩,⟨tg2,iter2,ifs,0⟩] scope pos) scope X.env _ (newList []) false (eval iter X.env) (some (assign (.Name y py) X.env))) _ _ s;refine YAa (YA0 (wpAny_comprehension_free (use:=some (assign (.Name y py) X.env)) (Q:=λ_ s'=>SP X pins D .next s') rfl hs hcl0 hS.kind hS.names
  (thn (hI pins s σ H _ I h) λxv s1 h1=>thn h1 λitv s2 h2=>?_)) (λ_ s' hq=>YAf (YAf hq)) λ_ _ e=>e)
 obtain ⟨it,fp,tn,J,H2,e,I2,T,st2,f2,q⟩:=h2;subst e;refine zma hc I2 hS hcl hcl2 T st2 f2 hg gk hI2 hg2 gk2 hs2 hi he gm q λl C H' s' m I' q' hn hC hfr=>?_;have nL:C ≠ X.env.locals:=YBe (YAv I2.lt hC);show wpAny _ X.A (assign (.Name y py) X.env (.ref l)) _ _ _;refine wpAny_assign_Name (ze4 I' hN hiN (.inl hy) (v:=.ref l) rfl (λs6 I6 ⟨a,sb6,ha⟩=>?_) (.inr hy));have nA:C ≠ a:=λz=>by
  rcases ha with e | e
  ·exact nL (z.trans e)
  ·obtain ⟨v,w⟩:=I2.cell y a e;exact absurd (YAv w.lt (by rw [<- z];exact hC)) (YA8 _)
 refine ⟨m,hn.sameBut sb6 nA,λh' sb=>?_⟩;refine ⟨_,H',I6.turned (it:=C) (t':=s6.toks) (λb o hb e=>(sb.2 b hb).trans e) hfr nL (.inr (YAK I2.sz hC)) (λx c e z=>by
  obtain ⟨v,w⟩:=I2.cell x c e;exact absurd (YAv w.lt (by rw [z];exact hC)) (YA8 _)) (λp hp z=>
  absurd (YAv (YAn (I2.pin p hp).1) (by rw [z];exact hC)) (YA8 _)),q'⟩
end
end L2
set_option maxHeartbeats 1000000
namespace L2
open PySem
def Up (xs:Array Nat):Prop:=xs.toList.Pairwise (· < ·)
theorem Up.lt {xs:Array Nat} (h:Up xs) {i j a b:Nat} (hij:i < j) (ha:xs[i]? = some a) (hb:xs[j]? = some b):a < b:=by
 obtain ⟨h1,e1⟩:=Array.getElem?_eq_some_iff.mp ha;obtain ⟨h2,e2⟩:=Array.getElem?_eq_some_iff.mp hb
 have:=YAZ.mp h i j (by simpa using h1) (by simpa using h2) hij
 simp only [YBC] at this;omega
theorem zob (xs:Array Nat) (j:Nat) (hu:Up xs):∀ (fuel lo hi:Nat),hi - lo <= fuel->lo <= hi->hi <= xs.size->(∀ i a,i < lo->xs[i]? = some a->a < j)->(∀ i a,hi <= i->xs[i]? = some a->j <= a) ->
  SetTable.below.go xs j fuel lo hi <= xs.size/\(∀ i a,i < SetTable.below.go xs j fuel lo hi->xs[i]? = some a->a < j)/\(∀ i a,SetTable.below.go xs j fuel lo hi <= i->xs[i]? = some a->j <= a):=by
 intro fuel
 induction fuel with
 | zero=>
  intro lo hi h1 h2 h3 h4 h5;have e:lo = hi:=by omega
  subst e;unfold SetTable.below.go;exact ⟨h3,h4,h5⟩
 | succ fuel ih=>
  intro lo hi h1 h2 h3 h4 h5;unfold SetTable.below.go;by_cases hl:lo < hi
  ·rw [if_pos hl];have hm:(lo + hi) / 2 < hi:=by omega
   have hm2:lo <= (lo + hi) / 2:=by omega
   have hs:(lo + hi) / 2 < xs.size:=by omega
   have hg:xs[(lo + hi) / 2]? = some xs[(lo + hi) / 2]:=YA6 hs;have hd:xs.getD ((lo + hi) / 2) j = xs[(lo + hi) / 2]:=by simp [Array.getD,hs]
   dsimp only;rw [hd];by_cases hc:xs[(lo + hi) / 2] < j
   ·rw [if_pos hc];refine ih _ _ (by omega) (by omega) h3 (λi a hi' ha=>?_) h5;by_cases e:i = (lo + hi) / 2
    ·subst e;rw [hg] at ha;cases ha;exact hc
    ·have:=hu.lt (show i < (lo + hi) / 2 by omega) ha hg
     omega
   ·rw [if_neg hc];refine ih _ _ (by omega) hm2 (by omega) h4 (λi a hi' ha=>?_);by_cases e:i = (lo + hi) / 2
    ·subst e;rw [hg] at ha;cases ha;omega
    ·have:=hu.lt (show (lo + hi) / 2 < i by omega) hg ha
     omega
  ·rw [if_neg hl];have e:lo = hi:=by omega
   subst e;exact ⟨h3,h4,h5⟩
theorem zgX (hu:Up xs) (j:Nat):SetTable.below xs j <= xs.size/\(∀ i a,i < SetTable.below xs j->xs[i]? = some a->a < j)/\(∀ i a,SetTable.below xs j <= i->xs[i]? = some a->j <= a):=by
 unfold SetTable.below;exact zob xs j hu xs.size 0 xs.size (by omega) (by omega) (YAm _) (λi a h=>absurd h (Nat.not_lt_zero _)) (λi a h e=>by
  obtain ⟨h1,_⟩:=Array.getElem?_eq_some_iff.mp e;omega)
theorem zkO {xs:Array Nat} (hu:Up xs) {i a:Nat} (h:xs[i]? = some a):SetTable.below xs (a + 1) = i + 1:=by
 obtain ⟨h1,h2,h3⟩:=zgX hu (a + 1);obtain ⟨hi,_⟩:=Array.getElem?_eq_some_iff.mp h;have c1:¬ SetTable.below xs (a + 1) <= i:=λz=>by have:=h3 i a z h;omega
 have c2:¬ i + 1 < SetTable.below xs (a + 1):=λz=>by
  have hs:i + 1 < xs.size:=by omega
  have e2:xs[i + 1]? = some xs[i + 1]:=YA6 hs
  have:=h2 (i + 1) _ z e2
  have:=hu.lt (YBV i) h e2
  omega
 omega
theorem zkF (xs:Array Nat) (hu:Up xs):SetTable.below xs 0 = 0:=by
 obtain ⟨h1,h2,_⟩:=zgX hu 0;by_cases h:0 < SetTable.below xs 0
 ·have hs:0 < xs.size:=by omega
  have:=h2 0 _ h (YA6 hs)
  omega
 ·omega
structure TabOk (led:Bool) (t:SetTable):Prop where
 up:Up t.place
 nod:t.dummies = #[]
 led:t.led = led
theorem TabOk.fresh (f m:Nat) (led:Bool):TabOk led (SetTable.fresh f m led):=⟨by simp [Up,SetTable.fresh],rfl,rfl⟩
theorem TabOk.standIn {led:Bool} {t:SetTable} (h:TabOk led t) (n:Nat):TabOk led (t.standIn n):=
 ⟨by simp only [Up,SetTable.standIn,Array.toList_range];exact List.pairwise_lt_range,rfl,h.led⟩
theorem TabOk.orStandIn {led:Bool} {t:SetTable} (h:TabOk led t) (n:Nat):TabOk led (t.orStandIn n):=by
 unfold SetTable.orStandIn;split
 ·exact h
 ·exact h.standIn n
theorem TabOk.plainOff {led:Bool} {t:SetTable} (h:TabOk led t):TabOk led { t with plain:=false }:=⟨h.up,h.nod,h.led⟩
theorem zmB (j:Nat):SetTable.has #[] j = false:=by simp [SetTable.has]
theorem TabOk.put {led:Bool} {t:SetTable} (h:TabOk led t) {j:Nat} (hj:t.place[SetTable.below t.place j]? ≠ some j):TabOk led (t.put j).1:=by
 refine ⟨?_,?_,h.led⟩
 ·show (SetTable.insertAt t.place (SetTable.below t.place j) j).toList.Pairwise (· < ·);rw [SetTable.toList_insertAt];obtain ⟨h1,h2,h3⟩:=zgX h.up j;have e:=List.take_append_drop (SetTable.below t.place j) t.place.toList;have hp:(t.place.toList.take (SetTable.below t.place j) ++ t.place.toList.drop (SetTable.below t.place j)).Pairwise (· < ·):=by rw [e];exact h.up
  obtain ⟨p1,p2,p3⟩:=List.pairwise_append.mp hp;have lo:∀ a ∈ t.place.toList.take (SetTable.below t.place j),a < j:=λa ha=>by
   obtain ⟨i,hi,e⟩:=List.mem_take_iff_getElem.mp ha;exact h2 i a (by omega) (by rw [<- e];simp only [YBC];exact YA6 _)
  have hi:∀ a ∈ t.place.toList.drop (SetTable.below t.place j),j < a:=λa ha=>by
   obtain ⟨i,hi,e⟩:=List.mem_drop_iff_getElem.mp ha;have hs:SetTable.below t.place j + i < t.place.size:=by simp at hi;omega
   have ea:t.place[SetTable.below t.place j + i]? = some a:=by rw [<- e];simp only [YBC];exact YA6 _
   have g1:=h3 _ a (YBA _ _) ea;by_cases z:j = a
   ·exfalso
    by_cases z2:i = 0
    ·subst z2;rw [Nat.add_zero,<- z] at ea;exact hj ea
    ·have hs0:SetTable.below t.place j < t.place.size:=by omega
     have e0:t.place[SetTable.below t.place j]? = some t.place[SetTable.below t.place j]:=YA6 hs0;have g2:=h3 _ _ (YAm _) e0;have g3:=h.up.lt (show SetTable.below t.place j < SetTable.below t.place j + i by omega) e0 ea;omega
   ·omega
  refine List.pairwise_append.mpr ⟨p1,YBd.mpr ⟨hi,p2⟩,λa ha b hb=>?_⟩;rcases YAk.mp hb with z | z
  ·subst z;exact lo a ha
  ·exact p3 a ha b z
 ·show (if SetTable.has t.dummies j = true then _ else _) = _;rw [h.nod,zmB]
  simp
theorem zjo (hd:t.dummies = #[]) (f:Nat->Int) (h:Int):∀ (fuel:Nat) (p:SetTable.Probe),p.dummy = none->∀ j d,SetTable.probe.go t f h fuel p = some (.empty j d)->d = none/\t.place[SetTable.below t.place j]? ≠ some j:=by
 intro fuel
 induction fuel with
 | zero=>intro p _ j d e;unfold SetTable.probe.go at e;cases e
 | succ fuel ih=>
  intro p hp j d e;unfold SetTable.probe.go at e;have adv:∀ q:SetTable.Probe,q.dummy = none->(t.advance q).dummy = none:=λq hq=>by
   unfold SetTable.advance;split
   ·exact hq
   ·exact hq
  cases hs:t.slot p.j with
  | empty=>
   rw [hs] at e;injection e with e
   injection e with e1 e2
   subst e1 e2;refine ⟨hp,λz=>?_⟩;unfold SetTable.slot at hs;simp only [z,beq_self_eq_true,if_true] at hs;cases hs
  | dummy=>
   exfalso
   unfold SetTable.slot at hs;rw [hd,zmB] at hs;by_cases z:t.place[SetTable.below t.place p.j]? = some p.j
   ·simp [z] at hs
   ·simp [z] at hs
  | live i=>
   rw [hs] at e;dsimp only at e;split at e
   ·cases e
   ·exact ih _ (adv p hp) j d e
theorem TabOk.layNew {led:Bool} {t:SetTable} (h:TabOk led t) (es:Array (Int × Value)) (hh:Int) (x:Value):TabOk led (PySem.layNew t es hh x).2.1:=by
 unfold PySem.layNew;cases e:t.freeSlot hh with
 | none=>exact h.standIn _
 | some r=>
  obtain ⟨slot,wd⟩:=r;unfold SetTable.freeSlot at e;cases e2:t.probe (λ_=>hh + 1) hh (t.probeStart hh) with
  | none=>rw [e2] at e;cases e
  | some m=>
   rw [e2] at e;cases m with
   | candidate _ _ _=>cases e
   | empty j d=>
    obtain ⟨z1,z2⟩:=zjo h.nod (λ_=>hh + 1) hh (10 * SetTable.turns t.mask) (t.probeStart hh) rfl j d (by unfold SetTable.probe at e2;exact e2);subst z1;injection e with e
    injection e with e3 e4
    subst e3;exact (h.put z2).orStandIn _
theorem TabOk.relayAll {led:Bool} {t:SetTable} (h:TabOk led t) (es:Array (Int × Value)) (wanted:Nat):TabOk led (PySem.relayAll t es wanted).2.1:=by
 unfold PySem.relayAll;cases e:t.relaid (es.map (·.1)) wanted with
 | none=>exact h.standIn _
 | some r=>
  obtain ⟨t',order⟩:=r;dsimp only;have ok:TabOk led t':=by
   unfold SetTable.relaid SetTable.laid at e;cases e1:SetTable.layClean (SetTable.sizeAbove wanted - 1) (es.map (·.1)) with
   | none=>rw [e1] at e;cases e
   | some owner=>
    rw [e1] at e;injection e with e
    injection e with e2 e3
    subst e2;refine ⟨?_,rfl,h.led⟩;show List.Pairwise (· < ·) _;simp only [List.toList_toArray,List.pairwise_map];refine List.Pairwise.filterMap (R:=(· < ·)) _ ?_ List.pairwise_lt_range;intro a a' haa b hb b' hb';simp only [Option.mem_def,Option.map_eq_some_iff] at hb hb';obtain ⟨k,_,q⟩:=hb;obtain ⟨k',_,q'⟩:=hb';subst q q';exact haa
  split
  ·exact ok
  ·exact h.standIn _
end L2
namespace L2
open PySem PyProof.Rows
theorem slot_setiter_next:Slot "set_iterator" "__next__" "set_iterator.__next__":=
 .of (owner := "set_iterator") (n := "__next__") (by rw [typeLookup_type,builtinLookup_eq_fast];kernel_rfl) (by decide +kernel) (by decide +kernel) (by decide +kernel)
  (by first | exact .inl (by decide +kernel) | exact .inr (by decide +kernel)) (by rw [isSubtype_type];kernel_rfl)
theorem zcm:Slot "set_iterator" "__iter__" "set_iterator.__iter__":=
 .of (owner := "set_iterator") (n := "__iter__") (by rw [typeLookup_type,builtinLookup_eq_fast];kernel_rfl) (by decide +kernel) (by decide +kernel) (by decide +kernel)
  (by first | exact .inl (by decide +kernel) | exact .inr (by decide +kernel)) (by rw [isSubtype_type];kernel_rfl)
theorem zcd:entryFor table "set_iterator.__next__" = some Builtin.«set_iterator.__next__»:=entryFor_of_fast (by kernel_rfl)
theorem zcx (a:Value):argsOk "set_iterator.__next__" ⟨[a],[]⟩:=by unfold argsOk;kernel_rfl
theorem zf7:entryFor table "set.__iter__" = some Builtin.«frozenset.__iter__»:=
 entryFor_alias (id' := "frozenset.__iter__") (by kernel_rfl) rfl (by decide +kernel) (by kernel_rfl)
theorem zhC (a:Value):argsOk "set.__iter__" ⟨[a],[]⟩:=by unfold argsOk;kernel_rfl
structure SetRec (w:World) (h:Heap) (a:Addr) (es:Array (Int × Value)) (ep:Nat) (t:SetTable):Prop where
 at_:h.get? a = some { cls:=.type "set",dict:=none,data:=.set es ep t }
 fits:t.fits es.size = true
 tab:TabOk (!w.params.followText "set-order") t
theorem SetRec.keep    (r:SetRec w h a es ep t) (k:∀ o,h.get? a = some o->h'.get? a = some o):SetRec w h' a es ep t:=⟨k _ r.at_,r.fits,r.tab⟩
theorem zgq {α:Type} {l:List α} {i:Nat} (h:i < l.length):(l[i] :: l.eraseIdx i).Perm l:=by
 have e:l = l.take i ++ l[i] :: l.drop (i + 1):=by rw [List.getElem_cons_drop,List.take_append_drop]
 have e2:l.eraseIdx i = l.take i ++ l.drop (i + 1):=List.eraseIdx_eq_take_drop_succ l i;rw [e2];exact List.perm_middle.symm.trans (List.Perm.of_eq e.symm)
theorem zfD {α:Type} (next:Nat->Nat):∀ (fuel k:Nat) (left:List α) (out:Array α),left.length <= fuel->(pickOrder.go next fuel k left out).toList.Perm (out.toList ++ left):=by
 intro fuel
 induction fuel with
 | zero=>
  intro k left out h;have e:left = []:=List.eq_nil_of_length_eq_zero (by omega);subst e;unfold pickOrder.go;rw [YA3]
 | succ fuel ih=>
  intro k left out h;unfold pickOrder.go;cases hl:left with
  | nil=>simp
  | cons x r=>
   have hi:next k % (x :: r).length < (x :: r).length:=Nat.mod_lt _ (by simp)
   have e:(x :: r)[next k % (x :: r).length]? = some (x :: r)[next k % (x :: r).length]:=YAe hi;rw [e];dsimp only;refine (ih _ _ _ (by rw [List.length_eraseIdx,if_pos hi];rw [hl] at h;omega)).trans ?_;rw [Array.toList_push,YA1,List.singleton_append];exact (zgq hi).append_left _
theorem zf3 {α:Type} (next:Nat->Nat) (xs:Array α):(pickOrder next xs).toList.Perm xs.toList:=by
 unfold pickOrder
 have:=zfD next xs.size 0 xs.toList #[] (by simp)
 simpa using this
section
variable {prog:Program} {w:World} {A:Around} {E:Value->Shared->Prop} {s:Shared}
theorem zhW {M:Model} {src:Source} {n:Nat} {Q:Nat->Shared->Prop} (hn:n ≠ 0) (h:∀ i d,i < n->Q i { s with drawn:=d }):wpAny M A (choose src n) Q E s:=λ_ _ _=>⟨hn,h _ _ (Nat.mod_lt _ (Nat.pos_of_ne_zero hn))⟩
theorem zfA {α:Type}:∀ (n:Nat) (xs:List α) (s:Shared) {M:Model} {Q:List α->Shared->Prop},xs.length <= n->(∀ ys d,ys.Perm xs->Q ys { s with drawn:=d })->wpAny M A (drawOrder n xs) Q E s:=by
 intro n
 induction n with
 | zero=>
  intro xs s M Q h hq;have e:xs = []:=List.eq_nil_of_length_eq_zero (by omega);subst e;unfold drawOrder;exact YAf (hq [] s.drawn (.refl _))
 | succ n ih=>
  intro xs s M Q h hq;cases xs with
  | nil=>unfold drawOrder;exact YAf (hq [] s.drawn (.refl _))
  | cons x r=>
   unfold drawOrder;refine YAa (zhW (by simp) λi d hi=>?_);have e:(x :: r)[i]? = some (x :: r)[i]:=YAe hi;rw [e];dsimp only;refine YAa (ih _ _ (by rw [List.length_eraseIdx,if_pos hi];omega) λys d' hp=>YAf ?_);exact hq _ d' ((hp.cons _).trans (zgq hi))
theorem zem (h:Q (w.params.followText "set-order") s):wpAny (model prog w) A setsByText Q E s:=by
 unfold setsByText;exact YAa (YBU (YAf h))
variable {a:Addr} {es:Array (Int × Value)} {ep:Nat} {t:SetTable}
theorem zcb (r:SetRec w s.heap a es ep t) (h:Q (es,ep,t) s):wpAny (model prog w) A (setState a) Q E s:=wpAny_setState_of r.at_ rfl r.fits h
theorem zhR (r:SetRec w s.heap a es ep t) (ht:w.params.followText "set-order" = true) (h:Q (pickOrder (w.params.setOrder a ep) es) s):wpAny (model prog w) A (setWalk a) Q E s:=by
 unfold setWalk;refine YAa (zcb r ?_);dsimp only;refine YAa (zem ?_);rw [if_pos ht];exact YAa (YBU (YAf h))
theorem zeH  (r:SetRec w s.heap a es ep t) (ht:w.params.followText "set-order" = true)
  (h:Q (((pickOrder (w.params.setOrder a ep) es)[given]?).map λe=>(e.2,slot)) s):wpAny (model prog w) A (setNext a slot given ep) Q E s:=by
 unfold setNext;refine YAa (zcb r ?_);dsimp only;refine YAa (zem ?_);rw [if_pos ht];simp only [YBQ,YA2,YBM];exact YAa (zhR r ht (YAf h))
theorem zdZ  (r:SetRec w s.heap a es ep t) (ht:w.params.followText "set-order" = false) (hd:(!t.plain && decide (es.size > 1)) = false)
  (h:Q (match es[SetTable.below t.place slot]?,t.place[SetTable.below t.place slot]? with | some (_,x),some j=>some (x,j + 1) | _,_=>none) s):wpAny (model prog w) A (setNext a slot given ep') Q E s:=by
 unfold setNext;refine YAa (zcb r ?_);dsimp only;refine YAa (zem ?_);rw [if_neg (by rw [ht];exact YAx)];show wpAny _ _ (if (!t.plain && decide (es.size > 1)) = true then _ else _) _ _ _;rw [if_neg (by rw [hd];exact YAx)];have hl:t.led = true:=by have:=r.tab.led;rw [ht] at this;exact this
 show wpAny _ _ ((if (!t.led && !es.isEmpty) = true then unsupported "set:maker-not-led" else pure ()) >>= _) _ _ _;rw [if_neg (by rw [hl];simp)];exact YAa (YAf (YAf h))
theorem zn5 (r:SetRec w s.heap a es ep t) (h:Q (!w.params.followText "set-order" && (!t.plain && decide (es.size > 1))) s):wpAny (model prog w) A (setDrawn a) Q E s:=by
 unfold setDrawn;refine YAa (zcb r ?_);dsimp only;exact YAa (zem (YAf h))
def Goes (w:World) (a p:Addr) (es:Array (Int × Value)) (ep:Nat) (t:SetTable) (first:Value) (ord:List (Int × Value)) (i:Nat) (h:Heap):Prop:=
 (w.params.followText "set-order" = true/\ord = (pickOrder (w.params.setOrder a ep) es).toList/\∃ k tk,first = .int k tk) \/
 (w.params.followText "set-order" = false/\∃ ps n,first = .ref p/\h.get? p = some { cls:=.type "tuple",data:=.seq ps n }/\ps.size = es.size/\ord.length = es.size/\∀ (j:Nat) e,ord[j]? = some e->∃ k:Nat,ps[j]? = some (rawInt k)/\es[k]? = some e) \/
 (w.params.followText "set-order" = false/\(!t.plain && decide (es.size > 1)) = false/\ord = es.toList/\∃ k:Nat,first = rawInt k/\SetTable.below t.place k = i)
structure IterAt (w:World) (h:Heap) (it a p:Addr) (es:Array (Int × Value)) (ep:Nat) (t:SetTable) (ord:List (Int × Value)) (i:Nat):Prop where
 rc:SetRec w h a es ep t
 rec':∃ first,h.get? it = some { cls:=.type "set_iterator",data:=.fields #[first,rawInt i,.ref a,rawInt es.size,rawInt ep] }/\Goes w a p es ep t first ord i h
 len:ord.length = es.size
end
theorem zkU:¬ (Value.type "set_iterator" = Value.type "set"):=by decide +kernel
theorem zfS:¬ (Value.type "set_iterator" = Value.type "tuple"):=by decide +kernel
section
variable {prog:Program} {w:World} {A:Around} {E:Value->Shared->Prop} {s:Shared} {it a p:Addr} {es:Array (Int × Value)} {ep:Nat} {t:SetTable} {ord:List (Int × Value)} {i:Nat}
theorem IterAt.ty (x:IterAt w s.heap it a p es ep t ord i):s.TypeIs (.ref it) "set_iterator" := let ⟨_,e,_⟩:=x.rec';⟨_,e,rfl⟩
theorem ze9 {h h':Heap} {f f':Value} (x:IterAt w h it a p es ep t ord i) (hg':Goes w a p es ep t f' ord (i + 1) h')
  (hs:Heap.SameBut it h h') (e':h'.get? it = some { cls:=.type "set_iterator",data:=.fields #[f',rawInt (i + 1:Nat),.ref a,rawInt es.size,rawInt ep] }):IterAt w h' it a p es ep t ord (i + 1):=by
 have ne:a ≠ it:=λz=>by
  obtain ⟨f,e,_⟩:=x.rec';have q:=x.rc.at_;rw [z,e] at q;exact zkU (congrArg Obj.cls (Option.some.inj q))
 exact ⟨x.rc.keep λo e=>(hs.2 a ne).trans e,⟨f',e',hg'⟩,x.len⟩
theorem zfE {e:Int × Value} {Q:Option Value->Shared->Prop} (x:IterAt w s.heap it a p es ep t ord i) (he:ord[i]? = some e)
  (hQ:∀ h',IterAt w h' it a p es ep t ord (i + 1)->Heap.SameBut it s.heap h'->Q (some e.2) { s with heap:=h' }):wpAny (model prog w) A (pyNext (.ref it)) Q E s:=by
 obtain ⟨f,hf,hg⟩:=id x.rec';unfold pyNext;refine YAa (wpAny_attempt (YAY (name:=Str.ofString "__next__") x.ty slot_setiter_next
  (YAV slot_setiter_next x.ty zcd ?_ (zcx _))))
 unfold Builtin.«set_iterator.__next__»;refine YAa (m:=slotArgs "__next__" 0 _) (YAf ?_);dsimp only;refine YAa (wpAny_fieldsOf hf rfl ?_);dsimp only [rawInt];refine YAa (wpAny_setEntries_of x.rc.at_ rfl x.rc.fits ?_);simp only [YBQ,YA2,YBM];have ei:((i:Int) + 1) = ((i + 1:Nat):Int):=by omega
 rcases hg with ⟨ht,ho,k,tk,rfl⟩ | ⟨ht,ps,n,rfl,hp,hz,hl,hP⟩ | ⟨ht,hd,ho,k,rfl,hb⟩
 ·dsimp only;simp only [YAC];refine YAa (zeH x.rc ht ?_);have e1:(pickOrder (w.params.setOrder a ep) es)[i]? = some e:=by rw [<- YBy,<- ho];exact he
  rw [e1];dsimp only [Option.map];refine YAa (YAO hf (by simp) λh1 e1 s1=>?_);refine YAa (YAO (s:={ s with heap:=h1 }) e1 (by simp) λh2 e2 s2=>?_);refine YAf ⟨e.2,rfl,YAf (hQ h2 (ze9 (f:=.int k tk) (f':=.int (k.toNat:Nat) 0) x (.inl ⟨ht,ho,_,_,rfl⟩) (s1.trans s2) ?_) (s1.trans s2))⟩;rw [e2,ei];rfl
 ·dsimp only;refine YAa (YBs hp rfl ?_);obtain ⟨k,e1,e2⟩:=hP i e he;simp only [YAC,e1,rawInt];refine YAa ?_;unfold setNextDrawn;refine YAa (zcb x.rc ?_);simp only [YBQ,YA2,YBM,e2];refine YAf ?_;refine YAa (YAO hf (by simp) λh2 e2 s2=>?_);have nep:p ≠ it:=λz=>by rw [z,hf] at hp;exact zfS (congrArg Obj.cls (Option.some.inj hp))
  refine YAf ⟨e.2,rfl,YAf (hQ h2 (ze9 (f:=.ref p) (f':=.ref p) x (.inr (.inl ⟨ht,ps,n,rfl,(s2.2 p nep).trans hp,hz,hl,hP⟩)) s2 ?_) s2)⟩;rw [e2,ei];rfl
 ·dsimp only [rawInt];simp only [YAC];refine YAa (zdZ x.rc ht hd ?_);have e1:es[i]? = some e:=by rw [<- YBy,<- ho];exact he
  have hi:i < es.size:=(Array.getElem?_eq_some_iff.mp e1).1;have hps:t.place.size = es.size:=by
   have:=x.rc.fits
   simp only [SetTable.fits,YAL,beq_iff_eq,decide_eq_true_eq] at this;exact this.1
  have e3:t.place[i]? = some t.place[i]:=YA6 (by omega);rw [hb,e1,e3];dsimp only;refine YAa (YAO hf (by simp) λh1 e1 s1=>?_);refine YAa (YAO (s:={ s with heap:=h1 }) e1 (by simp) λh2 e2 s2=>?_);refine YAf ⟨e.2,rfl,YAf (hQ h2 (ze9 (f:=rawInt k) (f':=rawInt (t.place[i] + 1:Nat)) x (.inr (.inr ⟨ht,hd,ho,t.place[i] + 1,rfl,zkO x.rc.tab.up e3⟩)) (s1.trans s2) ?_) (s1.trans s2))⟩;rw [e2,ei];rfl
theorem zgJ {s1:Shared} {A':Around} {Q:Option Value->Shared->Prop} (hh:A'.handled = none) (h:∀ h',(∀ b o,s1.heap.get? b = some o->h'.get? b = some o)->Q none { s1 with heap:=h' }) {R:Fin->Shared->Prop} :
  wpAny (model prog w) A' (do let x <- newExc (Value.type "StopIteration") [];raiseNew x:Sem Fin) R (λe s'=>wpAny (model prog w) A (do
     let b <- isInstance e (Value.type "StopIteration")
     if b = true then pure none else throw e) Q E s') s1:=by
 refine YAa ?_;simp only [newExc,newTuple];refine YAa (YAQ ?_ (by size_fits));refine YAa (m:=firstArgMember _ _) (wpAny_of_eq (a:=Value.none) (by first | rfl | (simp only [firstArgMember];rfl)) ?_);refine YAQ ?_ (by size_fits);simp only [raiseNew];refine YAa (wpAny_handled ?_);rw [hh];refine YAa (YAf (wpAny_throw ?_));refine YAa (wpAny_isInstance (T := "StopIteration") (b:=true) ⟨_,YAp _ rfl,rfl⟩ isSubtype_stop ?_);exact YAf (h _ λb o e=>YAc _ (YAc _ e))
theorem zf6 {Q:Option Value->Shared->Prop} (hh:A.handled = none) (x:IterAt w s.heap it a p es ep t ord i) (he:i = es.size)
  (hQ:∀ h',(∀ b o,b ≠ it->s.heap.get? b = some o->h'.get? b = some o)->Q none { s with heap:=h' }):wpAny (model prog w) A (pyNext (.ref it)) Q E s:=by
 obtain ⟨f,hf,hg⟩:=id x.rec';unfold pyNext;refine YAa (wpAny_attempt (YAY (name:=Str.ofString "__next__") x.ty slot_setiter_next
  (YAV slot_setiter_next x.ty zcd ?_ (zcx _))))
 unfold Builtin.«set_iterator.__next__»;refine YAa (m:=slotArgs "__next__" 0 _) (YAf ?_);dsimp only;refine YAa (wpAny_fieldsOf hf rfl ?_);dsimp only [rawInt];refine YAa (wpAny_setEntries_of x.rc.at_ rfl x.rc.fits ?_);simp only [YBQ,YA2,YBM];rcases hg with ⟨ht,ho,k,tk,rfl⟩ | ⟨ht,ps,n,rfl,hp,hz,hl,hP⟩ | ⟨ht,hd,ho,k,rfl,hb⟩
 ·dsimp only;simp only [YAC];refine YAa (zeH x.rc ht ?_);have e1:(pickOrder (w.params.setOrder a ep) es)[i]? = none:=by
   rw [<- YBy,<- ho];exact List.getElem?_eq_none_iff.mpr (by rw [x.len];omega)
  rw [e1];dsimp only [Option.map];refine YAa (YAO hf (by simp) λh1 e1 s1=>?_);exact zgJ (A':=A.in1) (s1:={ s with heap:=h1 }) hh λh' k=>hQ h' λb o nb e=>k b o ((s1.2 b nb).trans e)
 ·dsimp only;refine YAa (YBs hp rfl ?_);have e1:ps[i]? = none:=by simp;omega
  simp only [YAC,e1];refine YAa (YAO hf (by simp) λh1 e1 s1=>?_);refine YAa (YAO (s:={ s with heap:=h1 }) e1 (by simp) λh2 e2 s2=>?_);exact zgJ (A':=A.in1) (s1:={ s with heap:=h2 }) hh λh' k=>hQ h' λb o nb e=>k b o (((s1.trans s2).2 b nb).trans e)
 ·dsimp only [rawInt];simp only [YAC];refine YAa (zdZ x.rc ht hd ?_);have e1:es[i]? = none:=by simp;omega
  rw [hb,e1];dsimp only;refine YAa (YAO hf (by simp) λh1 e1 s1=>?_);exact zgJ (A':=A.in1) (s1:={ s with heap:=h1 }) hh λh' k=>hQ h' λb o nb e=>k b o ((s1.2 b nb).trans e)
theorem zkY (r:SetRec w s.heap a es ep t) (hz:es.size <= sizeLine)
  (hQ:∀ it p h' d ord,s.heap.objs.size <= it->(p = a\/s.heap.objs.size <= p)->(∀ b o,s.heap.get? b = some o->h'.get? b = some o)->ord.Perm es.toList->IterAt w h' it a p es ep t ord 0->Q (.ref it) { s with heap:=h',drawn:=d }) :
  wpAny (model prog w) A (pyIter (.ref a)) Q E s:=by
 have hT:s.TypeIs (.ref a) "set" := ⟨_,r.at_,rfl⟩;refine wpAny_pyIter_slot hT F.slot_set_iter (YAV F.slot_set_iter hT zf7 ?_ (zhC _));unfold Builtin.«frozenset.__iter__» Builtin.Frozenset.slot0;refine YAa (YAa (m:=slotArgs "__iter__" 0 _) (YAf ?_));dsimp only;unfold Builtin.Frozenset.addrOf;refine YAf ?_;refine YAa (m:=Builtin.Frozenset.sizeOf a) ?_;unfold Builtin.Frozenset.sizeOf;refine YAa (wpAny_setEntries_of r.at_ rfl r.fits (YAf ?_));refine YAa (zn5 r ?_);by_cases hdr:(!w.params.followText "set-order" && (!t.plain && decide (es.size > 1))) = true
 ·rw [if_pos hdr];have ht:w.params.followText "set-order" = false:=by
   rw [YAL] at hdr
   simpa using hdr.1
  refine YAa (zfA es.size (List.range es.size) s (by simp) λys d hp=>?_);have hyl:ys.length = es.size:=by rw [hp.length_eq];simp
  refine YAa (wpAny_newTuple ?_ (by rw [YAd,hyl];exact hz));refine YAa (m:=setEpoch a) ?_;unfold setEpoch;have r1:SetRec w (s.heap.push { cls:=.type "tuple",data:=.seq (ys.map λ(i:Nat)=>rawInt i).toArray }) a es ep t:=r.keep λo e=>YAc _ e;refine YAa (zcb (s:={ s with heap:=s.heap.push { cls:=.type "tuple",data:=.seq (ys.map λ(i:Nat)=>rawInt i).toArray },drawn:=d }) r1 (YAf ?_));refine YAa (YAQ ?_ (by size_fits));refine YAf ⟨_,rfl,"set_iterator",_,⟨_,YAp _ rfl,rfl⟩,slot_setiter_next.lookup,?_⟩;refine hQ _ s.heap.objs.size _ d (ys.filterMap λj=>es[j]?) ?_ (.inr (YAm _)) (λb o e=>YAc _ (YAc _ e)) ?_ ?_
  ·show s.heap.objs.size <= (s.heap.push _).objs.size;rw [YBl];omega
  ·exact (hp.filterMap _).trans (List.Perm.of_eq (filterMap_getElem?_range es))
  ·have all:∀ j ∈ ys,∃ e,es[j]? = some e:=λj hj=>by
    have:=hp.mem_iff.mp hj
    exact ⟨_,YA6 (YA4.mp this)⟩
   have key:∀ (l:List Nat),(∀ j ∈ l,∃ e,es[j]? = some e)->(l.filterMap λj=>es[j]?).length = l.length/\∀ (k:Nat) e,(l.filterMap λj=>es[j]?)[k]? = some e->∃ j,l[k]? = some j/\es[j]? = some e:=by
    intro l
    induction l with
    | nil=>intro _;exact ⟨rfl,λk e h=>by simp at h⟩
    | cons j r ih=>
     intro h;obtain ⟨e0,he0⟩:=h j YAh;obtain ⟨i1,i2⟩:=ih λj hj=>h j (YAj _ hj);rw [List.filterMap_cons_some (b:=e0) he0];refine ⟨by rw [YAE,YAE,i1],λk e hk=>?_⟩;cases k with
     | zero=>simp at hk;subst hk;exact ⟨j,rfl,he0⟩
     | succ k=>simpa using i2 k e (by simpa using hk)
   obtain ⟨k1,k2⟩:=key ys all;refine ⟨r1.keep λo e=>YAc _ e,⟨_,YAp _ rfl,.inr (.inl ⟨ht,_,_,rfl,YAc _ (YAp _ rfl),by simp [hyl],by rw [k1];exact hyl,λj e hj=>?_⟩)⟩,by rw [k1];exact hyl⟩;obtain ⟨k,e1,e2⟩:=k2 j e hj;exact ⟨k,by simp [e1],e2⟩
 ·rw [if_neg hdr];refine YAa (YAf ?_);refine YAa (m:=setEpoch a) ?_;unfold setEpoch;refine YAa (zcb r (YAf ?_));refine YAa (YAQ ?_ (by size_fits));refine YAf ⟨_,rfl,"set_iterator",_,⟨_,YAp _ rfl,rfl⟩,slot_setiter_next.lookup,?_⟩;cases ht:w.params.followText "set-order" with
  | true=>
   have hp:=zf3 (w.params.setOrder a ep) es;refine hQ _ a _ s.drawn (pickOrder (w.params.setOrder a ep) es).toList (YAm _) (.inl rfl) (λb o e=>YAc _ e) hp ?_;exact ⟨r.keep λo e=>YAc _ e,⟨_,YAp _ rfl,.inl ⟨ht,rfl,_,_,rfl⟩⟩,by rw [hp.length_eq];simp⟩
  | false=>
   have hd:(!t.plain && decide (es.size > 1)) = false:=by rw [ht] at hdr;simpa using hdr
   refine hQ _ a _ s.drawn es.toList (YAm _) (.inl rfl) (λb o e=>YAc _ e) (.refl _) ?_;exact ⟨r.keep λo e=>YAc _ e,⟨_,YAp _ rfl,.inr (.inr ⟨ht,hd,rfl,0,rfl,zkF _ r.tab.up⟩)⟩,by simp⟩
end
theorem zaF:∀ {ks xs:List Int},ks.Nodup->(∀ x ∈ ks,x ∈ xs)->ks.length <= xs.length
 | [],_,_,_=>YAF _
 | k :: r,xs,nd,h=>by
  obtain ⟨n1,n2⟩:=YBf.mp nd;have hk:k ∈ xs:=h k YAh;have ih:=zaF (xs:=xs.erase k) n2 λx hx=>(List.mem_erase_of_ne (show x ≠ k from λz=>n1 (z ▸ hx))).mpr (h x (YAj _ hx));rw [List.length_erase_of_mem hk] at ih
  have:0 < xs.length:=List.length_pos_of_mem hk
  rw [YAE];omega
def keyV:Value->Int
 | .int k _=>k
 | _=>0
def keys (es:Array (Int × Value)):List Int:=es.toList.map λe=>keyV e.2
def AllInt (es:Array (Int × Value)):Prop:=∀ e ∈ es.toList,∃ k t,e = (hashInt k,Value.int k t)
structure SetInts (w:World) (h:Heap) (a:Addr) (xs:List Int):Prop where
 ex:∃ es ep t,SetRec w h a es ep t/\AllInt es/\es.size < scanBound/\(keys es).Nodup/\∀ k,k ∈ keys es ↔ k ∈ xs
theorem SetInts.keep   (r:SetInts w h a xs) (k:∀ o,h.get? a = some o->h'.get? a = some o):SetInts w h' a xs:=
 let ⟨es,ep,t,r1,r2⟩:=r.ex
 ⟨es,ep,t,r1.keep k,r2⟩
theorem AllInt.elems  (h:AllInt es):ElemsOf (intKind prog w) es.toList:=λe he=>by
 obtain ⟨k,t,rfl⟩:=h e he;exact ⟨⟨k,intKind_is _ _ _ _,rfl⟩,rfl⟩
theorem AllInt.perm (h:AllInt es) (p:es'.toList.Perm es.toList):AllInt es':=λe he=>h e (p.mem_iff.mp he)
theorem mem_keys  (h:AllInt es) (k:Int):k ∈ keys es ↔ ∃ e ∈ es.toList,(intKind prog w).is k e.2 = true:=by
 unfold keys;rw [YAD];constructor
 ·rintro ⟨e,he,rfl⟩;obtain ⟨k,t,rfl⟩:=h e he;exact ⟨_,he,intKind_is _ _ _ _⟩
 ·rintro ⟨e,he,q⟩;obtain ⟨k',t,rfl⟩:=h e he;exact ⟨_,he,((intKind prog w).inj _ _ _ q (intKind_is _ _ _ _)).symm⟩
section
variable {prog:Program} {w:World} {A:Around} {E:Value->Shared->Prop} {s:Shared} {a:Addr}
theorem ziE   (r:SetRec w h a es ep t) (hf:t'.fits es'.size = true) (ht:TabOk (!w.params.followText "set-order") t') :
  SetRec w (h.update a (Obj.putSet es' t')) a es' (ep + 1) t':=by
 refine ⟨?_,hf,ht⟩;have q:=Heap.get?_update_self (Obj.putSet es' t') r.at_ (by rw [putSet_of es' t' rfl];rfl);rw [putSet_of es' t' rfl] at q;exact q
theorem zgm   (r:SetInts w s.heap a xs) (hr:xs.length + 1 < scanBound)
  (h:∀ b h',Heap.SameBut a s.heap h'->SetInts w h' a (k :: xs)->Q b { s with heap:=h' }):wpAny (model prog w) A (setAddHashed a (.int k tk) (hashInt k)) Q E s:=by
 obtain ⟨es,ep,t,r1,ai,hb,nd,hm⟩:=r.ex;have hkey:(intKind prog w).is k (.int k tk) = true:=intKind_is _ _ _ _;have hlen:es.size <= xs.length:=by
  have e1:es.size = (keys es).length:=by unfold keys;simp
  rw [e1];exact zaF nd λx hx=>(hm x).mp hx
 unfold setAddHashed setAddHashedIn;refine YAX (YAa (zcb r1 ?_));dsimp only;rw [byScan_of (knd:=intKind prog w) rfl hb ai.elems];simp only [↓reduceIte];unfold setAddByScan;refine YAa (YAa (YBH ?_));refine YAa (wpAny_setScan_of (knd:=intKind prog w) hkey r1.at_ rfl r1.fits ai.elems ?_);cases hr2:List.findIdx? (λe=>(intKind prog w).is k e.2) es.toList with
 | some j=>
  dsimp only;obtain ⟨hj,hpj,_⟩:=List.findIdx?_eq_some_iff_getElem.mp hr2;have hk:k ∈ xs:=(hm k).mp ((mem_keys (prog:=prog) (w:=w) ai k).mpr ⟨_,YBI hj,hpj⟩);refine YAf (YAf ?_);exact h _ s.heap (Heap.SameBut.refl a s.heap) ⟨es,ep,t,r1,ai,hb,nd,λk'=>by
   rw [hm k',YAk];exact ⟨.inr,λz=>z.elim (λe=>e ▸ hk) id⟩⟩
 | none=>
  dsimp only;have hk:k ∉ keys es:=λhk=>by
   obtain ⟨e,he,q⟩:=(mem_keys (prog:=prog) (w:=w) ai k).mp hk
   have:=List.findIdx?_eq_none_iff.mp hr2 e he
   rw [q] at this;cases this
  have hperm:=layNew_perm t es (hashInt k) (.int k tk);have hfits:=layNew_fits t es (hashInt k) (.int k tk);have htab:=r1.tab.layNew es (hashInt k) (.int k tk);have hgw:∀ (b:Bool) {s₁:Shared} {Q':Unit->Shared->Prop},Q' () s₁->wpAny (model prog w) A (match b with | true=>rule "set.scan.the-table-gave-way" | false=>pure ()) Q' E s₁:=
   λb s₁ Q' hq=>by cases b <;> first | exact YAf hq | exact YBH hq
  show wpAny (model prog w) A (match layNew t es (hashInt k) (.int k tk) with | _=>_) _ _ _;generalize layNew t es (hashInt k) (.int k tk) = L at hperm hfits htab ⊢;obtain ⟨es1,t1,wd,gave⟩:=L;dsimp only at hperm hfits htab ⊢;rw [Array.toList_push] at hperm;have ai1:AllInt es1:=λe he=>by
   rcases YAr.mp (hperm.mem_iff.mp he) with z | z
   ·exact ai e z
   ·rw [YAg] at z;exact ⟨k,tk,z⟩
  have kp:(keys es1).Perm (keys es ++ [k]):=by
   have:=hperm.map λe:Int × Value=>keyV e.2
   rw [YAy] at this;exact this
  have hz1:es1.size = es.size + 1:=by
   have:=hperm.length_eq
   rw [YAs] at this
   simpa using this
  have hb1:es1.size < scanBound:=by omega
  have nd1:(keys es1).Nodup:=kp.nodup_iff.mpr (YBw.mpr ⟨nd,by simp,λx hx y hy=>by rw [YAg] at hy;subst hy;exact λz=>hk (z ▸ hx)⟩);have hm1:∀ k',k' ∈ keys es1 ↔ k' ∈ k :: xs:=λk'=>by
   rw [kp.mem_iff,YAr,YAg,YAk,hm k'];exact or_comm
  refine YAa (hgw _ ?_)
  -- the table as it is stored: plain stays or goes
  have fin:∀ t2:SetTable,t2.fits es1.size = true->TabOk (!w.params.followText "set-order") t2->wpAny (model prog w) A (do
    storeSet a es1 t2
    if (!wd && t2.tooFull) = true then do
      (match (relayAll t2 es1 (SetTable.grown es1.size)).2.2 with | true=>rule "set.scan.the-table-gave-way" | false=>pure ())
      storeSet a (relayAll t2 es1 (SetTable.grown es1.size)).1 (relayAll t2 es1 (SetTable.grown es1.size)).2.1
      pure (some true)
     else pure (some true)) (λx s'=>wpAny (model prog w) A (match x with | some added=>pure added | none=>setAddHashedIn a (.int k tk) (hashInt k) 99999) Q E s') E s:=λt2 hf2 ht2=>by
   refine YAa (wpAny_storeSet_of r1.at_ rfl ?_ (fits_of_scanBound hb1));have r2:=ziE (es':=es1) (t':=t2) r1 hf2 ht2;split
   ·have hp2:=relayAll_perm t2 es1 (SetTable.grown es1.size);have hf3:=relayAll_fits t2 es1 (SetTable.grown es1.size);have ht3:=ht2.relayAll es1 (SetTable.grown es1.size);generalize relayAll t2 es1 (SetTable.grown es1.size) = R at hp2 hf3 ht3 ⊢;obtain ⟨es2,t3,gave2⟩:=R;dsimp only at hp2 hf3 ht3 ⊢;have hz2:es2.size = es1.size:=by simpa using hp2.length_eq
    have kp2:(keys es2).Perm (keys es1):=hp2.map _;refine YAa (hgw _ ?_);refine YAa (wpAny_storeSet_of (s:={ s with heap:=_ }) r2.at_ rfl ?_ (fits_of_scanBound (by omega)));refine YAf (YAf ?_);exact h _ _ ((Heap.SameBut.update ..).trans (Heap.SameBut.update ..)) ⟨es2,_,t3,ziE r2 hf3 ht3,ai1.perm hp2,by omega,kp2.nodup_iff.mpr nd1,λk'=>(kp2.mem_iff).trans (hm1 k')⟩
   ·refine YAf (YAf ?_);exact h _ _ (Heap.SameBut.update ..) ⟨es1,_,t2,r2,ai1,hb1,nd1,hm1⟩
  split
  ·refine YAa ?_;rw [hashByValue_scannable 8 rfl];refine YAf ?_;split
   ·exact fin t1 hfits htab
   ·exact fin _ (SetTable.fits_plain_off hfits) htab.plainOff
  ·refine YAa (YAf ?_);simp only [↓reduceIte];exact fin t1 hfits htab
end
section
variable {prog:Program} {w:World} {A:Around} {R:Result->Shared->Prop} {I S:Addr} {fp wr:List Addr} {n:Nat} {P:Nat->Value->Prop} {St:Nat->Heap->Prop}
theorem zfp (W:Walks prog w A.in1 I fp wr n P St) (hSf:S ∉ fp) (val:Nat->Int) (hval:∀ i v,P i v->∃ t,v = .int (val i) t) (hb:n + 1 < scanBound) :
  ∀ (k i:Nat) (s:Shared),n - i = k->i <= n->St i s.heap->SetInts w s.heap S ((List.range i).map val).reverse ->
   (∀ h' tk,(∀ b o,b ∉ S :: wr->s.heap.get? b = some o->h'.get? b = some o)->SetInts w h' S ((List.range n).map val).reverse->R (.ok (.ret .none)) { s with heap:=h',toks:=tk }) ->
   codeAny (model prog w) A (.builtin "set.update.loop" ⟨[.ref S,.ref I],[]⟩) R s:=by
 have hSw:S ∉ wr:=λh=>hSf (W.sub _ h);intro k
 induction k with
 | zero=>
  intro i s hk hi hst hS hR;have hin:i = n:=by omega
  subst hin;refine YBz PyProof.Rows.F.entry_set_update_loop ?_;rw [Around.under_plainId PyProof.Rows.F.plain_set_update_loop _];show wpAny _ A.in1 (pyNext (.ref I) >>= _) _ _ s;refine YAa (W.done s _ _ hst λh' tk hm=>YAf ?_);exact hR h' tk (λb o hb' e=>hm b o (λz=>hb' (YAj _ z)) e) (hS.keep λo e=>hm S o hSw e)
 | succ k ih=>
  intro i s hk hi hst hS hR;have hlt:i < n:=by omega
  refine YBz PyProof.Rows.F.entry_set_update_loop ?_;rw [Around.under_plainId PyProof.Rows.F.plain_set_update_loop _];show wpAny _ A.in1 (pyNext (.ref I) >>= _) _ _ s;refine YAa (W.item i s _ _ hlt hst λv h1 tk1 hP hst' hm=>?_);obtain ⟨t,rfl⟩:=hval i v hP;show wpAny _ A.in1 (holding [Value.int (val i) t] (setAdd S (.int (val i) t)) >>= _) _ _ _;refine YAa (YAX ?_);unfold setAdd;refine YAX (YAa ((intKind prog w).pyHash (k:=val i) (intKind_is _ _ _ _) ?_));refine zgm (s:={ s with heap:=h1,toks:=tk1 + 1 }) (xs:=((List.range i).map val).reverse) (hS.keep λo e=>hm S o hSw e) (by simp;omega) λb h2 sb hS2=>?_;refine YAf ⟨plainId_quiet PyProof.Rows.F.plain_set_update_loop _,ih (i + 1) _ (by omega) hlt (W.frame _ _ _ hst' λb hb o e=>(sb.2 b (λz=>hSf (z ▸ hb))).trans e) ?_ λh3 tk3 hm3 hS3=>?_⟩
  ·rw [List.range_succ,YAy,List.reverse_append];exact hS2
  ·exact hR h3 tk3 (λb o hb' e=>hm3 b o hb' ((sb.2 b (λz=>hb' (z ▸ YAh))).trans (hm b o (λz=>hb' (YAj _ z)) e))) hS3
end
section
variable {prog:Program} {w:World} {A:Around} {E:Value->Shared->Prop} {s:Shared}
theorem zeE
  (h:Q₁ (.ref s.heap.objs.size) { s with heap:=s.heap.push { cls:=.type "set",dict:=none,data:=.set #[] 0 (.fresh 0 0 (!w.params.followText "set-order")) } }) :
  codeAny (model prog w) A (.call (.builtin "set.__new__") ⟨[.type "set",a],[]⟩) (wants Q₁ E) s:=by
 refine codeAny_of_tree ?_;show wpAny _ A.in1 (do checkBuiltinCall "set.__new__" ⟨[.type "set",a],[]⟩;again (.builtin "set.__new__" ⟨[.type "set",a],[]⟩)) _ _ s;refine YAa (wpAny_of_eq (PySem.F.newCall_set_1 a) (YAf ⟨plainId_quiet PySem.F.plain_set_new _,YBz PySem.F.entry_set_new ?_⟩));rw [Around.under_plainId PySem.F.plain_set_new _];unfold Builtin.«set.__new__» Builtin.Frozenset.newClass;have hsub:=sub_set_self;obtain ⟨hp,g,d,tk,os⟩:=s;dsimp only
 wp_walk
 refine YBU (YAf ?_);dsimp only;simp only [newObj];exact YAa (wpAny_alloc (YAf (YAf h)))
theorem zes {h:Heap}:SetInts w (h.push { cls:=.type "set",dict:=none,data:=.set #[] 0 (.fresh 0 0 (!w.params.followText "set-order")) }) h.objs.size []:=
 ⟨#[],0,_,⟨YAp _ rfl,by rfl,TabOk.fresh _ _ _⟩,λe he=>by simp at he,by decide,by simp [keys],λk=>by simp [keys]⟩
theorem zfT   (hh:A.handled = none) (hl:s.heap.IsList l items) (hi:IntsAre items.toList ns) (hb:items.size + 1 < scanBound)
  (h:∀ (h':Heap) (tk:Nat),SetInts w h' s.heap.objs.size ns->(∀ b o,s.heap.get? b = some o->h'.get? b = some o)->Q (.ref s.heap.objs.size) { s with heap:=h',toks:=tk }) :
  wpAny (model prog w) A (call (.type "set") [.ref l]) Q E s:=by
 obtain ⟨c,tl,hmro⟩:=YAP.mro;have hmade:=YAP.made;have hsub:=YAP.sub;refine wpAny_call (codeAny_of_tree ?_);show wpAny _ _ (callAny (.type "set") _) _ _ _;refine YAf ⟨Code.quiet_builtin _ (by decide +kernel),YBz PySem.F.entry_type_call ?_⟩;rw [Around.under_plain (weight_type_call_type "set" [.ref l] []) rfl];have h1:=YAP.notType;have h2:=YAP.canCreate;have hct:=PySem.F.typeCall_set_1 (.ref l)
 repeat (any_goals (first | assumption | wp_step))
 refine codeAny_mono (zeE (a:=.ref l) (E:=E) (Q₁:=λobj s₁=>obj = .ref s.heap.objs.size/\s₁ = { s with heap:=s.heap.push { cls:=.type "set",dict:=none,data:=.set #[] 0 (.fresh 0 0 (!w.params.followText "set-order")) } }) ⟨rfl,rfl⟩) λr s₁ hr=>?_;cases r with
 | error e=>exact hr
 | ok fl=>
  cases fl with
  | ret obj=>
   obtain ⟨rfl,rfl⟩:=hr;have hSI0:SetInts w (s.heap.push { cls:=.type "set",dict:=none,data:=.set #[] 0 (.fresh 0 0 (!w.params.followText "set-order")) }) s.heap.objs.size []:=zes;generalize (!w.params.followText "set-order") = led at hSI0 ⊢;have hS:(s.heap.push { cls:=.type "set",dict:=none,data:=.set #[] 0 (.fresh 0 0 led) }).get? s.heap.objs.size = some { cls:=.type "set",dict:=none,data:=.set #[] 0 (.fresh 0 0 led) }:=YAp _ rfl;have hT:Shared.TypeIs { s with heap:=s.heap.push { cls:=.type "set",dict:=none,data:=.set #[] 0 (.fresh 0 0 led) } } (.ref s.heap.objs.size) "set" := ⟨_,hS,rfl⟩;have hSI:SetInts w (s.heap.push { cls:=.type "set",dict:=none,data:=.set #[] 0 (.fresh 0 0 led) }) s.heap.objs.size []:=hSI0;have hli:=YAP.init.lookup;have hbi:=YAP.init.bind (.ref s.heap.objs.size)
   repeat (any_goals (first | assumption | wp_step))
   refine codeAny_mono (codeAny_call_builtin (R:=wants (λr s₂=>r = .none/\∃ h' tk,s₂ = { s with heap:=h',toks:=tk }/\SetInts w h' s.heap.objs.size ns/\(∀ b o,s.heap.get? b = some o->h'.get? b = some o)) E)
    YAP.init.plain PySem.F.entry_set_init (check_set_init_1 hT ?_)) λr₂ s₂ hr₂=>?_
   ·obtain ⟨ol,hol,hcl,nl,hdl⟩:=hl;obtain ⟨ocls,odict,odata,oslots⟩:=ol;simp only at hcl hdl;subst hcl;subst hdl;have hol':(s.heap.push { cls:=.type "set",dict:=none,data:=.set #[] 0 (.fresh 0 0 led) }).get? l = some { cls:=.type "list",dict:=odict,data:=.seq items nl,slots:=oslots }:=YAc _ hol;have hsls:=PySem.F.sub_list_set;have hslf:=PySem.F.sub_list_frozenset;have hne:(Value.type "list" == Value.type "dict") = false:=by decide
    have hl1:(s.heap.push { cls:=.type "set",dict:=none,data:=.set #[] 0 (.fresh 0 0 led) }).IsList l items:=⟨_,hol',rfl,nl,rfl⟩;unfold Builtin.«set.__init__» noKeywords Builtin.Frozenset.updateFrom;generalize hPI:pyIter = PI
    wp_walk
    subst hPI;refine YBO hl1 ?_;refine YAa (wpAny_runValue ?_);have hlS:l < s.heap.objs.size:=YAn hol;have hzO:(s.heap.push { cls:=.type "set",dict:=none,data:=.set #[] 0 (.fresh 0 0 led) }).objs.size = s.heap.objs.size + 1:=YBl _ _;have hneI:l ≠ (s.heap.push { cls:=.type "set",dict:=none,data:=.set #[] 0 (.fresh 0 0 led) }).objs.size:=by rw [hzO];exact YAw (YBb hlS)
    have hval:∀ (i:Nat) (v:Value),items[i]? = some v->∃ t,v = .int ((λi=>ns.getD i 0) i) t:=λi v hv=>
     IntsAre.int_at hi i v (by rw [YBy];exact hv)
    have hnl:items.size = ns.length:=by rw [<- hi.length];simp
    have hns:((List.range items.size).map λi=>ns.getD i 0) = ns:=by
     apply YBB
     ·simp [hnl]
     ·intro j h1 h2;simp [List.getD,YAe h2]
    refine zfp (Walks.list (by simp [hh]) _ l hneI items) (by rw [hzO];simp only [YAk,YAN,YBG,not_or];exact ⟨YAw (YBV _),YBe hlS⟩) (λi=>ns.getD i 0) hval hb (items.size - 0) 0 _ (by omega) (YAF _)
     ⟨⟨_,YAp _ rfl,rfl,rfl⟩,(hl1.push _)⟩ ?hS0 ?hR
    case hS0=>exact hSI.keep λo e=>YAc _ e
    case hR=>
     intro h' tk hm hS';rw [hns] at hS';refine YAf ?_;show wpAny _ _ (ret Value.none) _ _ _;refine YAf ⟨rfl,h',tk,rfl,?_,λb o e=>?_⟩
     ·obtain ⟨es,ep,t,q1,q2,q3,q4,q5⟩:=hS'.ex;exact ⟨es,ep,t,q1,q2,q3,q4,λk=>by rw [q5 k,List.mem_reverse]⟩
     ·have hb1:=YAn e;exact hm b o (by rw [hzO];simp only [YAk,YAN,YBG,not_or];exact ⟨YAw hb1,YAw (YBb hb1)⟩) (YAc _ (YAc _ e))
   ·cases r₂ with
    | error e=>exact hr₂
    | ok fl₂=>
     cases fl₂ with
     | ret r=>
      obtain ⟨rfl,h',tk,rfl,hS',hk'⟩:=hr₂
      repeat (any_goals (first | assumption | wp_step))
      exact h _ _ hS' hk'
     | _=>exact hr₂.elim
  | _=>exact hr.elim
end
theorem zg7:splitId "set.__len__" = some ("set","__len__"):=by decide +kernel
theorem zdI:entryFor table "set_iterator.__iter__" = some Builtin.«dict_keyiterator.__iter__»:=
 entryFor_alias (id' := "dict_keyiterator.__iter__") (by kernel_rfl) rfl (by decide +kernel) (by kernel_rfl)
theorem zeq (a:Value):argsOk "set_iterator.__iter__" ⟨[a],[]⟩:=by unfold argsOk;kernel_rfl
theorem IterAt.frame {w:World} {h h':Heap} {it a p:Addr} {es:Array (Int × Value)} {ep:Nat} {t:SetTable} {ord:List (Int × Value)} {i:Nat} (x:IterAt w h it a p es ep t ord i)
  (k:∀ b ∈ [it,a,p],∀ o,h.get? b = some o->h'.get? b = some o):IterAt w h' it a p es ep t ord i:=by
 obtain ⟨f,e,g⟩:=x.rec';refine ⟨x.rc.keep λo e=>k a (by simp) o e,⟨f,k it (by simp) _ e,?_⟩,x.len⟩;rcases g with g | ⟨ht,ps,n,e1,e2,r⟩ | g
 ·exact .inl g
 ·exact .inr (.inl ⟨ht,ps,n,e1,k p (by simp) _ e2,r⟩)
 ·exact .inr (.inr g)
theorem zoy {M:Model} {A:Around} {E:Value->Shared->Prop} {s:Shared} {α:Type} {c:Prop} [Decidable c] {x y:Sem α} {Q:α->Shared->Prop} (hc:c) (h:wpAny M A x Q E s):wpAny M A (if c then x else y) Q E s:=by rw [if_pos hc];exact h
theorem zqw {M:Model} {A:Around} {E:Value->Shared->Prop} {s:Shared} {α:Type} {c:Prop} [Decidable c] {x y:Sem α} {Q:α->Shared->Prop} (hc:¬ c) (h:wpAny M A y Q E s):wpAny M A (if c then x else y) Q E s:=by rw [if_neg hc];exact h
section
variable {prog:Program} {w:World} {A:Around} {E:Value->Shared->Prop} {s:Shared}
theorem zly {it a p:Addr} {es:Array (Int × Value)} {ep:Nat} {t:SetTable} {ord:List (Int × Value)} (hh:A.handled = none) (hl:ord.length = es.size) :
  Walks prog w A it [it,a,p] [it] es.size (λi v=>∃ e,ord[i]? = some e/\v = e.2) (λi h=>IterAt w h it a p es ep t ord i) where
 sub:=λb hb=>by simp at hb;simp [hb]
 frame:=λi h h' st k=>st.frame k
 item:=λi s Q E' hi st hQ=>by
  have e:ord[i]? = some ord[i]:=YAe (by omega);refine zfE st e λh' st' sb=>?_;exact hQ _ h' s.toks ⟨_,e,rfl⟩ st' λb o hb e=>(sb.2 b (by simpa using hb)).trans e
 done:=λs Q E' st hQ=>zf6 hh st rfl λh' k=>hQ h' s.toks λb o hb e=>k b o (by simpa using hb) e
 self:=λi s Q E' st hQ=>by
  refine wpAny_pyIter_slot st.ty zcm (YAV zcm st.ty zdI ?_ (zeq _));show wpAny _ _ (ret (.ref it)) _ _ s;exact YAf ⟨_,rfl,"set_iterator",_,st.ty,slot_setiter_next.lookup,hQ⟩
theorem zeK:∀ (l:List (Int × Value)),(∀ e ∈ l,∃ k t,e = (hashInt k,Value.int k t))->IntsAre (l.map (·.2)) (l.map λe=>keyV e.2)
 | [],_=>.nil
 | e :: r,h=>by
  obtain ⟨k,t,rfl⟩:=h e YAh;exact .cons k t (zeK r λe he=>h e (YAj _ he))
theorem zia {a:Addr} {xs:List Int} {Q:List Value->Shared->Prop} (hh:A.handled = none) (r:SetInts w s.heap a xs)
  (h:∀ vs ns h' d tk,IntsAre vs ns->ns.Nodup->(∀ k,k ∈ ns ↔ k ∈ xs)->(∀ b o,s.heap.get? b = some o->h'.get? b = some o)->s.heap.objs.size < h'.objs.size->Q vs { s with heap:=h',drawn:=d,toks:=tk }) :
  wpAny (model prog w) A (collect (.ref a)) Q E s:=by
 obtain ⟨es,ep,t,r1,ai,hb,nd,hm⟩:=r.ex;have hz:es.size <= sizeLine:=fits_of_scanBound hb;unfold collect;refine YAa (wpAny_runValue (YBz entry_proto_collect' ?_));show wpAny _ _ (do again (.builtin "list.__iadd__" ⟨[<- newList [],.ref a],[]⟩)) _ _ s;refine YAa (wpAny_newList (YAf ⟨Code.quiet_builtin _ (by decide +kernel),YBz entry_list_iadd' ?_⟩));show wpAny _ A.in1 (Builtin.List.listExtendWith (.ref s.heap.objs.size) (.ref a) (.ref s.heap.objs.size)) _ _ { s with heap:=s.heap.push (seqObj "list" #[] 0) };have ra:SetRec w (s.heap.push (seqObj "list" #[] 0)) a es ep t:=r1.keep λo e=>YAc _ e;have hTa:Shared.TypeIs { s with heap:=s.heap.push (seqObj "list" #[] 0) } (.ref a) "set" := ⟨_,ra.at_,rfl⟩;have alt:a < s.heap.objs.size:=YAn r1.at_;unfold Builtin.List.listExtendWith;refine YAa (wpAny_typeOf hTa ?_);have h1:Builtin.List.listSameRef (.ref s.heap.objs.size) (.ref a) = false:=by simp [Builtin.List.listSameRef,YBe alt]
 have h2:(Value.type "set" == Value.type "list") = false:=by decide
 have h3:(Value.type "set" == Value.type "tuple") = false:=by decide
 simp only [h1,h2,h3,Bool.or_false,YA2,YBM];refine YAa (zkY ra hz λit p h2 d ord hit hp k2 pm x=>?_);have lt2:s.heap.objs.size < it:=YAv (by rw [YBl];exact YBV _) hit;have hTb:Shared.TypeIs { s with heap:=h2,drawn:=d } (.ref a) "set" := ⟨_,x.rc.at_,rfl⟩;refine YAa (YAX ?_);unfold Builtin.List.listLengthHint;refine YAa (wpAny_specialOf hTb PySem.F.slot_set_len.lookup ?_);dsimp only;rw [zg7];dsimp only;refine YAa (wpAny_isInstance hTb sub_set_self ?_);refine zqw (by decide) ?_;refine zoy (by decide +kernel) ?_;refine YAa (wpAny_typeOf hTb ?_);refine YAf ?_;refine zoy (by decide +kernel) ?_;refine YAa (YBH ?_);have hS1:h2.get? s.heap.objs.size = some { cls:=.type "list",data:=.seq #[] }:=k2 _ _ (YAp _ rfl);refine YAa ?_;show wpAny _ A.in1 (updateSeq s.heap.objs.size (·.push .none) >>= λ_=>updateSeq s.heap.objs.size (·.pop)) _ _ _;refine YAa (wpAny_updateSeq (s:={ s with heap:=h2,drawn:=d }) hS1 rfl ?_);have hS2:=Heap.get?_update_self (Obj.mapSeq (·.push Value.none)) hS1 rfl;refine wpAny_updateSeq (hz:=by seq_fits) hS2 rfl ?_;have hS3:=Heap.get?_update_self (Obj.mapSeq (·.pop)) hS2 rfl;have oth:∀ b o,b ≠ s.heap.objs.size->h2.get? b = some o->((h2.update s.heap.objs.size (Obj.mapSeq (·.push Value.none))).update s.heap.objs.size (Obj.mapSeq (·.pop))).get? b = some o:=λb o hb e=>
  (Heap.get?_update_other _ _ (Ne.symm hb)).trans ((Heap.get?_update_other _ _ (Ne.symm hb)).trans e)
 have nS:s.heap.objs.size ∉ [it,a,p]:=by
  simp only [YAk,YAN,YBG,not_or];refine ⟨YAw lt2,YBe alt,?_⟩;rcases hp with z | z
  ·rw [z];exact YBe alt
  ·exact YAw (YAv (by rw [YBl];exact YBV _) z)
 have W:=(zly (prog:=prog) (w:=w) (A:=A.in1) (it:=it) (a:=a) (p:=p) (es:=es) (ep:=ep) (t:=t) (ord:=ord) hh x.len).toS;have x3:IterAt w ((h2.update s.heap.objs.size (Obj.mapSeq (·.push Value.none))).update s.heap.objs.size (Obj.mapSeq (·.pop))) it a p es ep t ord 0:=x.frame λb hb o e=>oth b o (λz=>nS (z ▸ hb)) e;refine YAf ⟨plainId_quiet PySem.F.plain_extend_loop _,codeAny_extend_loopS W hz _ nS _ es.size 0 _ _ _ rfl (YAF _) x3 hS3 (ItemsOf.nil _) λs' acc' c' hm' hS' hacc=>?_⟩;refine YAa (wpAny_load hS' ?_);refine YAf ?_;have ev:acc'.toList = ord.map (·.2):=by
  apply YBB
  ·rw [YBD,hacc.1,YAd,x.len]
  ·intro j j1 j2;obtain ⟨e,e1,e2⟩:=hacc.2 j acc'.toList[j] (by rw [<- YBy];exact YAe j1);rw [e2,List.getElem_map];rw [YAe (by simpa using j2)] at e1;rw [Option.some.inj e1]
 have hord:∀ e ∈ ord,∃ k t,e = (hashInt k,Value.int k t):=λe he=>ai e (pm.mem_iff.mp he);have kp:(ord.map λe=>keyV e.2).Perm (keys es):=pm.map _;obtain ⟨hh',g',d',tk',o'⟩:=s';have eg:g' = s.gens:=hm'.gens;have ed:d' = d:=hm'.drawn;have eo:o' = s.os:=hm'.os;subst eg ed eo;refine h acc'.toList (ord.map λe=>keyV e.2) hh' d' tk' (by rw [ev];exact zeK ord hord) (kp.nodup_iff.mpr nd) (λk=>(kp.mem_iff).trans (hm k)) (λb o e=>?_) (YAn hS');have hb1:=YAn e;exact hm'.heap b o (by
  simp only [YAk,YAN,YBG,not_or];exact ⟨YAw hb1,YAw (Nat.lt_trans hb1 lt2)⟩) (oth b o (YAw hb1) (k2 b o (YAc _ e)))
theorem zgR  (hh:A.handled = none) (r:SetInts w s.heap a xs) (h64:xs.length < 64)
  (h:∀ l (out:List Value) ns' h' d tk n,IntsAre out ns'->ns'.Pairwise (· < ·)->(∀ k,k ∈ ns' ↔ k ∈ xs)->s.heap.objs.size <= l->h'.get? l = some { cls:=.type "list",data:=.seq out.toArray n } ->
   (∀ b o,s.heap.get? b = some o->h'.get? b = some o)->Q (.ref l) { s with heap:=h',drawn:=d,toks:=tk }) :
  wpAny (model prog w) A (call (.builtin "sorted") [.ref a]) Q E s:=by
 refine Calls.call_function_entry kind_sorted plain_sorted entry_sorted (args_sorted1 _) ?_;unfold Builtin.«sorted»;refine YAa (m:=checkCount "sorted" 1 1 _) (YAf ?_);refine YAa (zia (A:=A.in1) hh r λvs ns h1 d tk hI hnd hm k1 hz1=>?_);have hl:vs.length < 64:=by
  have e:=hI.length
  have:=zaF hnd λx hx=>(hm x).mp hx
  omega
 refine YAa (wpAny_newList ?_ (by rw [YAR];omega));have hoL:(h1.push (seqObj "list" vs.toArray 0)).get? h1.objs.size = some (seqObj "list" vs.toArray 0):=YAp _ rfl;refine YAa (YAX (YAV slot_list_sort ⟨_,hoL,rfl⟩ entry_list_sort (list_sort_tree hoL hI hl λout ns' a1 a2 a3=>⟨_,rfl,?_⟩) (args_list_sort _)));refine YAf ⟨_,rfl,?_⟩;obtain ⟨n,hat⟩:=sortedHeap_at (out:=out) hoL;refine h h1.objs.size out.toList ns' _ d tk n a1 ?_ (λk=>a2.mem_iff.trans (hm k)) (Nat.le_of_lt hz1) hat λb o e=>?_
 ·have nd':ns'.Nodup:=a2.nodup_iff.mpr hnd;exact (YAZ.mpr λi j hi hj hij=>by
   have q1:=YAZ.mp a3 i j hi hj hij;have q2:ns'[i] ≠ ns'[j]:=λz=>absurd ((List.getElem_inj nd').mp z) (YAw hij);omega)
 ·have hb:=YAn (k1 b o e);rw [sortedHeap_old (YAw hb) (by rw [size_push'];exact YBb hb)];exact YAc _ (k1 b o e)
end
end L2
namespace L2
open PySem PySem.Spec PyProof.Rows
def SetO (w:World) (a:Addr) (xs:List Int):HO:=.ext λh=>SetInts w h a xs
section
variable {X:Cx}
theorem zdF    (r:SetInts w h a xs):ObjOk P w H h a (SetO w a xs):=
 ⟨r,let ⟨_,_,_,q,_⟩:=r.ex;⟨_,q.at_⟩,λh1 h2 q k=>q.keep k⟩
theorem ziY (hc:X.calm = true):CallR X (.type "set") (λvs H Q=>∃ (p:Addr) (ns:List Int),vs = [.ref p]/\SqL X.K H p (ns.map V.int)/\ns.length + 1 < scanBound/\∀ l,H l = none->Q (.ref l) (upd H l (SetO X.w l ns))):=by
 intro pins s σ H vs us Q I r h;obtain ⟨p,ns,rfl,hq,hb,q⟩:=h;obtain ⟨u,rfl,rx⟩:=zdD r;cases rx;obtain ⟨its,r',pl,hz⟩:=I.list hq;have hlen:=r'.length;rw [YAd] at hlen;refine zfT (ns:=ns) (I.ok.hd hc) pl.isList (by simpa using zgh r') (by simp only [YAq];omega) λh' tk hS hk=>?_;exact ⟨.ref s.heap.objs.size,_,I.laid hk (YAm _) (zdF hS),rfl,q _ I.fresh⟩
theorem zjw:∀ {vs:List Value} {ns:List Int},IntsAre vs ns->Vals (ns.map V.int) vs
 | _,_,.nil=>.nil
 | _,_,.cons n t r=>.cons ⟨t,rfl⟩ (zjw r)
theorem zcT (hc:X.calm = true):CallR X (.builtin "sorted") (λvs H Q=>∃ p xs,vs = [.ref p]/\H p = some (SetO X.w p xs)/\xs.length < 64 /\
  ∀ (l:Addr) (ns:List Int),H l = none->ns.Pairwise (· < ·)->(∀ k:Int,k ∈ ns ↔ k ∈ xs)->Q (.ref l) (upd H l (.lst (ns.map V.int)))):=by
 intro pins s σ H vs us Q I r h;obtain ⟨p,xs,rfl,hq,hb,q⟩:=h;obtain ⟨u,rfl,rx⟩:=zdD r;cases rx;have hS:SetInts X.w s.heap p xs:=(I.hok p _ hq).1;refine zgR (I.ok.hd hc) hS hb λl out ns' h' d tk n hI hp hm hl he hk=>?_;have hn:H l = none:=I.hok.fresh hl;have hle:(ns'.map V.int).length <= sizeLine:=by
  have:=zaF (hp.imp λh=>Int.ne_of_lt h) λx hx=>(hm x).mp hx
  rw [YAd,YAR];omega
 refine ⟨.ref l,upd H l (.lst (ns'.map V.int)),?_,rfl,q l ns' hn hp hm⟩;exact I.call (ch:=[]) (Un.laid hk hl hn) (I.hok.laid hk hl ⟨hle,out,n,zjw hI,he⟩) I.bare λb hb=>absurd hb (by simp)
inductive IsI (K:PySem.W.Frag) (H:Hp):V->String->Bool->Prop
 | bl_bool (b):IsI K H (.bl b) "bool" true
 | bl_int (b):IsI K H (.bl b) "int" true
 | bl_list (b):IsI K H (.bl b) "list" false
 | bl_tuple (b):IsI K H (.bl b) "tuple" false
 | bl_str (b):IsI K H (.bl b) "str" false
 | int_bool (i):IsI K H (.int i) "bool" false
 | int_int (i):IsI K H (.int i) "int" true
 | int_list (i):IsI K H (.int i) "list" false
 | int_tuple (i):IsI K H (.int i) "tuple" false
 | int_str (i):IsI K H (.int i) "str" false
 | non_bool:IsI K H .non "bool" false
 | non_int:IsI K H .non "int" false
 | non_list:IsI K H .non "list" false
 | non_tuple:IsI K H .non "tuple" false
 | non_str:IsI K H .non "str" false
 | str_bool (i):IsI K H (.str i) "bool" false
 | str_int (i):IsI K H (.str i) "int" false
 | str_list (i):IsI K H (.str i) "list" false
 | str_tuple (i):IsI K H (.str i) "tuple" false
 | str_str (i):IsI K H (.str i) "str" true
 | list_bool (p xs):SqL K H p xs->IsI K H (.ref p) "bool" false
 | list_int (p xs):SqL K H p xs->IsI K H (.ref p) "int" false
 | list_list (p xs):SqL K H p xs->IsI K H (.ref p) "list" true
 | list_tuple (p xs):SqL K H p xs->IsI K H (.ref p) "tuple" false
 | list_str (p xs):SqL K H p xs->IsI K H (.ref p) "str" false
 | tuple_bool (p xs):SqT K H p xs->IsI K H (.ref p) "bool" false
 | tuple_int (p xs):SqT K H p xs->IsI K H (.ref p) "int" false
 | tuple_list (p xs):SqT K H p xs->IsI K H (.ref p) "list" false
 | tuple_tuple (p xs):SqT K H p xs->IsI K H (.ref p) "tuple" true
 | tuple_str (p xs):SqT K H p xs->IsI K H (.ref p) "str" false
theorem znm:CallR X (.builtin "isinstance") (λvs H Q=>∃ x T b,vs = [x,.ty T]/\IsI X.K H x T b/\Q (.bl b) H):=by
 intro pins s σ H vs us Q I r h;obtain ⟨x,T,b,rfl,hi,q⟩:=h;obtain ⟨u,w',rfl,rx,ry⟩:=znb r;cases ry;have f0:EP X pins σ Q (.bool b) s:=⟨.bl b,H,I,rfl,q⟩;have f1:EP X pins σ Q (.bool b) { s with toks:=s.toks + 1 }:=⟨.bl b,H,I.tok _,rfl,q⟩;cases hi with
 | bl_bool=>cases rx;exact IsiPair.bool_bool f0
 | bl_int=>cases rx;exact IsiPair.bool_int f0
 | bl_list=>cases rx;exact IsiPair.bool_list f1
 | bl_tuple=>cases rx;exact IsiPair.bool_tuple f1
 | bl_str=>cases rx;exact IsiPair.bool_str f1
 | int_bool=>obtain ⟨t,rfl⟩:=rx;exact IsiPair.int_bool f1
 | int_int=>obtain ⟨t,rfl⟩:=rx;exact IsiPair.int_int f0
 | int_list=>obtain ⟨t,rfl⟩:=rx;exact IsiPair.int_list f1
 | int_tuple=>obtain ⟨t,rfl⟩:=rx;exact IsiPair.int_tuple f1
 | int_str=>obtain ⟨t,rfl⟩:=rx;exact IsiPair.int_str f1
 | non_bool=>cases rx;exact IsiPair.NoneType_bool f1
 | non_int=>cases rx;exact IsiPair.NoneType_int f1
 | non_list=>cases rx;exact IsiPair.NoneType_list f1
 | non_tuple=>cases rx;exact IsiPair.NoneType_tuple f1
 | non_str=>cases rx;exact IsiPair.NoneType_str f1
 | str_bool=>obtain ⟨t,rfl⟩:=rx;exact IsiPair.str_bool f1
 | str_int=>obtain ⟨t,rfl⟩:=rx;exact IsiPair.str_int f1
 | str_list=>obtain ⟨t,rfl⟩:=rx;exact IsiPair.str_list f1
 | str_tuple=>obtain ⟨t,rfl⟩:=rx;exact IsiPair.str_tuple f1
 | str_str=>obtain ⟨t,rfl⟩:=rx;exact IsiPair.str_str f0
 | list_bool p xs h=>cases rx;obtain ⟨_,_,⟨o,n,e,c,_⟩,_⟩:=I.list h;exact IsiPair.list_bool e c f1
 | list_int p xs h=>cases rx;obtain ⟨_,_,⟨o,n,e,c,_⟩,_⟩:=I.list h;exact IsiPair.list_int e c f1
 | list_list p xs h=>cases rx;obtain ⟨_,_,⟨o,n,e,c,_⟩,_⟩:=I.list h;exact IsiPair.list_list e c f0
 | list_tuple p xs h=>cases rx;obtain ⟨_,_,⟨o,n,e,c,_⟩,_⟩:=I.list h;exact IsiPair.list_tuple e c f1
 | list_str p xs h=>cases rx;obtain ⟨_,_,⟨o,n,e,c,_⟩,_⟩:=I.list h;exact IsiPair.list_str e c f1
 | tuple_bool p xs h=>cases rx;obtain ⟨_,_,⟨o,e,c,_⟩,_⟩:=I.tuple h;exact IsiPair.tuple_bool e c f1
 | tuple_int p xs h=>cases rx;obtain ⟨_,_,⟨o,e,c,_⟩,_⟩:=I.tuple h;exact IsiPair.tuple_int e c f1
 | tuple_list p xs h=>cases rx;obtain ⟨_,_,⟨o,e,c,_⟩,_⟩:=I.tuple h;exact IsiPair.tuple_list e c f1
 | tuple_tuple p xs h=>cases rx;obtain ⟨_,_,⟨o,e,c,_⟩,_⟩:=I.tuple h;exact IsiPair.tuple_tuple e c f0
 | tuple_str p xs h=>cases rx;obtain ⟨_,_,⟨o,e,c,_⟩,_⟩:=I.tuple h;exact IsiPair.tuple_str e c f1
theorem zjW {bs:List Bool}:∀ {us:List Value},Vals (bs.map V.bl) us->∀ (i:Nat) v,us[i]? = some v->v = .bool (bs.getD i false):=by
 induction bs with
 | nil=>intro us r i v h;cases r;simp at h
 | cons b bs ih=>
  intro us r i v h;rw [YAb] at r;cases r with
  | cons r1 r2=>
   cases i with
   | zero=>simp at h;subst h;exact r1
   | succ i=>simpa using ih r2 i v (by simpa using h)
theorem zk1 (bs:List Bool):((List.range bs.length).all λi=>bs.getD i false) = bs.all id:=by
 induction bs with
 | nil=>rfl
 | cons b bs ih=>
  rw [YAE,List.range_succ_eq_map,List.all_cons,List.all_map,List.all_cons,<- ih];rfl
theorem zmv (bs:List Bool):((List.range bs.length).any λi=>bs.getD i false) = bs.any id:=by
 induction bs with
 | nil=>rfl
 | cons b bs ih=>
  rw [YAE,List.range_succ_eq_map,YBL,List.any_map,YBL,<- ih];rfl
theorem zhG (hc:X.calm = true):CallR X (.builtin "all") (λvs H Q=>∃ (p:Addr) (bs:List Bool),vs = [.ref p]/\SqL X.K H p (bs.map V.bl)/\Q (.bl (bs.all id)) H):=by
 intro pins s σ H vs us Q I r h;obtain ⟨p,bs,rfl,hq,q⟩:=h;obtain ⟨u,rfl,rx⟩:=zdD r;cases rx;obtain ⟨its,r',pl,hz⟩:=I.list hq;have hlen:=r'.length;rw [YAd] at hlen;have hp:p < s.heap.objs.size:=let ⟨o,n,e,_⟩:=pl;YAn e
 refine call_all_walk (YBO pl.isList ?_);refine ⟨s.heap.objs.size,_,[s.heap.objs.size],_,_,_,λi=>bs.getD i false,rfl,Walks.list (A:=X.A.in1) (I.ok.hd hc) _ p (YAw hp) its.toArray,⟨⟨_,YAp _ rfl,rfl,rfl⟩,pl.isList.push _⟩,λi v s' Q' E' hP hQ=>?_,λh' tk hk=>?_⟩
 ·rw [zjW r' i v (by simpa using hP)];exact YBa hQ
 ·rw [YAq,<- hlen,zk1];exact ⟨.bl _,H,I.kept λb o e=>hk b o (by simpa using YAw (YAn e)) (YAc _ e),rfl,q⟩
theorem zm2 (hc:X.calm = true):CallR X (.builtin "any") (λvs H Q=>∃ (p:Addr) (bs:List Bool),vs = [.ref p]/\SqL X.K H p (bs.map V.bl)/\Q (.bl (bs.any id)) H):=by
 intro pins s σ H vs us Q I r h;obtain ⟨p,bs,rfl,hq,q⟩:=h;obtain ⟨u,rfl,rx⟩:=zdD r;cases rx;obtain ⟨its,r',pl,hz⟩:=I.list hq;have hlen:=r'.length;rw [YAd] at hlen;have hp:p < s.heap.objs.size:=let ⟨o,n,e,_⟩:=pl;YAn e
 refine call_any_walk (YBO pl.isList ?_);refine ⟨s.heap.objs.size,_,[s.heap.objs.size],_,_,_,λi=>bs.getD i false,rfl,Walks.list (A:=X.A.in1) (I.ok.hd hc) _ p (YAw hp) its.toArray,⟨⟨_,YAp _ rfl,rfl,rfl⟩,pl.isList.push _⟩,λi v s' Q' E' hP hQ=>?_,λh' tk hk=>?_⟩
 ·rw [zjW r' i v (by simpa using hP)];exact YBa hQ
 ·rw [YAq,<- hlen,zmv];exact ⟨.bl _,H,I.kept λb o e=>hk b o (by simpa using YAw (YAn e)) (YAc _ e),rfl,q⟩
def zsb (i j:Int):Prop:=0 < j/\j < 2 ^ 64
theorem zko:OpR X (binaryOp .FloorDiv) (rI zsb λi j=>.int (i / j)):=opI λi j _ _ _ _ _ hc q=>by
 have hp:(0:Int) < j:=hc.1;have hl:j.natAbs.log2 < 9000:=by
  have h2:j < 2 ^ 64:=hc.2;have h3:j.natAbs < 2 ^ 64:=by omega
  have h4:j.natAbs.log2 < 64:=(Nat.log2_lt (by omega)).mpr h3;omega
 exact floordiv_int (by omega) (by rw [Int.fdiv_eq_ediv_of_nonneg i (by omega)];exact q) (.inl (PyProof.noPylong_of_log2 hl))
def zrA (K:PySem.W.Frag):V->V->Hp->VK->Prop:=λx y H Q=>∃ (p:Addr) (xs:List V) (j:Nat) (v:V),x = .ref p/\y = .int j/\SqL K H p xs/\xs[j]? = some v/\Q v H
theorem zjM:PGet X (zrA X.K):=by
 intro pins s σ H o i ov iv Q I r1 r2 h;obtain ⟨p,xs,j,v,rfl,rfl,hq,he,q⟩:=h;cases r1;obtain ⟨t,rfl⟩:=r2;obtain ⟨its,r,pl,hz⟩:=I.list hq;obtain ⟨u,eu,ru⟩:=r.get he;have hj:j < xs.length:=(YAi.mp he).1;have hn:=zfb;exact wpAny_getItem_list pl.isList (by omega) (by omega) (by simpa using eu) ⟨v,H,I,ru,q⟩
end
section
variable {P:Program} {w:World} {A:Around} {E:Value->Shared->Prop} {s:Shared}
theorem zhI   (ht:s.heap.IsTupleIter it t i) (hl:s.heap.IsTuple t xs) (hx:xs[i]? = some x)
  (q:∀ h',h'.IsTupleIter it t (i + 1)->Heap.SameBut it s.heap h'->Q x { s with heap:=h' }):wpAny (model P w) A (Builtin.SmallTypes.nextOf (.ref it)) Q E s:=by
 obtain ⟨o,e,c,d⟩:=id ht;obtain ⟨ol,el,_,n,dl⟩:=hl;unfold Builtin.SmallTypes.nextOf;refine YAa (YAY (name:=Str.ofString "__next__") ht.typeIs F.slot_tuple_iterator_next (YAV F.slot_tuple_iterator_next ht.typeIs F.entry_tuple_iterator_next ?_ (F.args_tuple_iterator_next_1 _)));show wpAny _ _ (field (.ref it) 0 >>= _) _ _ s;refine YAa (YA5 e d (x:=.ref t) rfl ?_);show wpAny _ _ (if (Value.ref t == Value.none) = true then _ else _) _ _ s;rw [if_neg (show ¬ ((Value.ref t == Value.none) = true) from YAx)];show wpAny _ _ (field (.ref it) 1 >>= _) _ _ s;refine YAa (YA5 e d (x:=.int i 0) rfl ?_);show wpAny _ _ (seqItems? (.ref t) >>= _) _ _ s;refine YAa (YBs el dl ?_);simp only [hx,YAC];refine YAa (wpAny_setField e d (by simp) (YAf ⟨x,rfl,YAf (q _ ⟨_,Heap.get?_update_self _ e (Obj.isFreed_of_fields (Obj.data_mapFields d _)),(Obj.cls_mapFields ..).trans c,by rw [Obj.data_mapFields d];simp [rawInt]⟩ (Heap.SameBut.update ..))⟩))
theorem zh4   (hh:A.handled = none) (ht:s.heap.IsTupleIter it t i) (hl:s.heap.IsTuple t xs) (hx:xs[i]? = none)
  (q:∀ h' e,Heap.ExtBut it s.heap h'->(∃ o,h'.get? e = some o/\o.cls = .type "StopIteration")->E (.ref e) { s with heap:=h' }):wpAny (model P w) A (Builtin.SmallTypes.nextOf (.ref it)) Q E s:=by
 obtain ⟨o,e,c,d⟩:=id ht;obtain ⟨ol,el,_,n,dl⟩:=hl;unfold Builtin.SmallTypes.nextOf;refine YAa (YAY (name:=Str.ofString "__next__") ht.typeIs F.slot_tuple_iterator_next (YAV F.slot_tuple_iterator_next ht.typeIs F.entry_tuple_iterator_next ?_ (F.args_tuple_iterator_next_1 _)));show wpAny _ _ (field (.ref it) 0 >>= _) _ _ s;refine YAa (YA5 e d (x:=.ref t) rfl ?_);show wpAny _ _ (if (Value.ref t == Value.none) = true then _ else _) _ _ s;rw [if_neg (show ¬ ((Value.ref t == Value.none) = true) from YAx)];show wpAny _ _ (field (.ref it) 1 >>= _) _ _ s;refine YAa (YA5 e d (x:=.int i 0) rfl ?_);show wpAny _ _ (seqItems? (.ref t) >>= _) _ _ s;refine YAa (YBs el dl ?_);simp only [hx,YAC];refine YAa (YBH (YAa (wpAny_setField e d (by simp) ?_)));show wpAny _ _ (newExc (.type "StopIteration") [] >>= _) _ _ _;refine YAa ?_;simp only [newTuple,newExc];refine YAa (YAQ (YAa (m:=firstArgMember _ _) (wpAny_of_eq (a:=Value.none) (by first | rfl | (simp only [firstArgMember];rfl)) (YAQ ?_ (by size_fits)))) (by size_fits));simp only [raiseNew];refine YAa (wpAny_handled ?_);first | rw [show A.in1.handled = none from hh] | rw [hh]
 exact YAa (YAf (wpAny_throw (q _ _ (((Heap.SameBut.update ..).extBut.push _).push _) ⟨_,YAp _ rfl,rfl⟩)))
end
theorem zjc  (hh:A.handled = none) (it t:Addr) (hne:t ≠ it) (xs:Array Value) :
  Draws P w A it [it,t] xs.size (λi v=>xs[i]? = some v) (λi h=>h.IsTupleIter it t i/\h.IsTuple t xs) where
 live:=λ_ _ st=>let ⟨o,e,_⟩:=st.1;⟨o,e⟩
 frame:=λ_ _ _ st k=>⟨let ⟨o,e,r⟩:=st.1;⟨o,k it (by simp) o e,r⟩,let ⟨o,e,r⟩:=st.2;⟨o,k t (by simp) o e,r⟩⟩
 item:=λi s Q E hi st q=>zhI st.1 st.2 (x:=xs[i]) (by simp [hi]) λh' a sb=>q _ h' s.toks (by simp [hi]) ⟨a,st.2.extBut sb.extBut hne⟩ sb
 done:=λs Q E st q=>zh4 hh st.1 st.2 (by simp) q
structure ZAp (z a b i j:Addr) (f g:List Addr):Prop where
 az:a ≠ z
 bz:b ≠ z
 iz:i ≠ z
 jz:j ≠ z
 ab:a ≠ b
 ai:a ≠ i
 aj:a ≠ j
 bi:b ≠ i
 bj:b ≠ j
 ij:i ≠ j
 zf:z ∉ f
 bf:b ∉ f
 jf:j ∉ f
 zg:z ∉ g
 bg:b ∉ g
 ig:i ∉ g
section
variable {P:Program} {w:World} {A:Around} {E:Value->Shared->Prop} {s:Shared} {z a b i j:Addr} {f g:List Addr} {n m k:Nat} {F1 F2:Nat->Value->Prop} {S1 S2:Nat->Heap->Prop}
theorem zbD {h h':Heap} {c:Addr} {l:List Addr} (sb:Heap.SameBut c h h') (hc:c ∉ l):∀ b ∈ l,∀ o,h.get? b = some o->h'.get? b = some o:=λb hb o e=>sb.extBut b o (λz=>hc (z ▸ hb)) e
theorem zid {u v:Value} {Q:Value->Shared->Prop} (Z:ZAp z a b i j f g) (D1:Draws P w A i f n F1 S1) (D2:Draws P w A j g m F2 S2) (hz:IsZip s.heap z a b .none) (ha:IsPair s.heap a (.ref i) (.ref j)) (hb:IsPair s.heap b u v)
  (s1:S1 k s.heap) (s2:S2 k s.heap) (k1:k < n) (k2:k < m)
  (q:∀ x y h' tk t,F1 k x->F2 k y->t = s.heap.objs.size->IsZip h' z a b (rawInt t)->IsPair h' b x y->S1 (k + 1) h'->S2 (k + 1) h'->IsPair h' t x y ->
   (∀ c o,c ≠ z->c ≠ b->c ≠ i->c ≠ j->s.heap.get? c = some o->h'.get? c = some o)->Q (.ref t) { s with heap:=h',toks:=tk }) :
  wpAny (model P w) A (Builtin.«zip.__next__» ⟨[.ref z],[]⟩) (λfin s'=>∃ v,fin = .done (.ret v)/\Q v s') E s:=by
 show wpAny _ _ (field (.ref z) 2 >>= _) _ _ _;refine YAa (YA5 hz rfl (x:=.bool false) rfl ?_);show wpAny _ _ (field (.ref z) 3 >>= _) _ _ _;refine YAa (YA5 hz rfl (x:=.ref a) rfl (YAa (YBs ha rfl ?_)));show wpAny _ _ (Builtin.SmallTypes.ownedTupleIsFree (.ref z) >>= _) _ _ _;refine YAa ?_;unfold Builtin.SmallTypes.ownedTupleIsFree;refine YAa (YA5 hz rfl (x:=.none) rfl (YAf ?_));simp only [if_true];refine YAa (YBH (YAa (YA5 hz rfl (x:=.ref b) rfl (YAa (YAO hz (by simp) λh1 z1 e1=>?_)))))
 replace z1:IsZip h1 z a b .ellipsis:=z1
 refine YAa ?_;simp only [List.zipIdx_cons,List.zipIdx_nil,List.forIn_cons,List.forIn_nil];refine YAa (YAa (wpAny_onRaise ?_));show wpAny _ _ (Builtin.SmallTypes.nextOf (.ref i) >>= _) _ _ _;have t1:S1 k h1:=D1.frame _ _ _ s1 (zbD e1 Z.zf);have t2:S2 k h1:=D2.frame _ _ _ s2 (zbD e1 Z.zg);refine YAa (D1.item k _ _ _ k1 t1 λx h2 tk2 px u1 e2=>YAf ?_);have b2:IsPair h2 b u v:=e2.extBut _ _ Z.bi (e1.extBut _ _ Z.bz hb);refine YAa (YBs b2 rfl (YAa (wpAny_updateSeq_pair b2 λh3 b3 e3=>?_)))
 replace b3:IsPair h3 b x v:=b3
 refine YAa (wpAny_letGo (YAf ?_));refine YAa (YAa (wpAny_onRaise ?_));show wpAny _ _ (Builtin.SmallTypes.nextOf (.ref j) >>= _) _ _ _;have t3:S2 k h3:=D2.frame _ _ _ (D2.frame _ _ _ t2 (zbD e2 Z.ig)) (zbD e3 Z.bg);refine YAa (D2.item k _ _ _ k2 t3 λy h4 tk4 py u2 e4=>YAf ?_);have b4:IsPair h4 b x v:=e4.extBut _ _ Z.bj b3;refine YAa (YBs b4 rfl (YAa (wpAny_updateSeq_pair b4 λh5 b5 e5=>?_)))
 replace b5:IsPair h5 b x y:=b5
 refine YAa (wpAny_letGo (YAf (YAf (YAa (YBs b5 rfl (YAa (wpAny_newTuple ?_)))))));have sz:h5.objs.size = s.heap.objs.size:=by rw [e5.1,e4.1,e3.1,e2.1,e1.1]
 have z5:IsZip h5 z a b .ellipsis:=e5.extBut _ _ Z.bz.symm (e4.extBut _ _ Z.jz.symm (e3.extBut _ _ Z.bz.symm (e2.extBut _ _ Z.iz.symm z1)));have k5:∀ c o,c ≠ z->c ≠ b->c ≠ i->c ≠ j->s.heap.get? c = some o->h5.get? c = some o:=λc o c1 c2 c3 c4 e=>e5.extBut _ _ c2 (e4.extBut _ _ c4 (e3.extBut _ _ c2 (e2.extBut _ _ c3 (e1.extBut _ _ c1 e))));have v1:S1 (k + 1) h5:=D1.frame _ _ _ (D1.frame _ _ _ (D1.frame _ _ _ u1 (zbD e3 Z.bf)) (zbD e4 Z.jf)) (zbD e5 Z.bf);have v2:S2 (k + 1) h5:=D2.frame _ _ _ u2 (zbD e5 Z.bg);have zl:z < h5.objs.size:=YAn z5;show wpAny _ _ (Builtin.SmallTypes.ownedTupleHandOut (.ref z) (.ref h5.objs.size) >>= _) _ _ _;refine YAa ?_;unfold Builtin.SmallTypes.ownedTupleHandOut;have z6:IsZip (h5.push { cls:=.type "tuple",data:=.seq #[x,y] }) z a b .ellipsis:=YAc _ z5;refine YAa (YAO z6 (by simp) λh7 z7 e7=>?_)
 replace z7:IsZip h7 z a b (rawInt h5.objs.size):=z7
 refine YAO z7 (by simp) λh8 z8 e8=>?_
 replace z8:IsZip h8 z a b (rawInt h5.objs.size):=z8
 have up:∀ c o,c ≠ z->h5.get? c = some o->h8.get? c = some o:=λc o c1 e=>e8.extBut _ _ c1 (e7.extBut _ _ c1 (YAc _ e));refine YAf ⟨_,rfl,?_⟩;exact q x y h8 _ h5.objs.size px py sz z8 (up _ _ Z.bz b5) (D1.frame _ _ _ v1 λc hc o e=>up c o (λzz=>Z.zf (zz ▸ hc)) e) (D2.frame _ _ _ v2 λc hc o e=>up c o (λzz=>Z.zg (zz ▸ hc)) e)
  (e8.extBut _ _ (YBe zl) (e7.extBut _ _ (YBe zl) (YAp _ rfl))) λc o c1 c2 c3 c4 e=>up c o c1 (k5 c o c1 c2 c3 c4 e)
theorem zif {Q:Fin->Shared->Prop} (Z:ZAp z a b i j f g) (D1:Draws P w A i f n F1 S1) (hz:IsZip s.heap z a b .none) (ha:IsPair s.heap a (.ref i) (.ref j)) (s1:S1 n s.heap)
  (q:∀ h' e,(∀ c o,c ≠ z->c ≠ b->c ≠ i->c ≠ j->s.heap.get? c = some o->h'.get? c = some o)->(∃ o,h'.get? e = some o/\o.cls = .type "StopIteration")->E (.ref e) { s with heap:=h' }) :
  wpAny (model P w) A (Builtin.«zip.__next__» ⟨[.ref z],[]⟩) Q E s:=by
 show wpAny _ _ (field (.ref z) 2 >>= _) _ _ _;refine YAa (YA5 hz rfl (x:=.bool false) rfl ?_);show wpAny _ _ (field (.ref z) 3 >>= _) _ _ _;refine YAa (YA5 hz rfl (x:=.ref a) rfl (YAa (YBs ha rfl ?_)));show wpAny _ _ (Builtin.SmallTypes.ownedTupleIsFree (.ref z) >>= _) _ _ _;refine YAa ?_;unfold Builtin.SmallTypes.ownedTupleIsFree;refine YAa (YA5 hz rfl (x:=.none) rfl (YAf ?_));simp only [if_true];refine YAa (YBH (YAa (YA5 hz rfl (x:=.ref b) rfl (YAa (YAO hz (by simp) λh1 z1 e1=>?_)))))
 replace z1:IsZip h1 z a b .ellipsis:=z1
 refine YAa ?_;simp only [List.zipIdx_cons,List.zipIdx_nil,List.forIn_cons,List.forIn_nil];refine YAa (YAa (wpAny_onRaise ?_));show wpAny _ _ (Builtin.SmallTypes.nextOf (.ref i) >>= _) _ _ _;refine YAa (D1.done _ _ _ (D1.frame _ _ _ s1 (zbD e1 Z.zf)) λh2 e e2 he=>?_);obtain ⟨oe,ho,hc⟩:=he;have z2:IsZip h2 z a b .ellipsis:=e2 _ _ Z.iz.symm z1;have ez:e ≠ z:=λx=>by subst x;rw [z2] at ho;cases ho;simp at hc
 refine YAO z2 (by simp) λh3 _ e3=>q h3 e (λc o c1 _ c3 _ x=>e3.extBut _ _ c1 (e2 _ _ c3 (e1.extBut _ _ c1 x))) ⟨oe,e3.extBut _ _ ez ho,hc⟩
theorem zfG {u v:Value} {Q:Option Value->Shared->Prop} (Z:ZAp z a b i j f g) (D1:Draws P w A.in1 i f n F1 S1) (D2:Draws P w A.in1 j g m F2 S2) (hz:IsZip s.heap z a b .none) (ha:IsPair s.heap a (.ref i) (.ref j)) (hb:IsPair s.heap b u v)
  (s1:S1 k s.heap) (s2:S2 k s.heap) (k1:k < n) (k2:k < m)
  (q:∀ x y h' tk t,F1 k x->F2 k y->t = s.heap.objs.size->IsZip h' z a b (rawInt t)->IsPair h' b x y->S1 (k + 1) h'->S2 (k + 1) h'->IsPair h' t x y ->
   (∀ c o,c ≠ z->c ≠ b->c ≠ i->c ≠ j->s.heap.get? c = some o->h'.get? c = some o)->Q (some (.ref t)) { s with heap:=h',toks:=tk }):wpAny (model P w) A (pyNext (.ref z)) Q E s:=by
 have hT:s.TypeIs (.ref z) "zip" := ⟨_,hz,rfl⟩;unfold pyNext;exact YAa (wpAny_attempt (YAY (name:=Str.ofString "__next__") hT F.slot_zip_next (YAV F.slot_zip_next hT F.entry_zip_next
  (zid Z D1 D2 hz ha hb s1 s2 k1 k2 λx y h' tk t a1 a2 a3 a4 a5 a6 a7 a8 a9=>YAf (q x y h' tk t a1 a2 a3 a4 a5 a6 a7 a8 a9)) (F.args_zip_next_1 _))))
theorem zfP (Z:ZAp z a b i j f g) (D1:Draws P w A.in1 i f n F1 S1) (hz:IsZip s.heap z a b .none) (ha:IsPair s.heap a (.ref i) (.ref j)) (s1:S1 n s.heap)
  (q:∀ h',(∀ c o,c ≠ z->c ≠ b->c ≠ i->c ≠ j->s.heap.get? c = some o->h'.get? c = some o)->Q none { s with heap:=h' }):wpAny (model P w) A (pyNext (.ref z)) Q E s:=by
 have hT:s.TypeIs (.ref z) "zip" := ⟨_,hz,rfl⟩;unfold pyNext;refine YAa (wpAny_attempt (YAY (name:=Str.ofString "__next__") hT F.slot_zip_next (YAV F.slot_zip_next hT F.entry_zip_next (zif Z D1 hz ha s1 λh' e hk he=>?_) (F.args_zip_next_1 _))));obtain ⟨o,ho,hc⟩:=he;exact YAa (wpAny_isInstance (T := "StopIteration") (b:=true) ⟨o,ho,hc⟩ isSubtype_stop (YAf (q _ hk)))
end
section
variable {X:Cx} {pins:List (Addr × Obj)} {σ:St} {H:Hp} {s:Shared} {h':Heap} {ch:List Addr} {t':Nat}
theorem Inv.turnedLaid  (I:Inv X pins σ H s) (k:∀ b u,b ∉ ch->s.heap.get? b = some u->h'.get? b = some u) (hf:∀ b ∈ ch,FpOk X pins H b) (hp:s.heap.objs.size <= a) (new:ObjOk X.prog X.w (upd H a o) h' a o) :
  Inv X pins σ (upd H a o) { s with heap:=h',toks:=t' }:=by
 have hn:H a = none:=I.hok.fresh hp;have nch:∀ b u,H b = some u->b ∉ ch:=λb u e z=>by rw [(hf b z).1] at e;cases e
 refine I.step (g':=s.gens) (d':=s.drawn) (ch:=ch) (λb hb=>⟨(hf b hb).2.2.2.1,(hf b hb).2.1,(hf b hb).2.2.2.2.1,(hf b hb).2.2.2.2.2⟩) (λb u _ _ hc e _=>k b u hc e) (λb u _ _ hc e _=>⟨u.slots,k b u hc e⟩)
  (λb u _ e n=>by rw [zaf (YAw (YAv (YAn e) hp))];exact n) (λb u hc e=>⟨u,k b u hc e⟩) (λb xs e=>by rw [zaf (zae e hn)];exact e) (λb u xs e=>by rw [zaf (zae e hn)];exact e)
  (λb ps e=>⟨#[],by rw [zaf (zae e hn),e];simp⟩) (λm hm=>?_) (λb u e=>?_) I.bare
 ·obtain ⟨o,es,ep,ho,r⟩:=hm;exact ⟨o,es,ep,k _ o (λz=>(hf _ z).2.1 rfl) ho,r⟩
 ·by_cases hb:b = a
  ·subst hb;rw [zad] at e;cases e;exact new
  ·rw [zaf hb] at e;refine (I.hok b u e).stay (λc v hc q=>k c v ?_ q) (λc q=>by rw [zaf (zae q hn)];exact q) λc xs q=>by rw [zaf (zae q hn)];exact q
   rcases hc with z | z
   ·rw [z];exact nch b u e
   ·exact nch c _ z
theorem Inv.turnedAll (I:Inv X pins σ H s) (k:∀ b u,b ∉ ch->s.heap.get? b = some u->h'.get? b = some u) (hf:∀ b ∈ ch,FpOk X pins H b):Inv X pins σ H { s with heap:=h',toks:=t' }:=by
 have nch:∀ b u,H b = some u->b ∉ ch:=λb u e z=>by rw [(hf b z).1] at e;cases e
 refine I.step (g':=s.gens) (d':=s.drawn) (ch:=ch) (λb hb=>⟨(hf b hb).2.2.2.1,(hf b hb).2.1,(hf b hb).2.2.2.2.1,(hf b hb).2.2.2.2.2⟩) (λb u _ _ hc e _=>k b u hc e) (λb u _ _ hc e _=>⟨u.slots,k b u hc e⟩)
  (λ_ _ _ _ n=>n) (λb u hc e=>⟨u,k b u hc e⟩) (λ_ _ e=>e) (λ_ _ _ e=>e) (λb ps e=>⟨#[],by rw [e];simp⟩) (λm hm=>?_) (λb u e=>?_) I.bare
 ·obtain ⟨o,es,ep,ho,r⟩:=hm;exact ⟨o,es,ep,k _ o (λz=>(hf _ z).2.1 rfl) ho,r⟩
 ·refine (I.hok b u e).stay (λc v hc q=>k c v ?_ q) (λ_ q=>q) λ_ _ q=>q;rcases hc with z | z
  ·rw [z];exact nch b u e
  ·exact nch c _ z
end
def SIt (tp:Bool) (h:Heap) (it l:Addr) (k:Nat):Prop:=match tp with | true=>h.IsTupleIter it l k | false=>h.IsListIter it l k
def SCn (tp:Bool) (h:Heap) (l:Addr) (xs:Array Value):Prop:=match tp with | true=>h.IsTuple l xs | false=>h.IsList l xs
def SQ (tp:Bool) (K:PySem.W.Frag) (H:Hp) (a:Addr) (xs:List V):Prop:=match tp with | true=>SqT K H a xs | false=>SqL K H a xs
theorem SIt.obj   (x:SIt tp h it l k):∃ o,h.get? it = some o/\∀ v,o.data ≠ .cell v:=by
 cases tp <;> (obtain ⟨o,e,c,d⟩:=x;exact ⟨o,e,λv z=>by rw [d] at z;cases z⟩)
theorem SIt.keep   (x:SIt tp h it l k) (q:∀ o,h.get? it = some o->h'.get? it = some o):SIt tp h' it l k:=by
 cases tp <;> (obtain ⟨o,e,r⟩:=x;exact ⟨o,q o e,r⟩)
theorem SCn.lt   (x:SCn tp h l xs):l < h.objs.size:=by
 cases tp <;> (obtain ⟨o,e,_⟩:=x;exact YAn e)
theorem zij  (tp:Bool) (hh:A.handled = none) (it l:Addr) (hne:l ≠ it) (xs:Array Value) :
  Draws P w A it [it,l] xs.size (λi v=>xs[i]? = some v) (λi h=>SIt tp h it l i/\SCn tp h l xs):=by
 cases tp
 ·exact Draws.list hh it l hne xs
 ·exact zjc hh it l hne xs
section
variable {X:Cx} {pins:List (Addr × Obj)} {σ:St} {H:Hp} {s:Shared} {tp:Bool} {a:Addr} {xs ys:List V}
theorem Inv.sq (I:Inv X pins σ H s) (h:SQ tp X.K H a xs):∃ its:List Value,Vals xs its/\SCn tp s.heap a its.toArray/\xs.length <= sizeLine:=by
 cases tp
 ·obtain ⟨its,r,p,z⟩:=I.list h;exact ⟨its,r,p.isList,z⟩
 ·exact I.tuple h
theorem Inv.sq_inj (I:Inv X pins σ H s) (h:SQ tp X.K H a xs) (h':SQ tp X.K H a ys):xs = ys:=by
 cases tp
 ·exact I.list_inj h h'
 ·exact I.tuple_inj h h'
end
theorem zqp (n l m:Nat) (h1:l < n) (h2:m < n):ZAp (n + 4) (n + 2) (n + 3) n (n + 1) [n,l] [n + 1,m]:=by
 have e:∀ {p q:Nat},p ≠ q->∀ {r:Nat},p ≠ r->p ∉ [q,r]:=λ{p q} h {r} h' z=>by
  rcases YAk.mp z with z | z
  ·exact h z
  ·exact h' (YAg.mp z)
 have r:∀ {p q:Nat},p < q\/q < p->(p:Addr) ≠ q:=λh=>h.elim YAw λh=>(YAw h).symm;exact ⟨r (by omega),r (by omega),r (by omega),r (by omega),r (by omega),r (by omega),r (by omega),r (by omega),r (by omega),r (by omega),e (r (by omega)) (r (by omega)),e (r (by omega)) (r (by omega)),e (r (by omega)) (r (by omega)),e (r (by omega)) (r (by omega)),e (r (by omega)) (r (by omega)),e (r (by omega)) (r (by omega))⟩
def Itz (tp:Bool) (K:PySem.W.Frag) (a b:Addr):It:=
 ⟨λi H=>∃ xs ys x y,SQ tp K H a xs/\SQ tp K H b ys/\xs[i]? = some x/\ys[i]? = some y,
 λi H v H'=>∃ t x y,H t = none/\v = .ref t/\H' = upd H t (.tup [x,y])/\(∀ xs,SQ tp K H a xs->xs[i]? = some x)/\∀ ys,SQ tp K H b ys->ys[i]? = some y,
 λi H=>∃ xs,SQ tp K H a xs/\xs.length = i⟩
def ZTn (tp:Bool) (z c d i j a b:Addr) (k:Nat) (h:Heap):Prop:=IsZip h z c d .none/\IsPair h c (.ref i) (.ref j)/\(∃ u v,IsPair h d u v)/\SIt tp h i a k/\SIt tp h j b k
theorem zdi {P:Program} {w:World} {K:PySem.W.Frag} {es:List Expr} {x1:_} {pos:Pos} {tp:Bool} {z c d i j a b:Addr} (Z:ZAp z c d i j [i,a] [j,b]) (na:a ≠ i) (nb:b ≠ j) :
  Turn P w K (.Tuple es x1 pos) (Itz tp K a b) [z,c,d,i,j] z (ZTn tp z c d i j a b) where
 mem:=by simp
 obj:=λk h st e he=>by
  obtain ⟨h1,h2,⟨u,v,h3⟩,h4,h5⟩:=st;simp only [YAk,YAN,YBG] at he;rcases he with rfl | rfl | rfl | rfl | rfl
  ·exact ⟨_,h1,λv q=>by cases q⟩
  ·exact ⟨_,h2,λv q=>by cases q⟩
  ·exact ⟨_,h3,λv q=>by cases q⟩
  ·exact h4.obj
  ·exact h5.obj
 keep:=λk h h' st q=>by
  obtain ⟨h1,h2,⟨u,v,h3⟩,h4,h5⟩:=st;exact ⟨q z (by simp) _ h1,q c (by simp) _ h2,⟨u,v,q d (by simp) _ h3⟩,h4.keep λo e=>q i (by simp) o e,h5.keep λo e=>q j (by simp) o e⟩
 item:=by
  intro X hP hw hK hc k pins s σ H E I hf st hg;subst hP hw hK;obtain ⟨xs,ys,x,y,qa,qb,ex,ey⟩:=hg;obtain ⟨ia,ra,ca,za⟩:=I.sq qa;obtain ⟨ib,rb,cb,zb⟩:=I.sq qb;obtain ⟨h1,h2,⟨u,v,h3⟩,h4,h5⟩:=st;have hh:X.A.in1.handled = none:=I.ok.hd hc;obtain ⟨ux,eux,rux⟩:=ra.get ex;obtain ⟨uy,euy,ruy⟩:=rb.get ey;have k1:k < ia.toArray.size:=by simpa using (YAi.mp eux).1
  have k2:k < ib.toArray.size:=by simpa using (YAi.mp euy).1
  refine zfG Z (zij tp hh i a na ia.toArray) (zij tp hh j b nb ib.toArray) h1 h2 h3 ⟨h4,ca⟩ ⟨h5,cb⟩ k1 k2 λvx vy h' tk t px py ht g1 g2 g3 g4 g5 kk=>⟨_,rfl,?_⟩;have ev:vx = ux:=by rw [List.getElem?_toArray,eux] at px;exact (Option.some.inj px).symm
  have ew:vy = uy:=by rw [List.getElem?_toArray,euy] at py;exact (Option.some.inj py).symm
  subst ev ew;refine wpAny_letOwnedTupleGo_zip g1 λh'' z' sb=>?_;have tz:t ≠ z:=λq=>by rw [q] at ht;exact absurd (YAn h1) (by rw [ht];exact YA8 _)
  have hn:H t = none:=I.hok.fresh (by rw [ht];exact YAm _);have kp:∀ b u,b ∉ [z,c,d,i,j]->s.heap.get? b = some u->h''.get? b = some u:=λb u hb e=>by
   simp only [YAk,YAN,YBG,not_or] at hb;exact sb.extBut b u hb.1 (kk b u hb.1 hb.2.2.1 hb.2.2.2.1 hb.2.2.2.2 e)
  have I1:Inv X pins σ (upd H t (.tup [x,y])) { s with heap:=h'',toks:=tk }:=I.turnedLaid (ch:=[z,c,d,i,j]) kp hf (by rw [ht];exact YAm _)
   ⟨by show 2 <= sizeLine;decide,[vx,vy],.cons rux (.cons ruy .nil),⟨_,sb.extBut _ _ tz g5,rfl,_,rfl⟩⟩
  refine ⟨.ref t,_,I1,rfl,⟨t,x,y,hn,rfl,rfl,λxs' q=>by rw [I.sq_inj q qa];exact ex,λys' q=>by rw [I.sq_inj q qb];exact ey⟩,?_,λe he=>?_⟩
  ·exact ⟨z',sb.extBut _ _ Z.az (kk _ _ Z.az Z.ab Z.ai Z.aj h2),⟨_,_,sb.extBut _ _ Z.bz g2⟩,g3.1.keep λo e=>sb.extBut _ _ Z.iz e,g4.1.keep λo e=>sb.extBut _ _ Z.jz e⟩
  ·have hlt:e < s.heap.objs.size:=by
    simp only [YAk,YAN,YBG] at he;rcases he with rfl | rfl | rfl | rfl | rfl
    ·exact YAn h1
    ·exact YAn h2
    ·exact YAn h3
    ·obtain ⟨o,q,_⟩:=h4.obj;exact YAn q
    ·obtain ⟨o,q,_⟩:=h5.obj;exact YAn q
   rw [zaf (YAw (by rw [ht];exact hlt))];exact (hf e he).1
 done:=by
  intro X hP hw hK hc k pins s σ H E I hf st hg;subst hP hw hK;obtain ⟨xs,qa,hx⟩:=hg;obtain ⟨ia,ra,ca,za⟩:=I.sq qa;obtain ⟨h1,h2,⟨u,v,h3⟩,h4,h5⟩:=st;have hh:X.A.in1.handled = none:=I.ok.hd hc;have hk:k = ia.toArray.size:=by rw [<- hx,ra.length];simp
  subst hk;refine zfP Z (zij tp hh i a na ia.toArray) h1 h2 ⟨h4,ca⟩ λh' kk=>⟨rfl,?_⟩;exact I.turnedAll (t':=s.toks) (ch:=[z,c,d,i,j]) (λb u hb e=>by
   simp only [YAk,YAN,YBG,not_or] at hb;exact kk b u hb.1 hb.2.2.1 hb.2.2.2.1 hb.2.2.2.2 e) hf
 self:=λ_ _ _ _ _ st h=>wpAny_pyIter_zip st.1 h
abbrev tza (h:Heap) (l:Addr):Heap:=h.push { cls:=.type "tuple_iterator",data:=.fields #[.ref l,.int 0 0] }
abbrev tzb (h:Heap) (l m:Addr):Heap:=tza (tza h l) m
abbrev tzc (h:Heap) (l m:Addr):Heap:=(tzb h l m).push { cls:=.type "tuple",data:=.seq #[.ref h.objs.size,.ref (tza h l).objs.size] }
abbrev tzd (h:Heap) (l m:Addr):Heap:=(tzc h l m).push { cls:=.type "tuple",data:=.seq #[.none,.none] }
abbrev tze (h:Heap) (l m:Addr):Heap:=(tzd h l m).push { cls:=.type "zip",data:=.fields #[.none,.bool false,.bool false,.ref (tzb h l m).objs.size,.ref (tzc h l m).objs.size] }
theorem zkX (l m:Addr) (xs ys:Array Value) :
  Meets (Builtin.«zip.__new__» ⟨[.type "zip",.ref l,.ref m],[]⟩) (λ_ R s=>s.heap.IsTuple l xs/\s.heap.IsTuple m ys/\R (.ok (.ret (.ref (tzd s.heap l m).objs.size))) { s with heap:=tze s.heap l m }):=
 .of_wp λprog w A R s h=>by
  obtain ⟨hp,g,d,tk,os⟩:=s;obtain ⟨hl,hm,h⟩:=h;have hsub:=sub_zip;have h1:Heap.IsTuple (Shared.heap ⟨hp,g,d,tk,os⟩) l xs:=hl;have h2:Heap.IsTuple (Shared.heap ⟨hp.push { cls:=.type "tuple_iterator",data:=.fields #[.ref l,.int 0 0] },g,d,tk,os⟩) m ys:=Heap.IsTuple.push hm _
  wp_walk using wpAny_pyIter_tuple h1,wpAny_pyIter_tuple h2
  exact ⟨_,rfl,h⟩
section
variable {P:Program} {w:World} {A:Around} {E:Value->Shared->Prop} {s:Shared}
theorem zlw   (hl:SCn tp s.heap l xs) (hm:SCn tp s.heap m ys)
  (q:∀ h',ZTn tp (s.heap.objs.size + 4) (s.heap.objs.size + 2) (s.heap.objs.size + 3) s.heap.objs.size (s.heap.objs.size + 1) l m 0 h'->(∀ c o,s.heap.get? c = some o->h'.get? c = some o)->Q (.ref (s.heap.objs.size + 4)) { s with heap:=h' }) :
  wpAny (model P w) A (call (.type "zip") [.ref l,.ref m]) Q E s:=by
 cases tp
 ·exact call_zip_2 hl hm λh' g1 g2 g3 g4 g5 _ kk=>q h' ⟨g1,g2,⟨_,_,g3⟩,g4,g5⟩ kk
 ·refine callType_new F.called_zip (by decide) (F.typeCall_zip_2 _ _) (F.newCall_zip_2 _ _) (λobj=>F.args_object_init_3 obj _ _) F.entry_zip_new (zkX l m xs ys) ⟨hl,hm,?_⟩;have y1:(tza s.heap l).objs.size = s.heap.objs.size + 1:=YBl ..;have y2:(tzb s.heap l m).objs.size = s.heap.objs.size + 2:=by rw [YBl,y1]
  have y3:(tzc s.heap l m).objs.size = s.heap.objs.size + 3:=by rw [YBl,y2]
  have y4:(tzd s.heap l m).objs.size = s.heap.objs.size + 4:=by rw [YBl,y3]
  have g5:(tze s.heap l m).get? (tzd s.heap l m).objs.size = some _:=YAp _ rfl;have g4:(tze s.heap l m).get? (tzc s.heap l m).objs.size = some _:=YAc _ (YAp _ rfl);have g3:(tze s.heap l m).get? (tzb s.heap l m).objs.size = some _:=YAc _ (YAc _ (YAp _ rfl));have g2:(tze s.heap l m).get? (tza s.heap l).objs.size = some _:=YAc _ (YAc _ (YAc _ (YAp _ rfl)));have g1:(tze s.heap l m).get? s.heap.objs.size = some _:=YAc _ (YAc _ (YAc _ (YAc _ (YAp _ rfl))));show _/\_;rw [y2,y3,y4] at g5;rw [y1,y2] at g3;rw [y3] at g4;rw [y1] at g2;rw [y4];exact ⟨⟨_,g5,rfl⟩,q _ ⟨g5,g3,⟨_,_,g4⟩,⟨_,g1,rfl,rfl⟩,⟨_,g2,rfl,rfl⟩⟩ λc o x=>YAc _ (YAc _ (YAc _ (YAc _ (YAc _ x))))⟩
end
theorem zmW (elt tg iter:Expr) (ifs:List Expr) (scope:Scope) (pos:Pos) (it acc:Value) (env:Env) :
  compTurn (.SetComp elt [⟨tg,iter,ifs,0⟩] scope pos) 0 it acc env = (do
   standAt iter.pos
   match <- pyNext it with
   | none=>pure (.done .next)
   | some v=>
    letOwnedTupleGo tg it v
    assign tg env v
    let mut ok:=true
    for c in ifs do
     if ok then ok <- isTrue c env (eval c env)
    if ok then
     (do let x <- eval elt env;standAt elt.pos;let _ <- call (.builtin "set.add") [acc,x])
    again (.compLoop (.SetComp elt [⟨tg,iter,ifs,0⟩] scope pos) 0 it acc env)):=by rfl
section
variable {P:Program} {w:World} {A:Around} {E:Value->Shared->Prop} {R:Result->Shared->Prop} {s:Shared}
theorem zkV
  (h0:codeAny (model P w) A (.compLoop (.SetComp elt [⟨tg,iter,ifs,0⟩] scope pos) 0 it acc env) R s)
  (h:wpAny (model P w) A (pyIter it) (λit' s'=>codeAny (model P w) A (.compLoop (.SetComp elt [⟨tg,iter,ifs,0⟩] scope pos) 0 it' acc env) R s') (notedBy (model P w) A env λx s'=>R (.error x) s') s) :
  codeAny (model P w) A (.compStart (.SetComp elt [⟨tg,iter,ifs,0⟩] scope pos) 0 it acc env) R s:=by
 refine codeAny_of_tree ?_;show wpAny _ _ ((compStart (.SetComp elt [⟨tg,iter,ifs,0⟩] scope pos) 0 it acc env).onRaise (λx=>do noteFrame x env;standAt theWindowsPlace)) _ _ s;refine wpAny_notedAt ?_;unfold compStart;show wpAny _ _ (ask >>= _) _ _ s;refine YAa (YBU (wpAny_ite ?_));split
 ·first | exact YAa (YAf (YAf (And.intro rfl h0))) | exact YAf (And.intro rfl h0)
 ·first
   | exact YAa (YBH (YAa (YBc (YAa (YA0 h (λit' s' h'=>YAf (And.intro rfl h')) λ_ _ x=>x)))))
   | (refine YAa (YBH ?_);show wpAny _ _ (standAt iter.pos >>= _) _ _ s;exact YAa (YBc (YAa (YA0 h (λit' s' h'=>YAf (And.intro rfl h')) λ_ _ x=>x))))
theorem zl3 (h:Q (.ref s.heap.objs.size) { s with heap:=s.heap.push { cls:=.type "set",dict:=none,data:=.set #[] 0 (.fresh 0 0 (!w.params.followText "set-order")) } }) :
  wpAny (model P w) A (newSet (.type "set")) Q E s:=by
 unfold newSet setsByText;obtain ⟨hp,g,d,tk,os⟩:=s;refine YAa (YAa (YBU (YAf ?_)));dsimp only;simp only [newObj];exact YAa (wpAny_alloc (YAf h))
theorem zje   (r:SetInts w s.heap a xs) (hr:xs.length + 1 < scanBound)
  (h:∀ h',Heap.SameBut a s.heap h'->SetInts w h' a (k :: xs)->Q .none { s with heap:=h',toks:=s.toks + 1 }):wpAny (model P w) A (call (.builtin "set.add") [.ref a,.int k tk]) Q E s:=by
 have hT:s.TypeIs (.ref a) "set" := let ⟨es,ep,t,q,_⟩:=r.ex;⟨_,q.at_,rfl⟩
 refine YAV F.slot_set_add hT F.entry_set_add ?_ (F.args_set_add_2 _ _);unfold Builtin.«set.add» Builtin.Frozenset.oneOther;simp only [List.isEmpty_nil,bind_assoc];unfold Builtin.Frozenset.addrOf setAdd;refine YAa (YAf ?_);try dsimp only
 refine YAa (YAf ?_);try dsimp only
 refine YAa (YAX (YAa ((intKind P w).pyHash (k:=k) (intKind_is _ _ _ _) ?_)));refine zgm (s:={ s with toks:=s.toks + 1 }) r hr λb h' sb hS=>?_;show wpAny _ _ (ret Value.none) _ _ _;exact YAf ⟨_,rfl,h h' sb hS⟩
end
def zoH (w:World) (g:TG) (tc:TT) (te:TE) (σc:St) (l:Addr) (J:It) (H1:Hp) (Q:VK):Prop:=
 ∃ W:Nat->Nat->List Int->Hp->Prop,(∃ m,W 0 m [] (upd H1 l (SetO w l [])))/\∀ i m xs H2,W i m xs H2->H2 l = some (SetO w l xs) /\
  ((J.stop i H2/\Q (.ref l) H2)\/(J.go i H2/\∃ N:List Int->Hp->Prop,(∀ xs' H',N xs' H'->∃ m',m' < m/\W (i + 1) m' xs' H') /\
   ∀ x H',J.yld i H2 x H'->g x σc H' λσ2 H3=>tc σ2 H3 λb H4=>if b = true then te σ2 H4 λy H5=>∃ k,y = .int k/\H5 l = some (SetO w l xs)/\xs.length + 1 < scanBound/\N (k :: xs) (upd H5 l (SetO w l (k :: xs))) else N xs H4))
def zqJ (w:World) (sub:List (Option Nat)) (wi:TI) (g:TG) (tc:TT) (te:TE):TE:=λσ H Q=>wi σ H λJ H1=>∀ l,H1 l = none->zoH w g tc te (za8 sub σ) l J H1 Q
section
variable {X:Cx} {pins:List (Addr × Obj)} {σ:St} {H:Hp} {s:Shared} {scope:Scope} {Nc:List Str} {sub:List (Option Nat)} {elt tg iter:Expr} {ifs:List Expr} {pos:Pos} {g:TG} {tc:TT} {te:TE}
theorem zoY {cl:List (Str × Addr)} {fp:List Addr} {it:Addr} {J:It} {tn:Nat->Heap->Prop} {E:Value->Shared->Prop} {Q:VK} {RR:Value->Addr->Result->Shared->Prop}
  (hc:X.calm = true) (I:Inv X pins σ H s) (hS:CompScope X.N X.env.scope scope Nc sub)
  (hcl:∀ x c,cl.lookup x = some c->X.env.cells.lookup x = some c) (hcl2:∀ x,scope.names.lookup x = some .free->∃ c,cl.lookup x = some c)
  (T:Turn X.prog X.w X.K tg J fp it tn) (st:tn 0 s.heap) (hf:∀ b ∈ fp,FpOk X pins H b)
  (hg:∀ cl L s0 H0 ex,PG (zan X Nc scope cl L s0 H0 ex) tg g) (gk:zeP sub g)
  (hi:∀ cl L s0 H0 ex,PIfs (zan X Nc scope cl L s0 H0 ex) ifs tc) (he:∀ cl L s0 H0 ex,PE (zan X Nc scope cl L s0 H0 ex) elt te)
  (gm:zet g) (q:∀ l,H l = none->zoH X.w g tc te (za8 sub σ) l J H Q)
  (hRR:∀ l C H' s' m,Inv X pins σ H' s'->Q (.ref l) H'->s'.heap.Ns C m->s.heap.objs.size <= C->H' C = none->RR (.ref l) C (.ok .next) s') :
  wpAny (model X.prog X.w) X.A (newSet (.type "set")) (λacc s₃=>wpAny (model X.prog X.w) X.A (newFunctionEnv scope X.env.globals cl [] X.env.qual none .none (some X.env)) (λcenv s₄=>
   codeAny (model X.prog X.w) X.A (.compStart (.SetComp elt [⟨tg,iter,ifs,0⟩] scope pos) 0 (.ref it) acc { cenv with scope:=relabel scope X.env }) (RR acc cenv.locals) s₄) E s₃) E s:=by
 have hlt:∀ b ∈ fp,b < s.heap.objs.size:=λb hb=>let ⟨o,e,_⟩:=T.obj _ _ st b hb;YAn e
 have hl0:H s.heap.objs.size = none:=I.hok.fresh (YAm _);obtain ⟨W,⟨m0,w0⟩,turn⟩:=q s.heap.objs.size hl0;refine zl3 ?_;have I3:Inv X pins σ (upd H s.heap.objs.size (SetO X.w s.heap.objs.size [])) { s with heap:=s.heap.push { cls:=.type "set",dict:=none,data:=.set #[] 0 (.fresh 0 0 (!X.w.params.followText "set-order")) },toks:=s.toks }:=
  I.laid (λb o e=>YAc _ e) (YAm _) (zdF zes)
 have e3:({ s with heap:=s.heap.push { cls:=.type "set",dict:=none,data:=.set #[] 0 (.fresh 0 0 (!X.w.params.followText "set-order")) } }:Shared) = { s with heap:=s.heap.push { cls:=.type "set",dict:=none,data:=.set #[] 0 (.fresh 0 0 (!X.w.params.followText "set-order")) },toks:=s.toks }:=rfl;rw [e3];generalize hs3:({ s with heap:=s.heap.push { cls:=.type "set",dict:=none,data:=.set #[] 0 (.fresh 0 0 (!X.w.params.followText "set-order")) },toks:=s.toks }:Shared) = s3 at I3 ⊢;have k3:∀ b o,s.heap.get? b = some o->s3.heap.get? b = some o:=λb o e=>by rw [<- hs3];exact YAc _ e
 have z3:s.heap.objs.size <= s3.heap.objs.size:=by rw [<- hs3];show _ <= (s.heap.push _).objs.size;rw [YBl];exact Nat.le_succ _
 have f3:∀ b ∈ fp,FpOk X pins (upd H s.heap.objs.size (SetO X.w s.heap.objs.size [])) b:=λb hb=>⟨by rw [zaf (YAw (hlt b hb))];exact (hf b hb).1,(hf b hb).2⟩;have lt3:∀ b ∈ fp,b < s3.heap.objs.size:=λb hb=>YAv (hlt b hb) z3;have st3:tn 0 s3.heap:=T.keep _ _ _ st λb _ o e=>k3 b o e;refine wpAny_newFunctionEnv hS.nocell (by intro y hy;simp at hy) (λh₁ hns₁ hsb₁=>?_) hS.kind;have k4:∀ b o,s3.heap.get? b = some o->h₁.get? b = some o:=λb o e=>hsb₁.extBut b o (YAw (YAn e)) (YAc _ e);have ok4:=zfr (J:=J) (it:=it) (tn:=tn) I3 hS hcl hcl2 f3 lt3;have I4:=zc3 (t':=s3.toks + ([]:List (Str × Value)).length) I3 hS hcl hcl2 ok4 hns₁ k4;have st4:tn 0 h₁:=T.keep _ _ _ st3 λb _ o e=>k4 b o e;have stat:∀ {H':Hp},(∀ b ∈ fp,H' b = none)->∀ b ∈ fp,FpOk (zan X Nc scope cl s3.heap.objs.size s3 (upd H s.heap.objs.size (SetO X.w s.heap.objs.size [])) fp) [] H' b:=λhn b hb=>
  ⟨hn b hb,(ok4.exf b hb).1,ok4.exfs b hb,.inl hb,(ok4.exf b hb).2,λp hp=>absurd (show p ∈ ([]:List (Addr × Obj)) from hp) (by simp)⟩
 have loop:∀ s₄:Shared,s₄ = { s3 with heap:=h₁,toks:=s3.toks + ([]:List (Str × Value)).length } ->
   codeAny (model X.prog X.w) X.A (.compLoop (.SetComp elt [⟨tg,iter,ifs,0⟩] scope pos) 0 (.ref it) (.ref s.heap.objs.size) (compEnvC scope cl s3.heap.objs.size X.env)) (RR (.ref s.heap.objs.size) s3.heap.objs.size) s₄:=by
  rintro s₄ rfl;refine codeAny_loop rfl (λn s'=>∃ i xs H',Inv (zan X Nc scope cl s3.heap.objs.size s3 (upd H s.heap.objs.size (SetO X.w s.heap.objs.size [])) fp) [] (za8 sub σ) H' s'/\tn i s'.heap/\(∀ b ∈ fp,H' b = none)/\W i n xs H') ?_ m0
   ⟨0,[],_,I4,st4,λb hb=>(f3 b hb).1,w0⟩
  rintro n s5 ⟨i,xs,H5,I5,st5,fr5,w5⟩;show wpAny _ X.A ((compTurn (.SetComp elt [⟨tg,iter,ifs,0⟩] scope pos) 0 (.ref it) (.ref s.heap.objs.size) (compEnvC scope cl s3.heap.objs.size X.env)).onRaise (λx=>do noteFrame x (compEnvC scope cl s3.heap.objs.size X.env);theTreesLotGoes x)) _ _ s5;refine wpAny_noted ?_;rw [zmW];refine YAa (YBc (YAa ?_));obtain ⟨hl5,w5⟩:=turn i n xs H5 w5;rcases w5 with ⟨stop,qn⟩ | ⟨go,N,hN,step⟩
  ·refine thn (T.done (zan X Nc scope cl s3.heap.objs.size s3 (upd H s.heap.objs.size (SetO X.w s.heap.objs.size [])) fp) rfl rfl rfl hc i [] s5 (za8 sub σ) H5 _ I5 (stat fr5) st5 stop) λr s6 ⟨hr,I6⟩=>?_;subst hr;obtain ⟨m6,hn6,_⟩:=I6.loc;exact YAf (hRR _ _ H5 s6 m6 (zep I3 f3 I6) qn hn6 z3 I6.free)
  ·refine thn (T.item (zan X Nc scope cl s3.heap.objs.size s3 (upd H s.heap.objs.size (SetO X.w s.heap.objs.size [])) fp) rfl rfl rfl hc i [] s5 (za8 sub σ) H5 _ I5 (stat fr5) st5 go) λr s6 ⟨u,hr,h6⟩=>?_;subst hr;refine YAa (thn h6 λ_ s7 ⟨x,H7,I7,r7,y7,st7,fr7⟩=>?_);have I7':=I7.pinned (stat fr7) (T.obj _ _ st7);have again:∀ {σ8:St} {H8:Hp} {ys:List Int} {s8:Shared},Inv (zan X Nc scope cl s3.heap.objs.size s3 (upd H s.heap.objs.size (SetO X.w s.heap.objs.size [])) fp) ([] ++ zeM fp s7.heap) σ8 H8 s8->(∀ (i j:Nat),sub[i]? = some (some j)->σ8[i]? = (za8 sub σ)[i]?)->N ys H8 ->
     ∃ m,m < n/\∃ i xs H',Inv (zan X Nc scope cl s3.heap.objs.size s3 (upd H s.heap.objs.size (SetO X.w s.heap.objs.size [])) fp) [] (za8 sub σ) H' s8/\tn i s8.heap/\(∀ b ∈ fp,H' b = none)/\W i m xs H':=λ{σ8 H8 ys s8} I8 k8 n8=>by
    obtain ⟨m',hm,w8⟩:=hN ys H8 n8;refine ⟨m',hm,i + 1,ys,H8,?_,T.keep _ _ _ st7 λb hb o e=>(I8.pin (b,o) (YAo _ (YAo _ (za7 hb e)))).1,λb hb=>?_,w8⟩
    ·refine I8.unpinned.weak ?_ λk v e=>?_
     ·rw [I8.len];exact (zdG sub σ).trans hS.len
     ·obtain ⟨j,e1,_⟩:=zcW e;rw [k8 k j e1];exact e
    ·obtain ⟨o,e,d⟩:=T.obj _ _ st7 b hb;exact (I8.pin (b,o) (YAo _ (YAo _ (za7 hb e)))).2.1
   refine YAa (YA0 (hg cl _ s3 _ fp _ s7 (za8 sub σ) H7 x u _ I7' r7 (gk _ _ _ _ (step x H7 y7))) (λ_ s8 ⟨σ8,H8,I8,q8,k8⟩=>?_) λ_ _ z=>False.elim z);refine YAa (YA0 (hi cl _ s3 _ fp _ s8 σ8 H8 _ I8 q8) (λok s9 ⟨H9,I9,q9⟩=>?_) λ_ _ z=>False.elim z);cases ok with
   | false=>exact YAf ⟨rfl,again I9 k8 q9⟩
   | true=>
    refine YAa (YAa (YA0 (he cl _ s3 _ fp _ s9 σ8 H9 _ I9 q9) (λxv s10 ⟨y,H10,I10,r10,kk,hy,hl10,hz,q10⟩=>?_) λ_ _ z=>False.elim z));subst hy;obtain ⟨tk,rfl⟩:=r10;have hSI:SetInts X.w s10.heap s.heap.objs.size xs:=(I10.hok _ _ hl10).1;refine YAa (YBc (YAa (zje hSI hz λh' sb hS'=>?_)));refine YAf (YAf ⟨rfl,again (s8:={ s10 with heap:=h',toks:=s10.toks + 1 }) ?_ k8 q10⟩);exact I10.write (x:=s.heap.objs.size) (e:=s.heap.objs.size) (by rw [hl10];trivial) (.inl rfl) (λb o hb e=>(sb.2 b hb).trans e) (let ⟨_,_,_,z,_⟩:=hS'.ex;⟨_,z.at_⟩) (zdF hS')
 exact zkV (loop _ rfl) (T.self _ 0 _ _ _ st4 (loop _ rfl))
theorem znd (hc:X.calm = true) (hS:CompScope X.N X.env.scope scope Nc sub) (hI:PI X tg iter wi)
  (hg:∀ cl L s0 H0 ex,PG (zan X Nc scope cl L s0 H0 ex) tg g) (gk:zeP sub g) (gm:zet g)
  (hi:∀ cl L s0 H0 ex,PIfs (zan X Nc scope cl L s0 H0 ex) ifs tc) (he:∀ cl L s0 H0 ex,PE (zan X Nc scope cl L s0 H0 ex) elt te)
  (hs:∀ x,foldedSetIterable iter X.env x = pure x:=by intro _;rfl):PE X (.SetComp elt [⟨tg,iter,ifs,0⟩] scope pos) (zqJ X.w sub wi g tc te):=by
 intro pins s σ H Q I h;obtain ⟨cl,hcl0,hcl,hcl2⟩:=zbx (zdd I hS);rw [arm_eval_SetComp];refine wpAny_comprehension_free (use:=none) rfl hs hcl0 hS.kind hS.names ?_;refine thn (hI pins s σ H _ I h) λxv s1 h1=>thn h1 λitv s2 h2=>?_;obtain ⟨it,fp,tn,J,H2,e,I2,T,st2,f2,q⟩:=h2;subst e;refine zoY hc I2 hS hcl hcl2 T st2 f2 hg gk hi he gm q λl C H' s' m I' q' hn hC hfr=>?_;refine ⟨m,hn,λh' sb=>?_⟩;have nL:C ≠ X.env.locals:=YBe (YAv I2.lt hC);refine ⟨.ref l,H',?_,rfl,q'⟩;exact I'.turned (it:=C) (t':=s'.toks) (λb o hb e=>(sb.2 b hb).trans e) hfr nL (.inr (YAK I2.sz hC)) (λx c e z=>by
  obtain ⟨v,w⟩:=I2.cell x c e;exact absurd (YAv w.lt (by rw [z];exact hC)) (YA8 _)) λp hp z=>
  absurd (YAv (YAn (I2.pin p hp).1) (by rw [z];exact hC)) (YA8 _)
end
section
variable {prog:Program} {w:World} {A:Around} {E:Value->Shared->Prop} {s:Shared}
theorem zgH   (hh:A.handled = none) (hl:s.heap.IsTuple l items) (hi:IntsAre items.toList ns) (hb:items.size + 1 < scanBound)
  (h:∀ (h':Heap) (tk:Nat),SetInts w h' s.heap.objs.size ns->(∀ b o,s.heap.get? b = some o->h'.get? b = some o)->Q (.ref s.heap.objs.size) { s with heap:=h',toks:=tk }) :
  wpAny (model prog w) A (call (.type "set") [.ref l]) Q E s:=by
 obtain ⟨c,tl,hmro⟩:=YAP.mro;have hmade:=YAP.made;have hsub:=YAP.sub;refine wpAny_call (codeAny_of_tree ?_);show wpAny _ _ (callAny (.type "set") _) _ _ _;refine YAf ⟨Code.quiet_builtin _ (by decide +kernel),YBz PySem.F.entry_type_call ?_⟩;rw [Around.under_plain (weight_type_call_type "set" [.ref l] []) rfl];have h1:=YAP.notType;have h2:=YAP.canCreate;have hct:=PySem.F.typeCall_set_1 (.ref l)
 repeat (any_goals (first | assumption | wp_step))
 refine codeAny_mono (zeE (a:=.ref l) (E:=E) (Q₁:=λobj s₁=>obj = .ref s.heap.objs.size/\s₁ = { s with heap:=s.heap.push { cls:=.type "set",dict:=none,data:=.set #[] 0 (.fresh 0 0 (!w.params.followText "set-order")) } }) ⟨rfl,rfl⟩) λr s₁ hr=>?_;cases r with
 | error e=>exact hr
 | ok fl=>
  cases fl with
  | ret obj=>
   obtain ⟨rfl,rfl⟩:=hr;have hSI0:SetInts w (s.heap.push { cls:=.type "set",dict:=none,data:=.set #[] 0 (.fresh 0 0 (!w.params.followText "set-order")) }) s.heap.objs.size []:=zes;generalize (!w.params.followText "set-order") = led at hSI0 ⊢;have hS:(s.heap.push { cls:=.type "set",dict:=none,data:=.set #[] 0 (.fresh 0 0 led) }).get? s.heap.objs.size = some { cls:=.type "set",dict:=none,data:=.set #[] 0 (.fresh 0 0 led) }:=YAp _ rfl;have hT:Shared.TypeIs { s with heap:=s.heap.push { cls:=.type "set",dict:=none,data:=.set #[] 0 (.fresh 0 0 led) } } (.ref s.heap.objs.size) "set" := ⟨_,hS,rfl⟩;have hSI:SetInts w (s.heap.push { cls:=.type "set",dict:=none,data:=.set #[] 0 (.fresh 0 0 led) }) s.heap.objs.size []:=hSI0;have hli:=YAP.init.lookup;have hbi:=YAP.init.bind (.ref s.heap.objs.size)
   repeat (any_goals (first | assumption | wp_step))
   refine codeAny_mono (codeAny_call_builtin (R:=wants (λr s₂=>r = .none/\∃ h' tk,s₂ = { s with heap:=h',toks:=tk }/\SetInts w h' s.heap.objs.size ns/\(∀ b o,s.heap.get? b = some o->h'.get? b = some o)) E)
    YAP.init.plain PySem.F.entry_set_init (check_set_init_1 hT ?_)) λr₂ s₂ hr₂=>?_
   ·obtain ⟨ol,hol,hcl,nl,hdl⟩:=hl;obtain ⟨ocls,odict,odata,oslots⟩:=ol;simp only at hcl hdl;subst hcl;subst hdl;have hol':(s.heap.push { cls:=.type "set",dict:=none,data:=.set #[] 0 (.fresh 0 0 led) }).get? l = some { cls:=.type "tuple",dict:=odict,data:=.seq items nl,slots:=oslots }:=YAc _ hol;have hsls:=PySem.F.sub_tuple_set;have hslf:=PySem.F.sub_tuple_frozenset;have hne:(Value.type "tuple" == Value.type "dict") = false:=by decide
    have hl1:(s.heap.push { cls:=.type "set",dict:=none,data:=.set #[] 0 (.fresh 0 0 led) }).IsTuple l items:=⟨_,hol',rfl,nl,rfl⟩;unfold Builtin.«set.__init__» noKeywords Builtin.Frozenset.updateFrom;generalize hPI:pyIter = PI
    wp_walk
    subst hPI;refine wpAny_pyIter_tuple hl1 ?_;refine YAa (wpAny_runValue ?_);have hlS:l < s.heap.objs.size:=YAn hol;have hzO:(s.heap.push { cls:=.type "set",dict:=none,data:=.set #[] 0 (.fresh 0 0 led) }).objs.size = s.heap.objs.size + 1:=YBl _ _;have hneI:l ≠ (s.heap.push { cls:=.type "set",dict:=none,data:=.set #[] 0 (.fresh 0 0 led) }).objs.size:=by rw [hzO];exact YAw (YBb hlS)
    have hval:∀ (i:Nat) (v:Value),items[i]? = some v->∃ t,v = .int ((λi=>ns.getD i 0) i) t:=λi v hv=>
     IntsAre.int_at hi i v (by rw [YBy];exact hv)
    have hnl:items.size = ns.length:=by rw [<- hi.length];simp
    have hns:((List.range items.size).map λi=>ns.getD i 0) = ns:=by
     apply YBB
     ·simp [hnl]
     ·intro j h1 h2;simp [List.getD,YAe h2]
    refine zfp (Walks.tuple (by simp [hh]) _ l hneI items) (by rw [hzO];simp only [YAk,YAN,YBG,not_or];exact ⟨YAw (YBV _),YBe hlS⟩) (λi=>ns.getD i 0) hval hb (items.size - 0) 0 _ (by omega) (YAF _)
     ⟨⟨_,YAp _ rfl,rfl,rfl⟩,(hl1.push _)⟩ ?hS0 ?hR
    case hS0=>exact hSI.keep λo e=>YAc _ e
    case hR=>
     intro h' tk hm hS';rw [hns] at hS';refine YAf ?_;show wpAny _ _ (ret Value.none) _ _ _;refine YAf ⟨rfl,h',tk,rfl,?_,λb o e=>?_⟩
     ·obtain ⟨es,ep,t,q1,q2,q3,q4,q5⟩:=hS'.ex;exact ⟨es,ep,t,q1,q2,q3,q4,λk=>by rw [q5 k,List.mem_reverse]⟩
     ·have hb1:=YAn e;exact hm b o (by rw [hzO];simp only [YAk,YAN,YBG,not_or];exact ⟨YAw hb1,YAw (YBb hb1)⟩) (YAc _ (YAc _ e))
   ·cases r₂ with
    | error e=>exact hr₂
    | ok fl₂=>
     cases fl₂ with
     | ret r=>
      obtain ⟨rfl,h',tk,rfl,hS',hk'⟩:=hr₂
      repeat (any_goals (first | assumption | wp_step))
      exact h _ _ hS' hk'
     | _=>exact hr₂.elim
  | _=>exact hr.elim
end
def SetLen (xs:List Int) (n:Nat):Prop:=∃ ks:List Int,ks.Nodup/\(∀ k,k ∈ ks ↔ k ∈ xs)/\ks.length = n
theorem SetLen.uniq  (x:SetLen xs n) (y:SetLen xs m):n = m:=by
 obtain ⟨a,a1,a2,rfl⟩:=x;obtain ⟨b,b1,b2,rfl⟩:=y;exact Nat.le_antisymm (zaF a1 λk hk=>(b2 k).mpr ((a2 k).mp hk)) (zaF b1 λk hk=>(a2 k).mpr ((b2 k).mp hk))
section
variable {X:Cx}
theorem zhJ (hc:X.calm = true):CallR X (.type "set") (λvs H Q=>∃ (p:Addr) (ns:List Int),vs = [.ref p]/\SqT X.K H p (ns.map V.int)/\ns.length + 1 < scanBound/\∀ l,H l = none->Q (.ref l) (upd H l (SetO X.w l ns))):=by
 intro pins s σ H vs us Q I r h;obtain ⟨p,ns,rfl,hq,hb,q⟩:=h;obtain ⟨u,rfl,rx⟩:=zdD r;cases rx;obtain ⟨its,r',pl,hz⟩:=I.tuple hq;have hlen:=r'.length;rw [YAd] at hlen;refine zgH (ns:=ns) (I.ok.hd hc) (show s.heap.IsTuple p its.toArray from pl) (by simpa using zgh r') (by simp only [YAq];omega) λh' tk hS hk=>?_;exact ⟨.ref s.heap.objs.size,_,I.laid hk (YAm _) (zdF hS),rfl,q _ I.fresh⟩
theorem zg5:CallR X (.builtin "len") (λvs H Q=>∃ (p:Addr) (ns:List Int),vs = [.ref p]/\H p = some (SetO X.w p ns)/\∀ n,SetLen ns n->Q (.int n) H):=by
 intro pins s σ H vs us Q I r h;obtain ⟨p,ns,rfl,hq,q⟩:=h;obtain ⟨u,rfl,rx⟩:=zdD r;cases rx;have hS:SetInts X.w s.heap p ns:=(I.hok p _ hq).1;obtain ⟨es,ep,t,r1,ai,hb,nd,hm⟩:=hS.ex;have hsb:(scanBound:Nat) < 2 ^ 63:=by decide +kernel
 refine PySem.call_len_set r1.at_ ⟨rfl,rfl,rfl⟩ rfl r1.fits (by omega) ⟨.int es.size,H,I.tok _,⟨_,rfl⟩,q _ ⟨keys es,nd,hm,?_⟩⟩;unfold keys;simp
end
def Ite (K:PySem.W.Frag) (a:Addr):It:=
 ⟨λi H=>∃ xs x,SqL K H a xs/\xs[i]? = some x,λi H v H'=>∃ t x,H t = none/\v = .ref t/\H' = upd H t (.tup [.int i,x])/\∀ xs,SqL K H a xs->xs[i]? = some x,λi H=>∃ xs,SqL K H a xs/\xs.length = i⟩
theorem zk6 {P:Program} {w:World} {K:PySem.W.Frag} {es:List Expr} {x1:_} {pos:Pos} {e it a:Addr} (hei:e ≠ it) (hea:e ≠ a) (hai:a ≠ it) :
  Turn P w K (.Tuple es x1 pos) (Ite K a) [e,it] e (λi h=>(∃ old,IsEnum h e it i old)/\h.IsListIter it a i) where
 mem:=by simp
 obj:=λk h st c hc=>by
  obtain ⟨⟨old,h1⟩,o,h2,_,d⟩:=st;simp only [YAk,YAN,YBG] at hc;rcases hc with rfl | rfl
  ·exact ⟨_,h1,λv q=>by cases q⟩
  ·exact ⟨o,h2,λv z=>by rw [d] at z;cases z⟩
 keep:=λk h h' st q=>by
  obtain ⟨⟨old,h1⟩,h2⟩:=st;exact ⟨⟨old,q e (by simp) _ h1⟩,h2.at λo z=>q it (by simp) o z⟩
 item:=by
  intro X hP hw hK hc k pins s σ H E I hf st hg;subst hP hw hK;obtain ⟨xs,x,qa,ex⟩:=hg;obtain ⟨its,r,pl,hz⟩:=I.list qa;obtain ⟨⟨old,h1⟩,h2⟩:=st;have hh:X.A.in1.handled = none:=I.ok.hd hc;obtain ⟨u,eu,ru⟩:=r.get ex;have k1:k < its.toArray.size:=by simpa using (YAi.mp eu).1
  refine wpAny_pyNext_enum_itemD (Draws.list hh it a hai its.toArray) h1 ⟨h2,pl.isList⟩ k1 hei (by simp only [YAk,YAN,YBG,not_or];exact ⟨hei,hea⟩) λv h' tk px g1 g2 g3 g4 kk=>⟨_,rfl,?_⟩;have ev:v = u:=by rw [List.getElem?_toArray,eu] at px;exact (Option.some.inj px).symm
  subst ev;refine wpAny_letOwnedTupleGo_enum g1 λh'' z' sb=>?_;have tz:s.heap.objs.size ≠ e:=YBe (YAn h1);have hn:H s.heap.objs.size = none:=I.hok.fresh (YAm _);have kp:∀ b u,b ∉ [e,it]->s.heap.get? b = some u->h''.get? b = some u:=λb u hb q=>by
   simp only [YAk,YAN,YBG,not_or] at hb;exact sb.extBut b u hb.1 (kk b u hb.1 hb.2 q)
  have I1:Inv X pins σ (upd H s.heap.objs.size (.tup [.int k,x])) { s with heap:=h'',toks:=tk + 1 }:=I.turnedLaid (ch:=[e,it]) kp hf (YAm _)
   ⟨by show 2 <= sizeLine;decide,[.int k tk,v],.cons ⟨tk,rfl⟩ (.cons ru .nil),⟨_,sb.extBut _ _ tz g3,rfl,_,rfl⟩⟩
  refine ⟨.ref s.heap.objs.size,_,I1,rfl,⟨_,x,hn,rfl,rfl,λxs' q=>by rw [I.list_inj q qa];exact ex⟩,?_,λc hc=>?_⟩
  ·exact ⟨⟨_,by simpa using z'⟩,g2.1.at λo q=>sb.extBut _ _ hei.symm q⟩
  ·have hlt:c < s.heap.objs.size:=by
    simp only [YAk,YAN,YBG] at hc;rcases hc with rfl | rfl
    ·exact YAn h1
    ·obtain ⟨o,q,_⟩:=h2;exact YAn q
   rw [zaf (YAw hlt)];exact (hf c hc).1
 done:=by
  intro X hP hw hK hc k pins s σ H E I hf st hg;subst hP hw hK;obtain ⟨xs,qa,hx⟩:=hg;obtain ⟨its,r,pl,hz⟩:=I.list qa;obtain ⟨⟨old,h1⟩,h2⟩:=st;have hh:X.A.in1.handled = none:=I.ok.hd hc;have hk:k = its.toArray.size:=by rw [<- hx,r.length];simp
  subst hk;refine wpAny_pyNext_enum_endD (Draws.list hh it a hai its.toArray) h1 ⟨h2,pl.isList⟩ λh' kk=>⟨rfl,?_⟩;exact I.turnedAll (t':=s.toks) (ch:=[e,it]) (λb u hb q=>by
   simp only [YAk,YAN,YBG,not_or] at hb;exact kk b u hb.2 q) hf
 self:=λ_ _ _ _ _ st h=>by
  obtain ⟨⟨old,h1⟩,_⟩:=st;exact wpAny_pyIter_enum h1 h
def zru (K:PySem.W.Frag) (ta:TA):TI:=λσ H R=>ta σ H λvs H1=>∃ (a:Addr) (xs:List V),vs = [.ref a]/\SqL K H1 a xs/\R (Ite K a) H1
theorem zmb {X:Cx} {es:List Expr} {x1:_} {tpos:Pos} {a:Expr} {ta:TA} {p pos:Pos} (hg:Gl X "enumerate") (hm:X.mg "enumerate" = none) (ha:PA X [a] ta) (hs:starEach [a] X.env = [(false,eval a X.env)]:=by rfl) :
  PI X (.Tuple es x1 tpos) (.Call (.Name "enumerate" p) [a] [] pos) (zru X.K ta):=by
 intro pins s σ H R I h;refine Call_ (zfm I hg hm boot_enumerate (PyProof.Rows.callWith_type1 (thn (ha pos pins s σ H _ I h) λus s1 ⟨vs,H1,I1,r1,q1⟩=>?_) hs rfl));obtain ⟨l,xs,e,q1,q⟩:=q1;subst e;obtain ⟨u,rfl,ru⟩:=zdD r1;cases ru;obtain ⟨its,r,pl,hz⟩:=I1.list q1;have lt1:l < s1.heap.objs.size:=let ⟨o,n,z,_⟩:=pl;YAn z
 refine call_enumerate_list pl.isList λh' g1 g2 _ kk=>?_;refine wpAny_pyIter_enum g1 ?_;have I2:Inv X pins σ H1 { s1 with heap:=h' }:=I1.kept (t':=s1.toks) kk;refine ⟨_,[s1.heap.objs.size + 1,s1.heap.objs.size],_,_,H1,rfl,I2,zk6 (YBe (YBV _)) (YBe (YBb lt1)) (YAw lt1),⟨⟨_,g1⟩,g2⟩,λc hc=>?_,q⟩;have hle:s1.heap.objs.size <= c:=by
  simp only [YAk,YAN,YBG] at hc;rcases hc with rfl | rfl
  ·exact YBA _ _
  ·exact YAm _
 exact I1.fpOk hle (I1.hok.fresh hle)
theorem zjH {K:PySem.W.Frag} {a:Addr} {xs:List V} {g:TG} {tb:TS} {D:Ends} {σ:St} {H:Hp} (Pv:Nat->St->Hp->Prop) (h0:Pv 0 σ H) (hl:∀ i σ H,i <= xs.length->Pv i σ H->SqL K H a xs)
  (hs:∀ i x t σ H,xs[i]? = some x->H t = none->Pv i σ H->g (.ref t) σ (upd H t (.tup [.int i,x])) λσ2 H2=>tb { D with nx:=Pv (i + 1),ct:=Pv (i + 1),bk:=D.nx } σ2 H2) (hd:∀ σ H,Pv xs.length σ H->D.nx σ H) :
  ∃ W:Nat->Nat->St->Hp->Prop,(∃ m,W 0 m σ H)/\∀ i m σ H,W i m σ H ->
   ((Ite K a).stop i H/\D.nx σ H)\/((Ite K a).go i H/\∃ N:St->Hp->Prop,(∀ σ' H',N σ' H'->∃ m',m' < m/\W (i + 1) m' σ' H')/\∀ x H',(Ite K a).yld i H x H'->g x σ H' λσ2 H2=>tb { D with nx:=N,ct:=N,bk:=D.nx } σ2 H2):=by
 refine ⟨λi m σ H=>m = xs.length - i/\i <= xs.length/\Pv i σ H,⟨xs.length,by simp,YAF _,h0⟩,?_⟩;rintro i m σ H ⟨rfl,hi,p⟩;have q:=hl i σ H hi p;by_cases hlt:i < xs.length
 ·refine .inr ⟨⟨xs,xs[i],q,by simp [hlt]⟩,Pv (i + 1),λσ' H' p'=>⟨xs.length - (i + 1),by omega,rfl,hlt,p'⟩,λv H' y=>?_⟩;obtain ⟨t,x,hn,rfl,rfl,ex⟩:=y;exact hs i x t σ H (ex xs q) hn p
 ·have e:i = xs.length:=by omega
  subst e;exact .inl ⟨⟨xs,q,rfl⟩,hd σ H p⟩
theorem zl1:∀ {xs:List V} {us:List Value},xs.length = us.length->(∀ (i:Nat) x u,xs[i]? = some x->us[i]? = some u->RelV x u)->Vals xs us
 | [],[],_,_=>.nil
 | [],u :: us,h,_=>by simp at h
 | x :: xs,[],h,_=>by simp at h
 | x :: xs,u :: us,h,f=>.cons (f 0 x u rfl rfl) (zl1 (by simpa using h) λi a b e1 e2=>f (i + 1) a b (by simpa using e1) (by simpa using e2))
section
variable {X:Cx}
theorem zlW:CallR X (.type "range") (λvs H Q=>∃ j:Int,vs = [.int j]/\∀ p,H p = none->Q (.ref p) (upd H p (.rng 0 j))):=by
 intro pins s σ H vs us Q I r h;obtain ⟨j,rfl,q⟩:=h;obtain ⟨u,rfl,rx⟩:=zdD r;obtain ⟨t,rfl⟩:=rx;exact call_range_1 ⟨.ref s.heap.objs.size,_,I.laid (o:=.rng 0 j) (λb o e=>YAc _ e) (YAm _) ⟨_,_,_,YAp _ rfl⟩,rfl,q _ I.fresh⟩
theorem zgC (hc:X.calm = true):CallR X (.type "list") (λvs H Q=>∃ (p:Addr) (j:Int),vs = [.ref p]/\H p = some (.rng 0 j)/\0 <= j/\j <= 1000/\∀ l,H l = none->Q (.ref l) (upd H l (.lst (((List.range j.toNat).map Int.ofNat).map V.int)))):=by
 intro pins s σ H vs us Q I r h;obtain ⟨p,j,rfl,hq,h0,h1,q⟩:=h;obtain ⟨u,rfl,rx⟩:=zdD r;cases rx;obtain ⟨t,u,v,e⟩:∃ t u v,s.heap.get? p = some { cls:=.type "range",data:=.fields #[.int 0 t,.int j u,.int 1 v] }:=I.hok p _ hq;have hn:Builtin.Range.rangeSize 0 j 1 = (j.toNat:Int):=by rw [rangeSize_one];split <;> omega
 refine call_list_range (n:=j.toNat) (I.ok.hd hc) e (small_one (by omega) (by omega) (by omega) (by omega)) hn (by omega) λh' tk acc c' kk e' hi=>?_;refine ⟨.ref s.heap.objs.size,_,I.laid (t':=tk) (o:=.lst (((List.range j.toNat).map Int.ofNat).map V.int)) kk (YAm _) ⟨?_,acc.toList,c',?_,?_⟩,rfl,q _ I.fresh⟩
 ·simp only [YAd,YBx];rw [YAR];omega
 ·refine zl1 ?_ λi x u e1 e2=>?_
  ·simp only [YAd,YBx,YBD];exact hi.1.symm
  ·have hlt:i < j.toNat:=by
    have:=(YAi.mp e1).1
    simpa using this
   obtain ⟨t',e3⟩:=hi.2 i u (by rw [<- e2];simp)
   have:x = .int (i:Int):=by
    rw [YAu,YAu,List.getElem?_range hlt] at e1;exact (Option.some.inj e1).symm
   subst this;exact ⟨t',by rw [e3];congr 1;omega⟩
 ·simpa using e'
def zsf (K:PySem.W.Frag):R2:=λx y H Q=>∃ a b xs ys,x = .ref a/\y = .ref b/\SqT K H a xs/\SqT K H b ys/\xs.length + ys.length <= sizeLine/\∀ p H',Same H H'->SqT K H' p (xs ++ ys)->Q (.ref p) H'
theorem zi9:OpR X (binaryOp .Add) (zsf X.K):=by
 intro pins s σ H x y v u Q I rx ry h;obtain ⟨a,b,xs,ys,rfl,rfl,ha,hb,hz,q⟩:=h;by_cases hx:xs = []
 ·subst hx;cases rx;cases ry;obtain ⟨its,r1,p1,_⟩:=I.tuple ha;obtain ⟨its2,r2,p2,_⟩:=I.tuple hb;obtain ⟨⟨cls,dd,data,sl⟩,ho,hc,n,hd⟩:=id p1;obtain ⟨⟨cls2,dd2,data2,sl2⟩,ho2,hc2,n2,hd2⟩:=id p2;simp only at hc hd hc2 hd2;subst hc hd hc2 hd2;have hi:its = []:=r1.nil_iff.mpr rfl;exact concat_meets ⟨_,ho,rfl⟩ ⟨_,ho2,rfl⟩ noFill_tuple_add seq_tuple_add PySem.F.slot_tuple_add PySem.F.entry_tuple_add (PySem.F.args_tuple_add_2 _ _)
   (tuple_addW0 a b its.toArray its2.toArray n n2 dd dd2 sl sl2 (by simp [hi])) ⟨ho,ho2,⟨.ref b,H,I,rfl,q b H (λ_ _ e=>e) (by simpa using hb)⟩⟩
 ·refine zlz pins s σ H (.ref a) (.ref b) v u Q I rx ry ⟨a,b,xs,ys,rfl,rfl,ha,hb,hx,hz,λe=>?_,λ_ p hp=>?_⟩
  ·subst e;exact q a H (λ_ _ e=>e) (by simpa using ha)
  ·exact q p _ (λc o e=>by rw [zaf (zae e hp)];exact e) (SqT.of zad)
end
def zrN (td ty:TE):TE:=λσ H Q=>td σ H λx H1=>∃ a,x = .ref a/\IsD H1 a/\ty σ H1 λy H2=>∃ b kvs more,y = .ref b/\a ≠ b/\H2 a = some (.dK kvs)/\H2 b = some (.dK more)/\kvs.length + more.length <= sizeLine/\Q .non (upd H2 a (.dK (mergeK kvs more)))
section
variable {X:Cx} {o e:Expr} {apos cpos:Pos} {td ty:TE}
theorem zml (ho:PE X o td) (he:PE X e ty) (m:M1 X o "update" apos e cpos):PE X (.Call (.Attribute o "update" apos) [e] [] cpos) (zrN td ty):=by
 intro pins s σ H Q I h;refine wpAny_Call_method m.base m.few m.line PySem.F.plainAttrs_dict PySem.F.slot_dict_update PySem.F.type_dict_update (thn (ho pins s σ H _ I h) λu s1 ⟨x,H1,I1,rx,a,ex,d,q1⟩=>?_);subst ex;obtain rfl:u = Value.ref a:=rx;obtain ⟨t1,t2,_⟩:=zp3 I1 d;refine ⟨t1,t2,?_⟩;rw [m.trees];refine Calls.callWith_builtin rfl (Calls.evalArgs_plain (Calls.spliced_cons (thn (he pins s1 σ H1 _ I1 q1) λiv s2 ⟨y,H2,I2,ry,b,kvs,more,ey,hab,ea,eb,hz,q2⟩=>Calls.spliced_nil ?_)));subst ey;obtain rfl:iv = Value.ref b:=ry;obtain ⟨z1,hd1,vs1,rel1,dd1⟩:=zm0 I2.hok ea;obtain ⟨z2,hd2,vs2,rel2,dd2⟩:=zm0 I2.hok eb;refine call_meetsIn PySem.F.slot_dict_update dd1.typeIs PySem.F.entry_dict_update (PySem.F.args_dict_update_2 _ _) (meets_dict_update (zaO X.prog X.w) a b hab hd2) ⟨vs1,vs2,dd1,dd2,by rw [<- rel1.length,<- rel2.length];exact hz,λh' d1 d2 sb=>?_⟩;refine ⟨.non,_,I2.write (x:=a) (e:=a) (o:=.dK (mergeK kvs more)) (t':=s2.toks) (by rw [ea];trivial) (.inl rfl) (λc q hc hq=>(sb.2 c hc).trans hq) (let ⟨ob,_,_,q,_⟩:=d1;⟨ob,q⟩) ?_,rfl,q2⟩;exact ⟨YAK (zcF more kvs) hz,hd1,_,KV.merge rel2 rel1,d1⟩
end
theorem zcE:∀ (more:List (Key × V)) (kvs:List (Key × V)),(∀ k ∈ more.map (·.1),k ∉ kvs.map (·.1))->(more.map (·.1)).Nodup->mergeK kvs more = kvs ++ more
 | [],kvs,_,_=>by unfold mergeK;simp
 | x :: more,kvs,h,hn=>by
  rw [YAb,YBf] at hn;have hx:valV kvs x.1 = none:=by
   cases e:valV kvs x.1 with
   | none=>rfl
   | some v=>exact absurd (zk7 e) (h x.1 (by simp))
  show mergeK (putK kvs x.1 x.2) more = _;rw [zjF _ hx,zcE more _ (λk hk q=>?_) hn.2,YA1]
  ·rfl
  ·rw [YAy] at q;rcases YAr.mp q with q | q
   ·exact h k (by rw [YAb];exact YAj _ hk) q
   ·have:k = x.1:=by simpa using q
    exact hn.1 (this ▸ hk)
theorem zds:entryFor table "dict_itemiterator.__iter__" = some Builtin.«dict_keyiterator.__iter__»:=
 entryFor_alias (id' := "dict_keyiterator.__iter__") (by kernel_rfl) (by first | rfl | decide +kernel | (unfold String.splitOn;simp +decide [String.splitOnAux])) (by decide +kernel) (by kernel_rfl)
theorem zg9     (hit:IsItemIter s.heap it d i n ep ok ov) (h:Q (.ref it) s):wpAny (model P w) A (pyIter (.ref it)) Q E s:=by
 have hT:s.TypeIs (.ref it) "dict_itemiterator" := ⟨_,hit,rfl⟩;refine wpAny_pyIter_slot hT PySem.F.slot_dict_itemiterator_iter (YAV PySem.F.slot_dict_itemiterator_iter hT zds ?_ (PySem.F.args_dict_itemiterator_iter_1 _));show wpAny _ _ (ret (.ref it)) _ _ s;exact YAf ⟨_,rfl,"dict_itemiterator",_,hT,PySem.F.slot_dict_itemiterator_next.lookup,h⟩
section
variable {X:Cx} {pins:List (Addr × Obj)} {σ:St} {H:Hp} {s:Shared}
theorem Inv.freeze  (I:Inv X pins σ H s) (hd:H d = some (.dK kvs)) (ho:s.heap.get? d = some o):Inv X pins σ (upd H d (.frz o (.dK kvs))) s:=by
 have nd:∀ b u,H b = some u->(∀ q,u ≠ .dK q)->b ≠ d:=λb u e n z=>by rw [z,hd] at e;cases e;exact n _ rfl
 refine I.step (g':=s.gens) (d':=s.drawn) (t':=s.toks) (h':=s.heap) (ch:=[]) (λ_ z=>nomatch z) (λb u _ _ _ e _=>e) (λb u _ _ _ e _=>⟨u.slots,e⟩)
  (λb u _ e n=>by rw [zaf (λz=>by rw [z,hd] at n;cases n)];exact n) (λb u _ e=>⟨u,e⟩) (λb xs e=>by rw [zaf (nd b _ e (λq z=>by cases z))];exact e) (λb u xs e=>by rw [zaf (nd b _ e (λq z=>by cases z))];exact e)
  (λb ps e=>⟨#[],by rw [zaf (nd b _ e (λq z=>by cases z)),e];simp⟩) (λm hm=>hm) (λb u e=>?_) I.bare
 have st:∀ c w,H c = some w->ObjOk X.prog X.w (upd H d (.frz o (.dK kvs))) s.heap c w:=λc w q=>
  (I.hok c w q).stay (λ_ _ _ z=>z) (λc' q'=>by rw [zaf (nd c' _ q' (λq z=>by cases z))];exact q') λc' xs q'=>by rw [zaf (nd c' _ q' (λq z=>by cases z))];exact q'
 by_cases hb:b = d
 ·subst hb;rw [zad] at e;cases e;exact ⟨ho,st b _ hd⟩
 ·rw [zaf hb] at e;exact st b u e
end
theorem ziw {α β:Type} {F:α->β->Prop}:∀ {l₁:List α} {l₂:List β},Paired F l₁ l₂->∀ {i:Nat} {a:α} {b:β},l₁[i]? = some a->l₂[i]? = some b->F a b
 | _,_,.nil,i,a,b,h,_=>by simp at h
 | _,_,.cons r t,0,a,b,h1,h2=>by simp at h1 h2;subst h1 h2;exact r
 | _,_,.cons r t,i + 1,a,b,h1,h2=>ziw t (by simpa using h1) (by simpa using h2)
theorem zrY  (h:zi3 k u = true):RelV (kV k) u:=by
 rcases zaW h with ⟨i,t,rfl,rfl⟩ | ⟨x,t,rfl,rfl⟩
 ·exact ⟨t,rfl⟩
 ·exact ⟨t,rfl⟩
def Iti (d:Addr) (o:Obj) (kvs:List (Key × V)):It:=
 ⟨λi H=>i < kvs.length/\H d = some (.frz o (.dK kvs)),λi H v H'=>∃ t k x,H t = none/\kvs[i]? = some (k,x)/\v = .ref t/\H' = upd H t (.tup [kV k,x]),λi H=>i = kvs.length/\H d = some (.frz o (.dK kvs))⟩
theorem zkw {P:Program} {w:World} {K:PySem.W.Frag} {es:List Expr} {x1:_} {pos:Pos} {it d:Addr} {o:Obj} {kvs:List (Key × V)} {ents:Array DictEntry} {ep:Nat} (ho:o.data = .dict ents ep) :
  Turn P w K (.Tuple es x1 pos) (Iti d o kvs) [it] it (λi h=>∃ ok ov,IsItemIter h it d i kvs.length ep ok ov) where
 mem:=by simp
 obj:=λk h st c hc=>by
  obtain ⟨ok,ov,h1⟩:=st;rw [YAg.mp hc];exact ⟨_,h1,λv q=>by cases q⟩
 keep:=λk h h' st q=>by
  obtain ⟨ok,ov,h1⟩:=st;exact ⟨ok,ov,q it (by simp) _ h1⟩
 item:=by
  intro X hP hw hK hc k pins s σ H E I hf st hg;subst hP hw hK;obtain ⟨hk,hd⟩:=hg;obtain ⟨ok,ov,h1⟩:=st;obtain ⟨eo,z,hS,vs,rel,o',es',ep',e',xd,dd,kk,pp,nn⟩:=I.hok d _ hd;rw [eo] at e';cases e';rw [ho] at dd;cases dd;have hlen:kvs.length = vs.length:=rel.length;obtain ⟨⟨kk0,vv⟩,hvs⟩:∃ p,vs[k]? = some p:=⟨_,YAe (by omega)⟩;obtain ⟨⟨k0,x0⟩,hkv⟩:∃ p,kvs[k]? = some p:=⟨_,YAe hk⟩;have hrel:k0 = kk0/\RelV x0 vv:=ziw rel hkv hvs;obtain ⟨rfl,rx⟩:=hrel;have dat:s.heap.DictAt (zaO X.prog X.w) d vs ep:=⟨o,ents,eo,xd,ho,kk,pp,nn⟩;rw [hlen] at h1;refine wpAny_pyNext_items_item (knd:=zaO X.prog X.w) h1 dat hvs λkey h' hkey g1 g2 g3 kp=>⟨_,rfl,?_⟩;refine wpAny_letOwnedTupleGo_items g1 λh'' z' sb=>?_;obtain ⟨f0,f1,f2,f3,f4,f5⟩:=hf it (by simp);have tz:s.heap.objs.size ≠ it:=YBe (YAn h1);have hn:H s.heap.objs.size = none:=I.hok.fresh (YAm _);have kp2:∀ b u,b ∉ [it]->s.heap.get? b = some u->h''.get? b = some u:=λb u hb q=>by
   have hb':b ≠ it:=λz=>hb (by simp [z]);exact sb.extBut b u hb' (kp b u hb' q)
  have I1:Inv X pins σ (upd H s.heap.objs.size (.tup [kV k0,x0])) { s with heap:=h'',toks:=s.toks }:=I.turnedLaid (ch:=[it]) kp2 hf (YAm _)
   ⟨by show 2 <= sizeLine;decide,[key,vv],.cons (zrY hkey) (.cons rx .nil),⟨_,sb.extBut _ _ tz g2,rfl,_,rfl⟩⟩
  refine ⟨.ref s.heap.objs.size,_,I1,rfl,⟨_,k0,x0,hn,hkv,rfl,rfl⟩,⟨_,_,by rw [hlen];exact z'⟩,λc hc=>?_⟩;rw [YAg.mp hc,zaf tz.symm];exact f0
 done:=by
  intro X hP hw hK hc k pins s σ H E I hf st hg;subst hP hw hK;obtain ⟨hk,hd⟩:=hg;obtain ⟨ok,ov,h1⟩:=st;obtain ⟨eo,z,hS,vs,rel,o',es',ep',e',xd,dd,kk,pp,nn⟩:=I.hok d _ hd;rw [eo] at e';cases e';rw [ho] at dd;cases dd;have hlen:kvs.length = vs.length:=rel.length;have dat:s.heap.DictAt (zaO X.prog X.w) d vs ep:=⟨o,ents,eo,xd,ho,kk,pp,nn⟩;rw [hlen] at h1;have hh:X.A.handled = none:=I.ok.hd hc;refine wpAny_pyNext_items_end (knd:=zaO X.prog X.w) hh h1 dat (by rw [List.getElem?_eq_none_iff];omega) λh' eb=>⟨rfl,?_⟩;exact I.turnedAll (t':=s.toks) (ch:=[it]) (λb u hb q=>eb b u (λz=>hb (by simp [z])) q) hf
 self:=λ_ _ _ _ _ st h=>by
  obtain ⟨ok,ov,h1⟩:=st;exact zg9 h1 h
def zqu (td:TE):TI:=λσ H R=>td σ H λx H1=>∃ d kvs,x = .ref d/\H1 d = some (.dK kvs)/\∀ o,R (Iti d o kvs) (upd H1 d (.frz o (.dK kvs)))
theorem znD {X:Cx} {es:List Expr} {x1:_} {tpos:Pos} {o:Expr} {td:TE} {apos pos:Pos} (ho:PE X o td) (hbase:attributeBase o "items" X.env (eval o X.env) = eval o X.env:=by rfl) (hline:(apos.endLine == pos.line) = true:=by rfl) :
  PI X (.Tuple es x1 tpos) (.Call (.Attribute o "items" apos) [] [] pos) (zqu td):=by
 intro pins s σ H R I h;refine wpAny_Call_method (T := "dict") (id := "dict.items") hbase rfl hline PySem.F.plainAttrs_dict PySem.F.slot_dict_items PySem.F.type_dict_items (thn (ho pins s σ H _ I h) λu s1 ⟨x,H1,I1,rx,d,kvs,ex,hd,q⟩=>?_);subst ex;obtain rfl:u = Value.ref d:=rx;obtain ⟨z,hS,vs,rel,dd⟩:=zm0 I1.hok hd;refine ⟨dd.typeIs,dd.mapOf.noDict,?_⟩;show wpAny _ _ (callWith pos (.builtin "dict.items") [.ref d] [] []) _ _ s1;obtain ⟨ob,ents,ep,e1,e2,e3,e4,e5,e6⟩:=id dd;refine method_meetsIn PySem.F.slot_dict_items PySem.F.entry_dict_items rfl (PySem.evalArgs_none ⟨rfl,dd.typeIs,PySem.F.args_dict_items_1 _,_,meets_dict_items (zaO X.prog X.w) d hS,⟨vs,dd⟩,?_⟩);have k1:∀ b q,s1.heap.get? b = some q->(s1.heap.push { cls:=.type "dict_items",data:=.fields #[.ref d] }).get? b = some q:=λb q hq=>YAc _ hq;have I2:Inv X pins σ H1 { s1 with heap:=s1.heap.push { cls:=.type "dict_items",data:=.fields #[.ref d] } }:=I1.kept (t':=s1.toks) k1;have I3:=I2.freeze hd (k1 _ _ e1);have dat:(s1.heap.push { cls:=.type "dict_items",data:=.fields #[.ref d] }).DictAt (zaO X.prog X.w) d vs ep:=⟨ob,ents,k1 _ _ e1,e2,e3,e4,e5,e6⟩;refine wpAny_pyIter_items (knd:=zaO X.prog X.w) (s:={ s1 with heap:=s1.heap.push { cls:=.type "dict_items",data:=.fields #[.ref d] } }) ⟨_,YAp _ rfl,rfl,rfl⟩ dat ?_;have I4:Inv X pins σ (upd H1 d (.frz ob (.dK kvs))) { s1 with heap:=(s1.heap.push { cls:=.type "dict_items",data:=.fields #[.ref d] }).push { cls:=.type "dict_itemiterator",data:=.fields #[.none,.bool false,.ref d,.int 0 0,.int vs.length 0,.int ep 0,.none,.none] } }:=I3.kept (t':=s1.toks) λb q hq=>YAc _ hq;refine ⟨_,[(s1.heap.push { cls:=.type "dict_items",data:=.fields #[.ref d] }).objs.size],_,_,_,rfl,I4,zkw (kvs:=kvs) (d:=d) e3,⟨.none,.none,?_⟩,λc hc=>?_,q ob⟩
 ·rw [rel.length];exact YAp _ rfl
 ·rw [YAg.mp hc];exact I3.fpOk (YAm _) (I3.hok.fresh (YAm _))
theorem zm6 {d:Addr} {o:Obj} {kvs:List (Key × V)} {g:TG} {tb:TS} {D:Ends} {σ:St} {H:Hp} (Pv:Nat->St->Hp->Prop) (h0:Pv 0 σ H) (hl:∀ i σ H,i <= kvs.length->Pv i σ H->H d = some (.frz o (.dK kvs)))
  (hs:∀ i k x t σ H,kvs[i]? = some (k,x)->H t = none->Pv i σ H->g (.ref t) σ (upd H t (.tup [kV k,x])) λσ2 H2=>tb { D with nx:=Pv (i + 1),ct:=Pv (i + 1),bk:=D.nx } σ2 H2) (hd:∀ σ H,Pv kvs.length σ H->D.nx σ H) :
  ∃ W:Nat->Nat->St->Hp->Prop,(∃ m,W 0 m σ H)/\∀ i m σ H,W i m σ H ->
   ((Iti d o kvs).stop i H/\D.nx σ H)\/((Iti d o kvs).go i H/\∃ N:St->Hp->Prop,(∀ σ' H',N σ' H'->∃ m',m' < m/\W (i + 1) m' σ' H')/\∀ x H',(Iti d o kvs).yld i H x H'->g x σ H' λσ2 H2=>tb { D with nx:=N,ct:=N,bk:=D.nx } σ2 H2):=by
 refine ⟨λi m σ H=>m = kvs.length - i/\i <= kvs.length/\Pv i σ H,⟨kvs.length,by simp,YAF _,h0⟩,?_⟩;rintro i m σ H ⟨rfl,hi,p⟩;have q:=hl i σ H hi p;by_cases hlt:i < kvs.length
 ·refine .inr ⟨⟨hlt,q⟩,Pv (i + 1),λσ' H' p'=>⟨kvs.length - (i + 1),by omega,rfl,hlt,p'⟩,λv H' y=>?_⟩;obtain ⟨t,k,x,hn,ex,rfl,rfl⟩:=y;exact hs i k x t σ H ex hn p
 ·have e:i = kvs.length:=by omega
  subst e;exact .inl ⟨⟨rfl,q⟩,hd σ H p⟩
end L2
namespace HT
open PySem PySem.Spec PyProof.Rows
section
variable {prog:Program} {w:World} {A:Around} {E:Value->Shared->Prop} {s:Shared}
theorem getItem_tuple_whole {t sl:Addr} {items:Array Value} {vl vu:Value} {lo hi:Option Int} {Q:Value->Shared->Prop} (ht:IsTup s.heap t items) (hs:s.heap.IsSliceOf sl vl vu .none) (pl:IsPart vl lo) (pu:IsPart vu hi)
  (hw:sIx items.size 0 lo = 0/\sIx items.size items.size hi = items.size)
  (h:Q (.ref t) s):wpAny (model prog w) A (getItem (.ref t) (.ref sl)) Q E s:=by
 obtain ⟨os,hos,hcs,hds⟩:=id hs;have hTs:s.TypeIs (.ref sl) "slice" := ⟨os,hos,hcs⟩;unfold getItem
 try with_reducible refine YAX ?_
 first | refine YAa (YAf ?_) | skip
 refine YAa (wpAny_sequenceKey ht.typeIs (by decide) ?_);refine YAa (YAY (name:=Str.ofString "__getitem__") ht.typeIs YAJ
  (YAV YAJ ht.typeIs entry_tuple_getitem ?_ (args_tuple_getitem _ _)))
 show wpAny _ _ (Builtin.Tuple.tupleItemsOf (.ref t) >>= _) _ _ s;refine YAa (tupleItemsOf_ ht ?_);refine YAa (wpAny_typeOf hTs ?_);rw [if_pos (by decide)];refine YAa (zcO hs pl pu ?_);have hyes:((((sIx items.size 0 lo:Nat):Int) == 0 && (1:Int) == 1 && (sIx items.size items.size hi - sIx items.size 0 lo) == items.size) = true):=by
  rw [hw.1,hw.2];simp
 show wpAny _ _ (if (((sIx items.size 0 lo:Nat):Int) == 0 && (1:Int) == 1 && (sIx items.size items.size hi - sIx items.size 0 lo) == items.size) = true then _ else _) _ _ s;rw [if_pos hyes];unfold Builtin.Tuple.tupleIsExact;refine YAa (YAa (wpAny_typeOf ht.typeIs (YAf ?_)));rw [if_pos (by decide)];refine YAa (YBH ?_);exact YAf ⟨_,rfl,YAf h⟩
theorem znk (xs:List Value):(List.range xs.length).filterMap (λ(m:Nat)=>xs.toArray[(((xs.length:Int) - 1) + (m:Int) * (-1)).toNat]?) = xs.reverse:=by
 apply List.ext_getElem?;intro i;have e:∀ k,k < xs.length->(λ(m:Nat)=>xs.toArray[(((xs.length:Int) - 1) + (m:Int) * (-1)).toNat]?) k = xs[xs.length - 1 - k]?:=λk hk=>by
  have:(((xs.length:Int) - 1) + (k:Int) * (-1)).toNat = xs.length - 1 - k:=by omega
  show xs.toArray[_]? = _;rw [this];simp
 have gen:∀ n,n <= xs.length->(List.range n).filterMap (λ(m:Nat)=>xs.toArray[(((xs.length:Int) - 1) + (m:Int) * (-1)).toNat]?) = (List.range n).map λm=>xs.reverse[m]?.getD .none:=by
  intro n
  induction n with
  | zero=>intro _;rfl
  | succ n ih=>
   intro hn;rw [List.range_succ,List.filterMap_append,YAy,ih (by omega)];congr 1;have h1:=e n (by omega);have h2:xs.reverse[n]? = xs[xs.length - 1 - n]?:=List.getElem?_reverse (by omega);have h3:xs[xs.length - 1 - n]? = some xs[xs.length - 1 - n]:=YAe (by omega);have h1':xs.toArray[(((xs.length:Int) - 1) + (n:Int) * (-1)).toNat]? = xs[xs.length - 1 - n]?:=h1;rw [YAU,h1',h3,YAb,h2,h3];rfl
 rw [gen _ (YAm _)];by_cases hi:i < xs.length
 ·rw [YAu,List.getElem?_range hi]
  have:xs.reverse[i]? = some (xs.reverse[i]'(by simpa using hi)):=YAe (by simpa using hi)
  show some (xs.reverse[i]?.getD Value.none) = _;rw [this];rfl
 ·rw [List.getElem?_eq_none (by simpa using Nat.le_of_not_lt hi),List.getElem?_eq_none (by simpa using Nat.le_of_not_lt hi)]
theorem getItem_tuple_rev {t sl:Addr} {items:List Value} {u:Tok} {Q:Value->Shared->Prop} (ht:IsTup s.heap t items.toArray) (hs:s.heap.IsSliceOf sl .none .none (.int (-1) u))
  (h:Q (.ref s.heap.objs.size) { s with heap:=s.heap.push { cls:=.type "tuple",data:=.seq items.reverse.toArray } })
  (hsz:items.length <= sizeLine):wpAny (model prog w) A (getItem (.ref t) (.ref sl)) Q E s:=by
 have htake:sizeOk (.seq items.reverse.toArray):=by
  show items.reverse.toArray.size <= sizeLine;rw [YAq,List.length_reverse];exact hsz
 obtain ⟨os,hos,hcs,hds⟩:=id hs;have hTs:s.TypeIs (.ref sl) "slice" := ⟨os,hos,hcs⟩;unfold getItem
 try with_reducible refine YAX ?_
 first | refine YAa (YAf ?_) | skip
 refine YAa (wpAny_sequenceKey ht.typeIs (by decide) ?_);refine YAa (YAY (name:=Str.ofString "__getitem__") ht.typeIs YAJ
  (YAV YAJ ht.typeIs entry_tuple_getitem ?_ (args_tuple_getitem _ _)))
 show wpAny _ _ (Builtin.Tuple.tupleItemsOf (.ref t) >>= _) _ _ s;refine YAa (tupleItemsOf_ ht ?_);refine YAa (wpAny_typeOf hTs ?_);rw [if_pos (by decide)];have ap:∀ {Q':Int × Int × Nat->Shared->Prop},Q' ((items.length:Int) - 1,-1,items.length) s->wpAny (model prog w) A.in1 (Builtin.Slice.sliceApplied (.ref sl) (pure (items.toArray.size:Int))) Q' E s:=by
  intro Q' h';unfold Builtin.Slice.sliceApplied Builtin.Slice.sliceFields;refine YAa (YAa (YA5 hos hds (x:=.none) rfl (YAa (YA5 hos hds (x:=.none) rfl (YAa (YA5 hos hds (x:=.int (-1) u) rfl (YAf ?_)))))));refine YAa (slicePart_int ?_);show wpAny _ _ (if ((-1:Int) == 0) = true then _ else _) _ _ s;rw [if_neg (by decide)];refine YAa (slicePart_none (YAa (slicePart_none (YAa (YAf ?_)))));show wpAny _ _ (match Builtin.Slice.sliceAdjust none none (-1) (items.toArray.size:Int) with | (lo,hi)=>pure (lo,(-1:Int),Builtin.Slice.slicePlaces lo hi (-1))) _ _ s;have e1:Builtin.Slice.sliceAdjust none none (-1) (items.toArray.size:Int) = ((items.length:Int) - 1,-1):=by
   unfold Builtin.Slice.sliceAdjust;simp
  rw [e1];show wpAny _ _ (pure ((items.length:Int) - 1,(-1:Int),Builtin.Slice.slicePlaces ((items.length:Int) - 1) (-1) (-1))) _ _ s;have e2:Builtin.Slice.slicePlaces ((items.length:Int) - 1) (-1) (-1) = items.length:=by
   unfold Builtin.Slice.slicePlaces;have h1:¬ ((-1:Int) > 0):=by omega
   simp only [h1,YBM,Int.neg_neg,Int.ediv_one];split <;> omega
  rw [e2];exact YAf h'
 refine YAa (ap ?_);have hno:¬ ((((items.length:Int) - 1) == 0 && (-1:Int) == 1 && items.length == items.toArray.size) = true):=by
  intro q;rw [YAL,YAL] at q;exact absurd q.1.2 (by decide)
 show wpAny _ _ (if (((items.length:Int) - 1) == 0 && (-1:Int) == 1 && items.length == items.toArray.size) = true then _ else _) _ _ s;rw [if_neg hno,znk];first
  | exact YAa (m:=Builtin.Tuple.tupleExact _) (YAQ (YAf ⟨_,rfl,YAf h⟩) htake)
  | exact YAa (m:=Builtin.Tuple.tupleExact _) (YAQ (YAa (YAf (YAf ⟨_,rfl,YAf h⟩))) htake)
  | exact YAa (YAa (m:=Builtin.Tuple.tupleExact _) (YAQ (YAf (YAf ⟨_,rfl,YAf h⟩)) htake))
  | exact YAa (YAa (m:=Builtin.Tuple.tupleExact _) (YAQ (YAf ⟨_,rfl,YAf h⟩) htake))
end
end HT
namespace L2
open PySem PySem.Spec PyProof.Rows
section
variable {X:Cx}
def rSlG (K:PySem.W.Frag):V->Option Int->Option Int->Hp->VK->Prop:=λx lo hi H Q=>∃ a xs,x = .ref a/\SqT K H a xs/\∀ p H',Same H H'->SqT K H' p (cutV xs lo hi)->Q (.ref p) H'
theorem zmZ:SlR X (rSlG X.K):=by
 intro pins s σ H x v vl vu lo hi sl Q I rx hs pl pu h;obtain ⟨a,xs,rfl,hx,q⟩:=h;by_cases hw:HT.sIx xs.length 0 lo = 0/\HT.sIx xs.length xs.length hi = xs.length
 ·cases rx;obtain ⟨its,r,ht,hz⟩:=I.tuple hx;have hlen:its.toArray.size = xs.length:=by rw [YAq];exact r.length.symm
  refine ⟨"tuple",_,YAJ.lookup,ht.typeIs,?_⟩;refine HT.getItem_tuple_whole ht hs pl pu (by rw [hlen];exact hw) ?_;refine ⟨.ref a,H,I,rfl,q a H (λ_ _ e=>e) ?_⟩
  have:cutV xs lo hi = xs:=by unfold cutV;rw [hw.1,hw.2];simp
  rw [this];exact hx
 ·exact zoA pins s σ H (.ref a) v vl vu lo hi sl Q I rx hs pl pu ⟨a,xs,rfl,hx,hw,λp hp=>q p _ (λc o e=>by rw [zaf (zae e hp)];exact e) (SqT.of zad)⟩
def zr4 (K:PySem.W.Frag) (te:TE) (ts:TE):TE:=λσ H Q=>te σ H λx H1=>ts σ H1 λy H2=>∃ a xs,x = .ref a/\y = .int (-1)/\SqT K H2 a xs/\∀ p,H2 p = none->Q (.ref p) (upd H2 p (.tup xs.reverse))
theorem zn7  (r:Vals xs us):Vals xs.reverse us.reverse:=by
 induction r with
 | nil=>exact .nil
 | cons h t ih=>rw [List.reverse_cons,List.reverse_cons];exact ih.append (.cons h .nil)
theorem zo0 {e st:Expr} {te ts:TE} {p2 pos:Pos} (he:PE X e te) (hst:PE X st ts):PE X (.Subscript e (.Slice none none (some st) p2) pos) (zr4 X.K te ts):=by
 intro pins s σ H Q I h;refine Subscript_ (thn (he pins s σ H _ I h) λv s1 ⟨x,H1,I1,r1,q1⟩=>?_);refine wpAny_Slice ?_;rw [evalPart_none,evalPart_some];refine YAf (YAf (thn (hst pins s1 σ H1 _ I1 q1) λvs s2 ⟨y,H2,I2,r2,q2⟩=>?_));obtain ⟨a,xs,rfl,rfl,hx,q⟩:=q2;cases r1;obtain ⟨t,rfl⟩:=r2;have I4:Inv X pins σ H2 { s2 with heap:=s2.heap.push { cls:=.type "slice",data:=.fields #[.none,.none,.int (-1) t] } }:=I2.kept (t':=s2.toks) λb ob q=>YAc _ q;show wpAny (model X.prog X.w) X.A (subscriptTail e (.Slice none none (some st) p2) (.ref a) (.ref s2.heap.objs.size)) (EP X pins σ Q) X.xe { s2 with heap:=s2.heap.push { cls:=.type "slice",data:=.fields #[.none,.none,.int (-1) t] } };obtain ⟨its,r,ht,hz⟩:=I4.tuple hx;have hlen:=r.length;refine tail_any (ops:=[.ref a,.ref s2.heap.objs.size]) ht.typeIs YAJ.lookup ?_ (by with_unfolding_all rfl);refine HT.getItem_tuple_rev ht (Heap.IsSliceOf.new ..) ?_ (by omega);refine ⟨.ref _,_,I4.laid (t':=s2.toks) (o:=.tup xs.reverse) (λb ob q=>YAc _ q) (YAm _) ?_,rfl,q _ (I4.hok.fresh (YAm _))⟩;exact ⟨by rw [List.length_reverse];exact hz,_,zn7 r,IsTup.new _ _⟩
end
section
variable {prog:Program} {w:World} {A:Around} {E:Value->Shared->Prop} {s:Shared}
theorem zih  (hne:t ≠ it):∀ (n i:Nat) (s:Shared) (Q:List Value->Shared->Prop),s.heap.IsListIter it t i->s.heap.IsList t items->i + n <= items.size ->
  (∀ h',h'.IsListIter it t (i + n)->Heap.SameBut it s.heap h'->Q ((items.toList.drop i).take n) { s with heap:=h' })->wpAny (model prog w) A (draw (.ref it) n) Q E s
 | 0,i,s,Q,hit,_,_,hQ=>by
  show wpAny _ _ (pure []) Q E s;exact YAf (by simpa using hQ s.heap hit (Heap.SameBut.refl ..))
 | n + 1,i,s,Q,hit,ht,hle,hQ=>by
  have hlt:i < items.size:=by omega
  show wpAny _ _ (pyNext (.ref it) >>= _) Q E s;refine YAa (wpAny_pyNext_list_item hit ht (x:=items[i]) (by simp [hlt]) λh₁ hit₁ hs₁=>?_);refine YAa (YAX (zih hne n (i + 1) _ _ hit₁ (ht.extBut hs₁.extBut hne) (by omega) λh₂ hit₂ hs₂=>YAf ?_));have hd:items.toList.drop i = items[i] :: items.toList.drop (i + 1):=by simp [YAT,hlt]
  have:=hQ h₂ (by rw [show i + (n + 1) = i + 1 + n by omega];exact hit₂) (hs₁.trans hs₂)
  rw [hd,List.take_succ_cons] at this;exact this
theorem zeO  (hh:A.handled = none) (ht:s.heap.IsList t items)
  (hQ:∀ h',Heap.ExtBut s.heap.objs.size s.heap h'->Q items.toList { s with heap:=h' }):wpAny (model prog w) A (unpackItems (.ref t) items.size none) Q E s:=by
 have hlt:t ≠ s.heap.objs.size:=by obtain ⟨o,ho,_⟩:=ht;exact YAw (YAn ho)
 unfold unpackItems;refine YAa ?_
 ·unfold notIterableAtAll;refine YAa (wpAny_specialOf ht.typeIs slot_list_iter.lookup ?_);refine YAf ?_;simp only [YA2,YBM];refine YAa (YAX (YBO ht ?_));have ht0:=ht.push { cls:=.type "list_iterator",data:=.fields #[.ref t,.int 0 0] };refine YAa (YAX (zih hlt items.size 0 _ _ ⟨_,YAp _ rfl,rfl,rfl⟩ ht0 (by omega) λh₁ hit₁ hs₁=>?_));have hall:List.take items.size (List.drop 0 items.toList) = items.toList:=by
   rw [List.drop_zero];exact List.take_of_length_le (by simp)
  rw [hall];rw [if_neg (by simp)];have ht₁:h₁.IsList t items:=ht0.extBut hs₁.extBut hlt;refine YAa (YAX (wpAny_pyNext_list_end hh hit₁ ht₁ (by simp) λh₂ he₂=>?_));simp only [Option.isSome_none,YA2,YBM];refine YAf (hQ h₂ λb o hb e=>he₂ b o hb (hs₁.extBut b o hb (YAc _ e)))
theorem zev  {x1}   (hh:A.handled = none) (ht:s.heap.IsList t items)
  (hn:(assignEach elts env).length = items.size) (hstar:(assignEach elts env).findIdx? (·.1) = none)
  (h:∀ h',Heap.ExtBut s.heap.objs.size s.heap h'->wpAny (model prog w) A (assignInOrder ((assignEach elts env).map (·.2)) items.toList) Q E { s with heap:=h' }) :
  wpAny (model prog w) A (assign (.Tuple elts x1 pos) env (.ref t)) Q E s:=by
 rw [assign_Tuple];refine YAa (YBc ?_);unfold unpack;rw [hn,hstar];exact YAa (YAX (zeO hh ht h))
end
def gSeq (K:PySem.W.Frag) (n:Nat) (t:TGs):TG:=λv σ H Q=>∃ a xs,v = .ref a/\(SqT K H a xs\/SqL K H a xs)/\xs.length = n/\t xs σ H Q
theorem zbi    (hc:X.calm = true) (h:PGs X es t)
  (hn:(assignEach es X.env).length = n:=by rfl) (hst:(assignEach es X.env).findIdx? (·.1) = none:=by rfl):PG X (.Tuple es k pos) (gSeq X.K n t):=by
 intro pins s σ H v u Q I r hw;obtain ⟨a,xs,e1,hq,hl,hw⟩:=hw;rcases hq with hq | hq
 ·exact zcv hc h hn hst pins s σ H v u Q I r ⟨a,xs,e1,hq,hl,hw⟩
 ·subst e1;cases r;obtain ⟨its,rv,ht,hz⟩:=I.list hq;refine zev (I.ok.hd hc) ht.isList (by simp [hn,<- hl,rv.length]) hst λh' hx=>?_;have I1:Inv X pins σ H { s with heap:=h' }:=I.kept (t':=s.toks) λb o e=>hx b o (YAw (YAn e)) e;exact h pins _ σ H xs _ Q I1 (by simpa using rv) hw
theorem zra {K:PySem.W.Frag} {n:Nat} {t:TGs} (h:zfQ t):zet (gSeq K n t):=λv σ H Q Q' f ⟨a,xs,e,s,l,q⟩=>⟨a,xs,e,s,l,h _ _ _ _ _ f q⟩
theorem zp2 {K:PySem.W.Frag} {sub:List (Option Nat)} {n:Nat} {t:TGs} (h:zgd sub t):zeP sub (gSeq K n t):=λv σ H Q ⟨a,xs,e,s,l,q⟩=>⟨a,xs,e,s,l,h _ _ _ _ q⟩
section
variable {P:Program} {w:World} {A:Around} {E:Value->Shared->Prop} {s:Shared} {z a b i j:Addr} {f g:List Addr} {n m k:Nat} {F1 F2:Nat->Value->Prop} {S1 S2:Nat->Heap->Prop}
theorem zha  (Z:ZAp z a b i j f g) (D1:Draws P w A i f n F1 S1) (D2:Draws P w A j g m F2 S2) (hz:IsZip s.heap z a b .none) (ha:IsPair s.heap a (.ref i) (.ref j)) (hb:IsPair s.heap b u v)
  (s1:S1 m s.heap) (s2:S2 m s.heap) (k1:m < n)
  (q:∀ h' tk e,(∀ c o,c ≠ z->c ≠ b->c ≠ i->c ≠ j->s.heap.get? c = some o->h'.get? c = some o)->(∃ o,h'.get? e = some o/\o.cls = .type "StopIteration")->E (.ref e) { s with heap:=h',toks:=tk }) :
  wpAny (model P w) A (Builtin.«zip.__next__» ⟨[.ref z],[]⟩) Q E s:=by
 show wpAny _ _ (field (.ref z) 2 >>= _) _ _ _;refine YAa (YA5 hz rfl (x:=.bool false) rfl ?_);show wpAny _ _ (field (.ref z) 3 >>= _) _ _ _;refine YAa (YA5 hz rfl (x:=.ref a) rfl (YAa (YBs ha rfl ?_)));show wpAny _ _ (Builtin.SmallTypes.ownedTupleIsFree (.ref z) >>= _) _ _ _;refine YAa ?_;unfold Builtin.SmallTypes.ownedTupleIsFree;refine YAa (YA5 hz rfl (x:=.none) rfl (YAf ?_));simp only [if_true];refine YAa (YBH (YAa (YA5 hz rfl (x:=.ref b) rfl (YAa (YAO hz (by simp) λh1 z1 e1=>?_)))))
 replace z1:IsZip h1 z a b .ellipsis:=z1
 refine YAa ?_;simp only [List.zipIdx_cons,List.zipIdx_nil,List.forIn_cons,List.forIn_nil];refine YAa (YAa (wpAny_onRaise ?_));show wpAny _ _ (Builtin.SmallTypes.nextOf (.ref i) >>= _) _ _ _;have t1:S1 m h1:=D1.frame _ _ _ s1 (zbD e1 Z.zf);have t2:S2 m h1:=D2.frame _ _ _ s2 (zbD e1 Z.zg);refine YAa (D1.item m _ _ _ k1 t1 λx h2 tk2 px u1 e2=>YAf ?_);have b2:IsPair h2 b u v:=e2.extBut _ _ Z.bi (e1.extBut _ _ Z.bz hb);refine YAa (YBs b2 rfl (YAa (wpAny_updateSeq_pair b2 λh3 b3 e3=>?_)))
 replace b3:IsPair h3 b x v:=b3
 refine YAa (wpAny_letGo (YAf ?_));refine YAa (YAa (wpAny_onRaise ?_));show wpAny _ _ (Builtin.SmallTypes.nextOf (.ref j) >>= _) _ _ _;have t3:S2 m h3:=D2.frame _ _ _ (D2.frame _ _ _ t2 (zbD e2 Z.ig)) (zbD e3 Z.bg);refine YAa (D2.done _ _ _ t3 λh4 e e4 he=>?_);obtain ⟨oe,ho,hc⟩:=he;have z3:IsZip h3 z a b .ellipsis:=e3.extBut _ _ Z.bz.symm (e2.extBut _ _ Z.iz.symm z1);have z4:IsZip h4 z a b .ellipsis:=e4 _ _ Z.jz.symm z3;have ez:e ≠ z:=λx=>by subst x;rw [z4] at ho;cases ho;simp at hc
 refine YAO z4 (by simp) λh5 _ e5=>q h5 tk2 e (λc o c1 c2 c3 c4 x=>e5.extBut _ _ c1 (e4 _ _ c4 (e3.extBut _ _ c2 (e2.extBut _ _ c3 (e1.extBut _ _ c1 x))))) ⟨oe,e5.extBut _ _ ez ho,hc⟩
theorem zeS  (Z:ZAp z a b i j f g) (D1:Draws P w A.in1 i f n F1 S1) (D2:Draws P w A.in1 j g m F2 S2) (hz:IsZip s.heap z a b .none) (ha:IsPair s.heap a (.ref i) (.ref j)) (hb:IsPair s.heap b u v) (s1:S1 m s.heap) (s2:S2 m s.heap) (k1:m < n)
  (q:∀ h' tk,(∀ c o,c ≠ z->c ≠ b->c ≠ i->c ≠ j->s.heap.get? c = some o->h'.get? c = some o)->Q none { s with heap:=h',toks:=tk }):wpAny (model P w) A (pyNext (.ref z)) Q E s:=by
 have hT:s.TypeIs (.ref z) "zip" := ⟨_,hz,rfl⟩;unfold pyNext;refine YAa (wpAny_attempt (YAY (name:=Str.ofString "__next__") hT F.slot_zip_next (YAV F.slot_zip_next hT F.entry_zip_next (zha Z D1 D2 hz ha hb s1 s2 k1 λh' tk e hk he=>?_) (F.args_zip_next_1 _))));obtain ⟨o,ho,hc⟩:=he;exact YAa (wpAny_isInstance (T := "StopIteration") (b:=true) ⟨o,ho,hc⟩ isSubtype_stop (YAf (q _ _ hk)))
end
def Itz2 (tp:Bool) (K:PySem.W.Frag) (a b:Addr):It:=
 ⟨(Itz tp K a b).go,(Itz tp K a b).yld,λi H=>∃ xs ys,SQ tp K H a xs/\SQ tp K H b ys/\i = min xs.length ys.length⟩
theorem zll {P:Program} {w:World} {K:PySem.W.Frag} {es:List Expr} {x1:_} {pos:Pos} {tp:Bool} {z c d i j a b:Addr} (Z:ZAp z c d i j [i,a] [j,b]) (na:a ≠ i) (nb:b ≠ j) :
  Turn P w K (.Tuple es x1 pos) (Itz2 tp K a b) [z,c,d,i,j] z (ZTn tp z c d i j a b) where
 mem:=(zdi (tp:=tp) (P:=P) (w:=w) (K:=K) (es:=es) (x1:=x1) (pos:=pos) Z na nb).mem
 obj:=(zdi (tp:=tp) (P:=P) (w:=w) (K:=K) (es:=es) (x1:=x1) (pos:=pos) Z na nb).obj
 keep:=(zdi (tp:=tp) (P:=P) (w:=w) (K:=K) (es:=es) (x1:=x1) (pos:=pos) Z na nb).keep
 item:=(zdi (tp:=tp) (P:=P) (w:=w) (K:=K) (es:=es) (x1:=x1) (pos:=pos) Z na nb).item
 done:=by
  intro X hP hw hK hc k pins s σ H E I hf st hg;obtain ⟨xs,ys,qa,qb,hx⟩:=hg;by_cases hle:xs.length <= ys.length
  ·exact (zdi (tp:=tp) (P:=P) (w:=w) (K:=K) (es:=es) (x1:=x1) (pos:=pos) Z na nb).done X hP hw hK hc k pins s σ H E I hf st ⟨xs,qa,by omega⟩
  ·subst hP hw hK;obtain ⟨ia,ra,ca,za⟩:=I.sq qa;obtain ⟨ib,rb,cb,zb⟩:=I.sq qb;obtain ⟨h1,h2,⟨u,v,h3⟩,h4,h5⟩:=st;have hh:X.A.in1.handled = none:=I.ok.hd hc;have l1:=ra.length;have l2:=rb.length;have hk:k = ib.toArray.size:=by simp;omega
   subst hk;refine zeS Z (zij tp hh i a na ia.toArray) (zij tp hh j b nb ib.toArray) h1 h2 h3 ⟨h4,ca⟩ ⟨h5,cb⟩ (by simp;omega) λh' tk kk=>⟨rfl,?_⟩;exact I.turnedAll (t':=tk) (ch:=[z,c,d,i,j]) (λb u hb e=>by
    simp only [YAk,YAN,YBG,not_or] at hb;exact kk b u hb.1 hb.2.2.1 hb.2.2.2.1 hb.2.2.2.2 e) hf
 self:=(zdi (tp:=tp) (P:=P) (w:=w) (K:=K) (es:=es) (x1:=x1) (pos:=pos) Z na nb).self
def zrp (K:PySem.W.Frag) (ta:TA):TI:=λσ H R=>ta σ H λvs H1=>∃ (tp:Bool) (a b:Addr) (xs ys:List V),vs = [.ref a,.ref b]/\SQ tp K H1 a xs/\SQ tp K H1 b ys/\R (Itz2 tp K a b) H1
theorem zpN    (hg:Gl X "zip") (hm:X.mg "zip" = none) (ha:PA X [a,b] ta) (hs:starEach [a,b] X.env = [(false,eval a X.env),(false,eval b X.env)]:=by rfl) (hs2:starEach [b] X.env = [(false,eval b X.env)]:=by rfl) :
  PI X (.Tuple es x1 tpos) (.Call (.Name "zip" p) [a,b] [] pos) (zrp X.K ta):=by
 intro pins s σ H R I h;refine Call_ (zfm I hg hm boot_zip (PyProof.Rows.callWith_type1 (thn (ha pos pins s σ H _ I h) λus s1 ⟨vs,H1,I1,r1,q1⟩=>?_) (by rw [hs,hs2]) (by rw [hs2];rfl)));obtain ⟨tp,l,m,xs,ys,e,q1,q2,q⟩:=q1;subst e;obtain ⟨u,v,rfl,ru,rv⟩:=znb r1;cases ru;cases rv;obtain ⟨ia,ra,ca,za⟩:=I1.sq q1;obtain ⟨ib,rb,cb,zb⟩:=I1.sq q2;have lt1:=ca.lt;have lt2:=cb.lt;refine zlw ca cb λh' zt kk=>?_;refine wpAny_pyIter_zip zt.1 ?_;have I2:Inv X pins σ H1 { s1 with heap:=h' }:=I1.kept (t':=s1.toks) kk;refine ⟨_,[s1.heap.objs.size + 4,s1.heap.objs.size + 2,s1.heap.objs.size + 3,s1.heap.objs.size,s1.heap.objs.size + 1],_,_,H1,rfl,I2,zll (zqp _ _ _ lt1 lt2) (YAw lt1) (YAw (YBb lt2)),zt,λc hc=>?_,q⟩;have hle:s1.heap.objs.size <= c:=by
  simp only [YAk,YAN,YBG] at hc;rcases hc with rfl | rfl | rfl | rfl | rfl
  ·exact YBA _ _
  ·exact YBA _ _
  ·exact YBA _ _
  ·exact YAm _
  ·exact YBA _ _
 exact I1.fpOk hle (I1.hok.fresh hle)
section
variable {X:Cx}
def zqS (K:PySem.W.Frag):R2:=λx y H Q=>∃ a b xs ys,x = .ref a/\y = .ref b/\SqT K H a xs/\SqT K H b ys/\xs.length + ys.length <= sizeLine /\
 (xs = []->Q (.ref b) H)/\(xs ≠ []->ys = []->Q (.ref a) H)/\(∀ p,H p = none->Q (.ref p) (upd H p (.tup (xs ++ ys))))
theorem zpK:OpR X (binaryOp .Add) (zqS X.K):=by
 intro pins s σ H x y v u Q I rx ry h;obtain ⟨a,b,xs,ys,rfl,rfl,ha,hb,hz,q1,q2,q3⟩:=h;by_cases hx:xs = []
 ·subst hx;cases rx;cases ry;obtain ⟨its,r1,p1,_⟩:=I.tuple ha;obtain ⟨its2,r2,p2,_⟩:=I.tuple hb;obtain ⟨⟨cls,dd,data,sl⟩,ho,hc,n,hd⟩:=id p1;obtain ⟨⟨cls2,dd2,data2,sl2⟩,ho2,hc2,n2,hd2⟩:=id p2;simp only at hc hd hc2 hd2;subst hc hd hc2 hd2;have hi:its = []:=r1.nil_iff.mpr rfl;exact concat_meets ⟨_,ho,rfl⟩ ⟨_,ho2,rfl⟩ noFill_tuple_add seq_tuple_add PySem.F.slot_tuple_add PySem.F.entry_tuple_add (PySem.F.args_tuple_add_2 _ _)
   (tuple_addW0 a b its.toArray its2.toArray n n2 dd dd2 sl sl2 (by simp [hi])) ⟨ho,ho2,⟨.ref b,H,I,rfl,q1 rfl⟩⟩
 ·exact zlz pins s σ H (.ref a) (.ref b) v u Q I rx ry ⟨a,b,xs,ys,rfl,rfl,ha,hb,hx,hz,q2 hx,λ_ p hp=>q3 p hp⟩
def rSl3 (K:PySem.W.Frag):V->Option Int->Option Int->Hp->VK->Prop:=λx lo hi H Q=>∃ a xs,x = .ref a/\SqT K H a xs/\(cutV xs lo hi = xs->Q (.ref a) H)/\∀ p,H p = none->Q (.ref p) (upd H p (.tup (cutV xs lo hi)))
theorem zpf:SlR X (rSl3 X.K):=by
 intro pins s σ H x v vl vu lo hi sl Q I rx hs pl pu h;obtain ⟨a,xs,rfl,hx,q1,q2⟩:=h;by_cases hw:HT.sIx xs.length 0 lo = 0/\HT.sIx xs.length xs.length hi = xs.length
 ·cases rx;obtain ⟨its,r,ht,hz⟩:=I.tuple hx;have hlen:its.toArray.size = xs.length:=by rw [YAq];exact r.length.symm
  refine ⟨"tuple",_,YAJ.lookup,ht.typeIs,?_⟩;refine HT.getItem_tuple_whole ht hs pl pu (by rw [hlen];exact hw) ?_;refine ⟨.ref a,H,I,rfl,q1 ?_⟩;unfold cutV;rw [hw.1,hw.2];simp
 ·exact zoA pins s σ H (.ref a) v vl vu lo hi sl Q I rx hs pl pu ⟨a,xs,rfl,hx,hw,q2⟩
def iSeq (K:PySem.W.Frag) (tl:TE):TI:=λσ H R=>tl σ H λx H1=>∃ a,x = .ref a/\(((∃ xs,SqL K H1 a xs)/\R (Itl K a) H1)\/((∃ xs,SqT K H1 a xs)/\R (Itt K a) H1))
theorem zqq  (hl:PE X l tl):PI X tg l (iSeq X.K tl):=by
 intro pins s σ H R I h;refine thn (hl pins s σ H _ I h) λv s1 ⟨x,H1,I1,r1,q1⟩=>?_;obtain ⟨a,e,q1⟩:=q1;subst e;cases r1;rcases q1 with ⟨⟨xs,hq⟩,q⟩ | ⟨⟨xs,hq⟩,q⟩
 ·obtain ⟨its,rv,p,hz⟩:=I1.list hq;refine YBO p.isList ?_;refine ⟨s1.heap.objs.size,[s1.heap.objs.size],_,_,H1,rfl,I1.kept (t':=s1.toks) λb o e=>YAc _ e,zhD a _,⟨_,YAp _ rfl,rfl,rfl⟩,λb hb=>?_,q⟩;have e:b = s1.heap.objs.size:=by simpa using hb
  subst e;exact I1.fpOk (YAm _) (I1.hok.fresh (YAm _))
 ·obtain ⟨its,rv,p,hz⟩:=I1.tuple hq;refine wpAny_pyIter_tuple (show s1.heap.IsTuple a its.toArray from p) ?_;refine ⟨s1.heap.objs.size,[s1.heap.objs.size],_,_,H1,rfl,I1.kept (t':=s1.toks) λb o e=>YAc _ e,zkv a _,⟨_,YAp _ rfl,rfl,rfl⟩,λb hb=>?_,q⟩;have e:b = s1.heap.objs.size:=by simpa using hb
  subst e;exact I1.fpOk (YAm _) (I1.hok.fresh (YAm _))
end
end L2
namespace Fd
open PySem L2
inductive D where
 | non | bl (b:Bool) | int (i:Int) | str (x:Str) | tup (xs:List D) | lst (n:Bool) (xs:List D) | box
structure Bk where
 K:PySem.W.Frag
 β:Addr
 H0:Hp
 G0:Hp
mutual
def Rep (c:Bk) (G:Hp):D->V->Prop
 | .non,v=>v = .non
 | .bl b,v=>v = .bl b
 | .int i,v=>v = .int i
 | .str x,v=>v = .str x
 | .tup xs,v=>∃ a vs,v = .ref a/\SqT c.K G a vs/\Reps c G xs vs
 | .lst n xs,v=>∃ a vs,v = .ref a/\G a = some (.lst vs)/\(n = true->c.H0 a = none)/\Reps c G xs vs
 | .box,v=>v = .ref c.β
def Reps (c:Bk) (G:Hp):List D->List V->Prop
 | [],vs=>vs = []
 | x :: xs,vs=>∃ v ws,vs = v :: ws/\Rep c G x v/\Reps c G xs ws
end
theorem zaM   (e:Same H H') (h:SqT K H a xs):SqT K H' a xs:=by
 rcases h with h | h
 ·rcases h with h | ⟨o,h⟩
  ·exact .inl (.inl (e _ _ h))
  ·exact .inl (.inr ⟨o,e _ _ h⟩)
 ·exact .inr h
mutual
theorem Rep.mono  (e:Same G G'):∀ {d:D} {v:V},Rep c G d v->Rep c G' d v
 | .non,_,h=>h
 | .bl _,_,h=>h
 | .int _,_,h=>h
 | .str _,_,h=>h
 | .box,_,h=>h
 | .tup xs,_,⟨a,vs,h1,h2,h3⟩=>⟨a,vs,h1,zaM e h2,Reps.mono e h3⟩
 | .lst n xs,_,⟨a,vs,h1,h2,h4,h3⟩=>⟨a,vs,h1,e _ _ h2,h4,Reps.mono e h3⟩
theorem Reps.mono  (e:Same G G'):∀ {ds:List D} {vs:List V},Reps c G ds vs->Reps c G' ds vs
 | [],_,h=>h
 | _ :: _,_,⟨v,ws,h1,h2,h3⟩=>⟨v,ws,h1,Rep.mono e h2,Reps.mono e h3⟩
end
def D.old:D->D
 | .non=>.non
 | .bl b=>.bl b
 | .int i=>.int i
 | .str x=>.str x
 | .box=>.box
 | .tup xs=>.tup (xs.map D.old)
 | .lst _ xs=>.lst false (xs.map D.old)
mutual
/-- handed on to another call -/
theorem Rep.hand  (hk:c.K = c'.K) (hb:c.β = c'.β):∀ {d:D} {v:V},Rep c G d v->Rep c' G d.old v
 | .non,_,h=>by unfold D.old;exact h
 | .bl _,_,h=>by unfold D.old;exact h
 | .int _,_,h=>by unfold D.old;exact h
 | .str _,_,h=>by unfold D.old;exact h
 | .box,_,h=>by unfold D.old;show _ = V.ref c'.β;rw [<- hb];exact h
 | .tup xs,_,⟨a,vs,h1,h2,h3⟩=>by unfold D.old;exact ⟨a,vs,h1,hk ▸ h2,Reps.hand hk hb h3⟩
 | .lst n xs,_,⟨a,vs,h1,h2,h4,h3⟩=>by unfold D.old;exact ⟨a,vs,h1,h2,(λz=>by cases z),Reps.hand hk hb h3⟩
theorem Reps.hand  (hk:c.K = c'.K) (hb:c.β = c'.β):∀ {ds:List D} {vs:List V},Reps c G ds vs->Reps c' G (ds.map D.old) vs
 | [],_,h=>h
 | _ :: _,_,⟨v,ws,h1,h2,h3⟩=>⟨v,ws,h1,Rep.hand hk hb h2,Reps.hand hk hb h3⟩
end
mutual
/-- and back: what is newer than the inner call is newer than the outer one -/
theorem Rep.back  (hk:c'.K = c.K) (hb:c'.β = c.β) (hn:∀ a,c'.H0 a = none->c.H0 a = none):∀ {d:D} {v:V},Rep c' G d v->Rep c G d v
 | .non,_,h=>h
 | .bl _,_,h=>h
 | .int _,_,h=>h
 | .str _,_,h=>h
 | .box,_,h=>by show _ = V.ref c.β;rw [<- hb];exact h
 | .tup xs,_,⟨a,vs,h1,h2,h3⟩=>⟨a,vs,h1,hk ▸ h2,Reps.back hk hb hn h3⟩
 | .lst n xs,_,⟨a,vs,h1,h2,h4,h3⟩=>⟨a,vs,h1,h2,λz=>hn a (h4 z),Reps.back hk hb hn h3⟩
theorem Reps.back  (hk:c'.K = c.K) (hb:c'.β = c.β) (hn:∀ a,c'.H0 a = none->c.H0 a = none):∀ {ds:List D} {vs:List V},Reps c' G ds vs->Reps c G ds vs
 | [],_,h=>h
 | _ :: _,_,⟨v,ws,h1,h2,h3⟩=>⟨v,ws,h1,Rep.back hk hb hn h2,Reps.back hk hb hn h3⟩
end
theorem Reps.length  : ∀ {ds:List D} {vs:List V},Reps c G ds vs->ds.length = vs.length
 | [],_,h=>by cases h;rfl
 | _ :: _,_,⟨v,ws,h1,_,h3⟩=>by subst h1;simp [Reps.length h3]
theorem Reps.get  : ∀ {ds:List D} {vs:List V} {i:Nat} {d:D},Reps c G ds vs->ds[i]? = some d->∃ v,vs[i]? = some v/\Rep c G d v
 | [],_,_,_,_,e=>by simp at e
 | _ :: _,_,0,_,⟨v,ws,h1,h2,_⟩,e=>by subst h1;simp at e;subst e;exact ⟨v,rfl,h2⟩
 | _ :: _,_,i + 1,d,⟨v,ws,h1,_,h3⟩,e=>by subst h1;exact Reps.get (i:=i) h3 (by simpa using e)
theorem Reps.append  : ∀ {ds es:List D} {vs ws:List V},Reps c G ds vs->Reps c G es ws->Reps c G (ds ++ es) (vs ++ ws)
 | [],_,_,_,h,k=>by cases h;exact k
 | _ :: _,_,_,_,⟨v,us,h1,h2,h3⟩,k=>by subst h1;exact ⟨v,us ++ _,rfl,h2,Reps.append h3 k⟩
theorem Reps.one   (h:Rep c G d v):Reps c G [d] [v]:=⟨v,[],rfl,h,rfl⟩
theorem Reps.set   (h:Rep c G d v):∀ {ds:List D} {vs:List V} (i:Nat),Reps c G ds vs->Reps c G (ds.set i d) (vs.set i v)
 | [],_,_,k=>by cases k;rfl
 | _ :: _,_,0,⟨u,us,h1,h2,h3⟩=>by subst h1;exact ⟨v,us,rfl,h,h3⟩
 | _ :: _,_,i + 1,⟨u,us,h1,h2,h3⟩=>by subst h1;exact ⟨u,us.set i v,rfl,h2,Reps.set h i h3⟩
theorem Reps.take  : ∀ {ds:List D} {vs:List V} (i:Nat),Reps c G ds vs->Reps c G (ds.take i) (vs.take i)
 | [],_,_,k=>by cases k;simp [Reps]
 | _ :: _,_,0,_=>by simp [Reps]
 | _ :: _,_,i + 1,⟨u,us,h1,h2,h3⟩=>by subst h1;exact ⟨u,us.take i,rfl,h2,Reps.take i h3⟩
theorem Reps.drop  : ∀ {ds:List D} {vs:List V} (i:Nat),Reps c G ds vs->Reps c G (ds.drop i) (vs.drop i)
 | [],_,_,k=>by cases k;simp [Reps]
 | _ :: _,_,0,k=>k
 | _ :: _,_,i + 1,⟨u,us,h1,h2,h3⟩=>by subst h1;exact Reps.drop i h3
theorem reps_ints  : ∀ {ns:List Int} {vs:List V},Reps c G (ns.map D.int) vs ↔ vs = ns.map V.int
 | [],_=>Iff.rfl
 | n :: ns,vs=>by
  constructor
  ·rintro ⟨v,ws,h1,h2,h3⟩;rw [h1,reps_ints.mp h3]
   have:v = V.int n:=h2
   rw [this];rfl
  ·rintro rfl;exact ⟨V.int n,ns.map V.int,rfl,rfl,reps_ints.mpr rfl⟩
theorem reps_bools  : ∀ {ns:List Bool} {vs:List V},Reps c G (ns.map D.bl) vs ↔ vs = ns.map V.bl
 | [],_=>Iff.rfl
 | n :: ns,vs=>by
  constructor
  ·rintro ⟨v,ws,h1,h2,h3⟩;rw [h1,reps_bools.mp h3]
   have:v = V.bl n:=h2
   rw [this];rfl
  ·rintro rfl;exact ⟨V.bl n,ns.map V.bl,rfl,rfl,reps_bools.mpr rfl⟩
def boxO (cc:Addr) (p r d:Int):HO:=.lst [.ref cc,.int p,.int r,.int d]
structure BoxD (β:Addr) (H G:Hp):Prop where
 ex:∃ cc p r d,∃ ns:List Int,H β = some (boxO cc p r d)/\0 <= p/\0 <= r/\0 <= d/\d < 2147483629/\G cc = some (.lst (ns.map V.int))/\ns.length <= 63
 still:G β = none
theorem BoxD.at  (b:BoxD β H G):∃ o,H β = some o:=by
 obtain ⟨cc,p,r,d,ns,h,_⟩:=b.ex;exact ⟨_,h⟩
def zoo:HO->Prop
 | .tup _=>True
 | .frz _ _=>True
 | _=>False
structure Stp (β:Addr) (H G H' G':Hp):Prop where
 gg:Same G G'
 gh:Same G' H'
 fr:∀ a o,a ≠ β->H a = some o->H' a = some o
 nw:∀ a,G' a ≠ none->G a ≠ none\/H a = none\/∃ o,H a = some o/\zoo o
 bx:BoxD β H' G'
 b0:H β ≠ none
theorem Stp.refl  (gh:Same G H) (b:BoxD β H G):Stp β H G H G:=
 ⟨Same.refl _,gh,λ_ _ _ e=>e,λ_ e=>.inl e,b,λz=>by obtain ⟨o,h⟩:=b.at;rw [z] at h;cases h⟩
theorem Stp.free  (s:Stp β H G H' G') (h:H' a = none):H a = none:=by
 cases e:H a with
 | none=>rfl
 | some o=>
  by_cases z:a = β
  ·obtain ⟨o',h'⟩:=s.bx.at;rw [z,h'] at h;cases h
  ·rw [s.fr a o z e] at h;cases h
theorem Stp.trans  (s:Stp β H G H1 G1) (t:Stp β H1 G1 H2 G2):Stp β H G H2 G2:=
 ⟨s.gg.trans t.gg,t.gh,λa o n e=>t.fr a o n (s.fr a o n e),λa e=>(t.nw a e).elim (s.nw a) λz=>z.elim (λz=>.inr (.inl (s.free z))) λ⟨o,ho,st⟩=>by
  cases e:H a with
  | none=>exact .inr (.inl rfl)
  | some o'=>
   have nb:a ≠ β:=λz=>by
    obtain ⟨cc,p,r,d,ns,h,_⟩:=s.bx.ex;rw [z,h] at ho;cases ho;exact st
   have:=s.fr a o' nb e
   rw [ho] at this;cases this;exact .inr (.inr ⟨o,rfl,st⟩),t.bx,s.b0⟩
theorem BoxD.new  (b:BoxD β H G)  (hl:H l = none):BoxD β (upd H l o) G:=by
 obtain ⟨cc,p,r,d,ns,h,q⟩:=b.ex;exact ⟨⟨cc,p,r,d,ns,by rw [zaf (zae h hl)];exact h,q⟩,b.still⟩
theorem znA (gh:Same G H)  (hl:H l = none):Same G (upd H l o):=λa u e=>by
 rw [zaf (zae (gh a u e) hl)];exact gh a u e
theorem Stp.own  (gh:Same G H) (b:BoxD β H G)  (hl:H l = none):Stp β H G (upd H l o) G:=
 ⟨Same.refl _,znA gh hl,λa u _ e=>by rw [zaf (zae e hl)];exact e,λ_ e=>.inl e,b.new hl,λz=>by obtain ⟨o,h⟩:=b.at;rw [z] at h;cases h⟩
theorem zap (gh:Same G H) (hl:H l = none):G l = none:=gh.free hl
theorem Stp.still  (s:Stp β H G H' G')  (h':H' l = some o) (h0:H l = none) (hb:l ≠ β) (hg:G' l = none):Stp β H G H' (upd G' l o):=
 ⟨s.gg.trans λa u e=>by rw [zaf (zae e hg)];exact e,
 λa u e=>by
  by_cases z:a = l
  ·subst z;rw [zad] at e;rw [h'];exact e
  ·rw [zaf z] at e;exact s.gh a u e,
 s.fr,λa e=>by
  by_cases z:a = l
  ·subst z;exact .inr (.inl h0)
  ·rw [zaf z] at e;exact s.nw a e,
 ⟨by
   obtain ⟨cc,p,r,d,ns,h,p1,p2,p3,p4,hc,q⟩:=s.bx.ex;exact ⟨cc,p,r,d,ns,h,p1,p2,p3,p4,by rw [zaf (zae hc hg)];exact hc,q⟩,by rw [zaf (Ne.symm hb)];exact s.bx.still⟩,s.b0⟩
theorem Stp.new  (gh:Same G H) (b:BoxD β H G)  (hl:H l = none):Stp β H G (upd H l o) (upd G l o):=by
 have hb:l ≠ β:=λz=>by obtain ⟨o,h⟩:=b.at;rw [<- z,hl] at h;cases h
 exact (Stp.own gh b hl).still zad hl hb (zap gh hl)
theorem zbX  (hg:G l = none):Same G (upd G l o):=λa u e=>by rw [zaf (zae e hg)];exact e
inductive Sl where
 | un | val (d:D) | own (xs:List D)
abbrev Env:=List Sl
def SlOk (c:Bk) (H G:Hp):Sl->Option (Option V)->Prop
 | .un,_=>True
 | .val d,o=>∃ v,o = some (some v)/\Rep c G d v
 | .own xs,o=>∃ a vs,o = some (some (.ref a))/\H a = some (.lst vs)/\G a = none/\c.H0 a = none/\a ≠ c.β/\Reps c G xs vs
structure Rel (c:Bk) (ρ:Env) (σ:St) (H G:Hp):Prop where
 len:ρ.length = σ.length
 stp:Stp c.β c.H0 c.G0 H G
 slot:∀ (i:Nat) s,ρ[i]? = some s->SlOk c H G s σ[i]?
 dis:∀ (i j:Nat) a xs ys,ρ[i]? = some (.own xs)->ρ[j]? = some (.own ys)->σ[i]? = some (some (.ref a))->σ[j]? = some (some (.ref a))->i = j
theorem Rel.gh   (r:Rel c ρ σ H G):Same G H:=r.stp.gh
theorem Rel.bx   (r:Rel c ρ σ H G):BoxD c.β H G:=r.stp.bx
theorem Rel.refl   (r:Rel c ρ σ H G):Stp c.β H G H G:=Stp.refl r.gh r.bx
theorem SlOk.step  (t:Stp c.β H G H' G'):∀ {s:Sl} {o:Option (Option V)},SlOk c H G s o->SlOk c H' G' s o
 | .un,_,_=>trivial
 | .val d,_,⟨v,h1,h2⟩=>⟨v,h1,h2.mono t.gg⟩
 | .own xs,_,⟨a,vs,h1,h2,h3,h4,h5,h6⟩=>⟨a,vs,h1,t.fr a _ h5 h2,(by
   cases e:G' a with
   | none=>rfl
   | some o=>
    rcases t.nw a (by rw [e];simp) with z | z | ⟨o',z,st⟩
    ·exact absurd h3 z
    ·rw [h2] at z;cases z
    ·rw [h2] at z;cases z;exact st.elim),h4,h5,h6.mono t.gg⟩
theorem Rel.step   (r:Rel c ρ σ H G) (t:Stp c.β H G H' G'):Rel c ρ σ H' G':=
 ⟨r.len,r.stp.trans t,λi s e=>(r.slot i s e).step t,r.dis⟩
theorem Rel.put    (r:Rel c ρ σ H G) (h:Rep c G d v):Rel c (ρ.set i (.val d)) (σ.set i (some v)) H G:=by
 refine ⟨by simp [r.len],r.stp,λj s e=>?_,λj k a xs ys e1 e2 e3 e4=>?_⟩
 ·by_cases z:i = j
  ·subst z;have hi:i < ρ.length:=by have:=(YAi.mp e).1;simpa using this
   rw [YAI hi] at e;cases e;exact ⟨v,by rw [YAI (by rw [<- r.len];exact hi)],h⟩
  ·rw [YAG z] at e ⊢;exact r.slot j s e
 ·have nj:i ≠ j:=λz=>by
   subst z;have hi:i < ρ.length:=by have:=(YAi.mp e1).1;simpa using this
   rw [YAI hi] at e1;cases e1
  have nk:i ≠ k:=λz=>by
   subst z;have hi:i < ρ.length:=by have:=(YAi.mp e2).1;simpa using this
   rw [YAI hi] at e2;cases e2
  rw [YAG nj] at e1 e3;rw [YAG nk] at e2 e4;exact r.dis j k a xs ys e1 e2 e3 e4
theorem Rel.putOwn     (r:Rel c ρ σ H G) (hl:H l = some (.lst vs)) (hg:G l = none) (h0:c.H0 l = none) (hb:l ≠ c.β) (h:Reps c G xs vs)
  (hn:∀ (j:Nat) ys,ρ[j]? = some (.own ys)->σ[j]? ≠ some (some (.ref l))):Rel c (ρ.set i (.own xs)) (σ.set i (some (.ref l))) H G:=by
 refine ⟨by simp [r.len],r.stp,λj s e=>?_,λj k a xs' ys e1 e2 e3 e4=>?_⟩
 ·by_cases z:i = j
  ·subst z;have hi:i < ρ.length:=by have:=(YAi.mp e).1;simpa using this
   rw [YAI hi] at e;cases e;exact ⟨l,vs,by rw [YAI (by rw [<- r.len];exact hi)],hl,hg,h0,hb,h⟩
  ·rw [YAG z] at e ⊢;exact r.slot j s e
 ·by_cases zj:i = j
  ·by_cases zk:i = k
   ·exact zj.symm.trans zk
   ·subst zj;have hi:i < ρ.length:=by have:=(YAi.mp e1).1;simpa using this
    rw [YAI (by rw [<- r.len];exact hi)] at e3;cases e3;rw [YAG zk] at e2 e4;exact absurd e4 (hn k ys e2)
  ·by_cases zk:i = k
   ·subst zk;have hi:i < ρ.length:=by have:=(YAi.mp e2).1;simpa using this
    rw [YAI (by rw [<- r.len];exact hi)] at e4;cases e4;rw [YAG zj] at e1 e3;exact absurd e3 (hn j xs' e1)
   ·rw [YAG zj] at e1 e3;rw [YAG zk] at e2 e4;exact r.dis j k a xs' ys e1 e2 e3 e4
theorem Rel.write     (r:Rel c ρ σ H G) (hi:ρ[i]? = some (.own xs)) (hs:σ[i]? = some (some (.ref l))) (h:Reps c G ys ws) :
  Rel c (ρ.set i (.own ys)) σ (upd H l (.lst ws)) G:=by
 obtain ⟨a,vs,h1,h2,h3,h4,h5,h6⟩:=r.slot i _ hi;rw [hs] at h1;cases h1;have hil:i < ρ.length:=(YAi.mp hi).1;refine ⟨by simp [r.len],⟨r.stp.gg,λb u e=>?_,λb u n e=>?_,r.stp.nw,?_,r.stp.b0⟩,λj s e=>?_,λj k b xs' ys' e1 e2 e3 e4=>?_⟩
 ·rw [zaf (λz=>by rw [z,h3] at e;cases e)];exact r.gh b u e
 ·rw [zaf (λz=>by rw [z,h4] at e;cases e)];exact r.stp.fr b u n e
 ·obtain ⟨cc,p,q,d,ns,e,z⟩:=r.bx.ex;exact ⟨⟨cc,p,q,d,ns,by rw [zaf (Ne.symm h5)];exact e,z⟩,r.bx.still⟩
 ·by_cases z:i = j
  ·subst z;rw [YAI hil] at e;cases e;exact ⟨l,ws,hs,zad,h3,h4,h5,h⟩
  ·rw [YAG z] at e;have q:=r.slot j s e;cases s with
   | un=>trivial
   | val d=>exact q
   | own zs=>
    obtain ⟨b,us,g1,g2,g3⟩:=q;have nb:b ≠ l:=λy=>z (r.dis i j l xs zs hi e hs (by rw [g1,y]));exact ⟨b,us,g1,by rw [zaf nb];exact g2,g3⟩
 ·have f:∀ (m:Nat) zs,(ρ.set i (.own ys))[m]? = some (.own zs)->∃ zs',ρ[m]? = some (.own zs'):=λm zs e=>by
   by_cases z:i = m
   ·exact ⟨xs,z ▸ hi⟩
   ·rw [YAG z] at e;exact ⟨zs,e⟩
  obtain ⟨_,f1⟩:=f j _ e1;obtain ⟨_,f2⟩:=f k _ e2;exact r.dis j k b _ _ f1 f2 e3 e4
theorem Rel.freeze    (r:Rel c ρ σ H G) (hi:ρ[i]? = some (.own xs)):∃ G',Same G G'/\Rel c (ρ.set i (.val (.lst true xs))) σ H G':=by
 obtain ⟨a,vs,h1,h2,h3,h4,h5,h6⟩:=r.slot i _ hi;have hil:i < ρ.length:=(YAi.mp hi).1;have sg:Same G (upd G a (.lst vs)):=zbX h3;refine ⟨upd G a (.lst vs),sg,by simp [r.len],r.stp.still h2 h4 h5 h3,λj s e=>?_,λj k b xs' ys' e1 e2 e3 e4=>?_⟩
 ·by_cases z:i = j
  ·subst z;rw [YAI hil] at e;cases e;exact ⟨.ref a,h1,a,vs,rfl,zad,λ_=>h4,h6.mono sg⟩
  ·rw [YAG z] at e;have q:=r.slot j s e;cases s with
   | un=>trivial
   | val d=>obtain ⟨v,g1,g2⟩:=q;exact ⟨v,g1,g2.mono sg⟩
   | own zs=>
    obtain ⟨b,us,g1,g2,g3,g4,g5,g6⟩:=q;have nb:b ≠ a:=λy=>z (r.dis i j a xs zs hi e h1 (by rw [g1,y]));exact ⟨b,us,g1,g2,by rw [zaf nb];exact g3,g4,g5,g6.mono sg⟩
 ·have f:∀ (m:Nat) zs,(ρ.set i (.val (.lst true xs)))[m]? = some (.own zs)->ρ[m]? = some (.own zs):=λm zs e=>by
   by_cases z:i = m
   ·subst z;rw [YAI hil] at e;cases e
   ·rw [YAG z] at e;exact e
  exact r.dis j k b _ _ (f j _ e1) (f k _ e2) e3 e4
abbrev WE:=Env->(D->Prop)->Prop
abbrev WL:=Env->(List D->Prop)->Prop
abbrev WT:=Env->(Bool->Prop)->Prop
def za9 (W:WE):Prop:=∀ ρ Q Q',(∀ d,Q d->Q' d)->W ρ Q->W ρ Q'
def zcS (W:WL):Prop:=∀ ρ Q Q',(∀ d,Q d->Q' d)->W ρ Q->W ρ Q'
def zdC (W:WT):Prop:=∀ ρ Q Q',(∀ d,Q d->Q' d)->W ρ Q->W ρ Q'
def tD (c:Bk) (W:WE):TE:=λσ H Q=>∃ ρ G,Rel c ρ σ H G/\W ρ λd=>∀ v H' G',Stp c.β H G H' G'->Rep c G' d v->Q v H'
def tDs (c:Bk) (W:WL):TA:=λσ H Q=>∃ ρ G,Rel c ρ σ H G/\W ρ λds=>∀ vs H' G',Stp c.β H G H' G'->Reps c G' ds vs->Q vs H'
def tDf (c:Bk) (W:WL):TE:=λσ H Q=>∃ ρ G,Rel c ρ σ H G/\W ρ λds=>∀ l vs H' G',Stp c.β H G H' G'->H' l = some (.lst vs)->G' l = none->H l = none->Reps c G' ds vs->Q (.ref l) H'
def tDt (c:Bk) (W:WT):TT:=λσ H Q=>∃ ρ G,Rel c ρ σ H G/\W ρ λb=>∀ H' G',Stp c.β H G H' G'->Q b H'
structure DE (X:Cx) (c:Bk) (e:Expr) (W:WE):Prop where
 mono:za9 W
 pe:PE X e (tD c W)
structure DF (X:Cx) (c:Bk) (e:Expr) (W:WL):Prop where
 mono:zcS W
 pe:PE X e (tDf c W)
structure DA (X:Cx) (c:Bk) (es:List Expr) (W:WL):Prop where
 mono:zcS W
 pa:PA X es (tDs c W)
structure DT (X:Cx) (c:Bk) (e:Expr) (W:WT):Prop where
 mono:zdC W
 pt:PT X e (tDt c W)
section
variable {X:Cx}
theorem zaR  (h:PE X e t) (k:∀ σ H Q,t' σ H Q->t σ H Q):PE X e t':=λpins s σ H Q I q=>h pins s σ H Q I (k σ H Q q)
theorem zfH  (h:PT X e t) (k:∀ σ H Q,t' σ H Q->t σ H Q):PT X e t':=λpins s σ H Q I q=>h pins s σ H Q I (k σ H Q q)
theorem zor  (h:PA X e t) (k:∀ σ H Q,t' σ H Q->t σ H Q):PA X e t':=λpos pins s σ H Q I q=>h pos pins s σ H Q I (k σ H Q q)
theorem Rel.new0   (r:Rel c ρ σ H G) (h:H l = none):c.H0 l = none:=r.stp.free h
theorem Rel.neβ   (r:Rel c ρ σ H G) (h:H l = none):l ≠ c.β:=λz=>by
 obtain ⟨o,e⟩:=r.bx.at;rw [<- z,h] at e;cases e
@[reducible] def valW (W:WL):WE:=λρ Q=>W ρ λxs=>Q (.lst true xs)
theorem DF.de  (h:DF X c e W):DE X c e (valW W) where
 mono:=λρ Q Q' k q=>h.mono ρ _ _ (λxs z=>k _ z) q
 pe:=zaR h.pe λσ H Q ⟨ρ,G,r,q⟩=>⟨ρ,G,r,h.mono ρ _ _ (λxs z l vs H' G' t hl hg h0 hv=>
  z (.ref l) H' (upd G' l (.lst vs)) (t.still hl h0 (r.neβ h0) hg) ⟨l,vs,rfl,zad,λ_=>r.new0 h0,hv.mono (zbX hg)⟩) q⟩
def vW (i:Nat):WE:=λρ Q=>match ρ[i]? with | some (.val d)=>Q d | _=>False
@[reducible] def kW (d:D):WE:=λ_ Q=>Q d
theorem dv (i:Nat)  (hN:X.N[i]? = some x:=by rfl) (hv:Vis X.env.scope x:=by first | exact Or.inl rfl | exact Or.inr (Or.inl rfl) | exact Or.inr (Or.inr rfl))
  (hd:(x == ("__debug__" : Str)) = false:=by decide) (hcd:(x == ("__classdict__" : Str)) = false:=by decide):DE X c (.Name x pos) (vW i) where
 mono:=λρ Q Q' k q=>by
  unfold vW at q ⊢;split at q
  ·exact k _ q
  ·exact q.elim
 pe:=zaR (zdV hN hv hd hcd) λσ H Q ⟨ρ,G,r,q⟩=>by
  unfold vW at q;split at q
  ·rename_i d e
   obtain ⟨v,h1,h2⟩:=r.slot i _ e;exact ⟨v,h1,q v H G r.refl h2⟩
  ·exact q.elim
theorem zoi (d:D):za9 (kW d):=λ_ _ _ k q=>k _ q
theorem zaj   : DE X c (.Constant (.int i) j pos) (kW (.int i)):=⟨zoi _,zaR zaI λσ H Q ⟨ρ,G,r,q⟩=>q _ H G r.refl rfl⟩
theorem zb8   : DE X c (.Constant (.bool i) j pos) (kW (.bl i)):=⟨zoi _,zaR zse λσ H Q ⟨ρ,G,r,q⟩=>q _ H G r.refl rfl⟩
theorem zd6  : DE X c (.Constant .none j pos) (kW .non):=⟨zoi _,zaR zj0 λσ H Q ⟨ρ,G,r,q⟩=>q _ H G r.refl rfl⟩
theorem zcY   : DE X c (.Constant (.str i) j pos) (kW (.str i)):=⟨zoi _,zaR zqZ λσ H Q ⟨ρ,G,r,q⟩=>q _ H G r.refl rfl⟩
abbrev F2:=D->D->(D->Prop)->Prop
def zbu (f:F2):Prop:=∀ x y Q Q',(∀ d,Q d->Q' d)->f x y Q->f x y Q'
@[reducible] def binW (f:F2) (A B:WE):WE:=λρ Q=>A ρ λx=>B ρ λy=>f x y Q
def OpD (c:Bk) (f:F2) (r:R2):Prop:=∀ (H G:Hp) (x y:D) (u v:V) (Q:VK),Same G H->BoxD c.β H G->(∀ a,H a = none->c.H0 a = none)->Rep c G x u->Rep c G y v ->
 f x y (λd=>∀ v H' G',Stp c.β H G H' G'->Rep c G' d v->Q v H')->r u v H Q
theorem ze1   (fm:zbu f) (mA:za9 A) (mB:za9 B) (hr:OpD c f r) (σ:St) (H:Hp) (Q:VK) (h:tD c (binW f A B) σ H Q):tOp r (tD c A) (tD c B) σ H Q:=by
 obtain ⟨ρ,G,R,q⟩:=h;refine ⟨ρ,G,R,mA ρ _ _ (λx q1 u H1 G1 t1 e1=>⟨ρ,G1,R.step t1,mB ρ _ _ (λy q2 v H2 G2 t2 e2=>?_) q1⟩) q⟩;refine hr H2 G2 x y u v Q t2.gh t2.bx (λa z=>R.new0 (t1.free (t2.free z))) (e1.mono t2.gg) e2 (fm x y _ _ (λd z w H3 G3 t3 e3=>z w H3 G3 ((t1.trans t2).trans t3) e3) q2)
theorem zdL  (fm:zbu f) (mA:za9 A) (mB:za9 B):za9 (binW f A B):=λρ Q Q' k q=>mA ρ _ _ (λx q1=>mB ρ _ _ (λy q2=>fm x y _ _ k q2) q1) q
theorem zme    (fm:zbu f) (ho:OpR X (binaryOp op) r) (hr:OpD c f r) (hA:DE X c a A) (hB:DE X c b B):DE X c (.BinOp a op b pos) (binW f A B):=
 ⟨zdL fm hA.mono hB.mono,zaR (zbR ho hA.pe hB.pe) λσ H Q h=>ze1 fm hA.mono hB.mono hr σ H Q h⟩
theorem zoj    (fm:zbu f) (ho:OpR X (compareOp op) r) (hr:OpD c f r) (hA:DE X c a A) (hB:DE X c b B) (hm:behindInMarks op b = false):DE X c (.Compare a [op] [b] pos) (binW f A B):=
 ⟨zdL fm hA.mono hB.mono,zaR (zlU ho hA.pe hB.pe hm) λσ H Q h=>ze1 fm hA.mono hB.mono hr σ H Q h⟩
def blW (A:WE):WT:=λρ Q=>A ρ λd=>match d with | .bl b=>Q b | _=>False
theorem zfv (m:za9 A):zdC (blW A):=λρ Q Q' k q=>m ρ _ _ (λd z=>by
 cases d <;> first | exact k _ z | exact z) q
theorem zjd  (m:za9 A) (σ:St) (H:Hp) (Q:Bool->Hp->Prop) (h:tDt c (blW A) σ H Q):znE (tD c A) σ H Q:=by
 obtain ⟨ρ,G,R,q⟩:=h;refine ⟨ρ,G,R,m ρ _ _ (λd z v H1 G1 t e=>?_) q⟩;cases d with
 | bl b=>exact ⟨b,e,z H1 G1 t⟩
 | _=>exact z.elim
theorem zfa    (fm:zbu f) (ho:OpR X (compareOp op) r) (hr:OpD c f r) (hA:DE X c a A) (hB:DE X c b B) (hm:behindInMarks op b = false):DT X c (.Compare a [op] [b] pos) (blW (binW f A B)):=
 ⟨zfv (zdL fm hA.mono hB.mono),zfH (zcI ho hA.pe hB.pe hm) λσ H Q h=>by
  obtain ⟨ρ,G,R,q⟩:=zjd (zdL fm hA.mono hB.mono) σ H Q h;exact ze1 fm hA.mono hB.mono hr σ H _ ⟨ρ,G,R,q⟩⟩
def addD:F2
 | .int i,.int j,Q=>Q (.int (i + j))
 | .str a,.str b,Q=>a.length + b.length <= 100000/\Q (.str (a ++ b))
 | .lst _ xs,.lst _ ys,Q=>xs.length + ys.length <= 100000/\Q (.lst true (xs ++ ys))
 | .tup xs,.tup ys,Q=>xs.length + ys.length <= 100000/\Q (.tup (xs ++ ys))
 | _,_,_=>False
def subD:F2
 | .int i,.int j,Q=>Q (.int (i - j))
 | _,_,_=>False
def mulD:F2
 | .int i,.int j,Q=>CMul i j/\Q (.int (i * j))
 | .lst _ xs,.int k,Q=>(0 <= k/\k <= 1000/\xs.length <= 1000)/\Q (.lst true (List.replicate k.toNat xs).flatten)
 | _,_,_=>False
def modD:F2
 | .int i,.int j,Q=>0 < j/\Q (.int (i % j))
 | _,_,_=>False
def powD:F2
 | .int i,.int j,Q=>CPow i j/\Q (.int (i ^ j.toNat))
 | _,_,_=>False
theorem small5 (h:n <= 100000):n <= sizeLine:=YAK h (by rw [YAR];decide)
theorem zrs:zbu addD:=λx y Q Q' k q=>by
 cases x <;> cases y <;> first | exact k _ q | exact ⟨q.1,k _ q.2⟩ | exact q
theorem zr6:zbu subD:=λx y Q Q' k q=>by
 cases x <;> cases y <;> first | exact k _ q | exact q
theorem zr5:zbu mulD:=λx y Q Q' k q=>by
 cases x <;> cases y <;> first | exact ⟨q.1,k _ q.2⟩ | exact q
theorem zr3:zbu modD:=λx y Q Q' k q=>by
 cases x <;> cases y <;> first | exact ⟨q.1,k _ q.2⟩ | exact q
theorem zrK:zbu powD:=λx y Q Q' k q=>by
 cases x <;> cases y <;> first | exact ⟨q.1,k _ q.2⟩ | exact q
def zq1 (K:PySem.W.Frag):R2:=λx y H Q=>(rI0 (λi j=>.int (i + j)) x y H Q\/(∃ i j,x = .str i/\y = .str j/\i.length + j.length <= sizeLine/\Q (.str (i ++ j)) H))\/(rCat x y H Q\/zqS K x y H Q)
theorem zo9 {c:Bk} (hK:c.K = X.K):OpR X (binaryOp .Add) (zq1 c.K):=by rw [hK];exact (op_add.or zk0).or (op_cat.or zpK)
theorem zqV:OpD c addD (zq1 c.K):=by
 intro H G x y u v Q gh bx h0 rx ry q;cases x with
 | int i=>cases y with
  | int j=>cases rx;cases ry;exact .inl (.inl ⟨i,j,rfl,rfl,q _ H G (Stp.refl gh bx) rfl⟩)
  | _=>exact q.elim
 | str i=>cases y with
  | str j=>cases rx;cases ry;exact .inl (.inr ⟨i,j,rfl,rfl,small5 q.1,q.2 _ H G (Stp.refl gh bx) rfl⟩)
  | _=>exact q.elim
 | lst n xs=>cases y with
  | lst m ys=>
   obtain ⟨a,vs,rfl,ha,_,rv⟩:=rx;obtain ⟨b,ws,rfl,hb,_,rw'⟩:=ry;refine .inr (.inl ⟨a,b,vs,ws,rfl,rfl,gh _ _ ha,gh _ _ hb,?_,λp hp=>?_⟩)
   ·rw [<- rv.length,<- rw'.length];exact small5 q.1
   ·have hg:=zap gh hp;exact q.2 (.ref p) _ _ (Stp.new gh bx hp) ⟨p,vs ++ ws,rfl,zad,λ_=>h0 p hp,(rv.append rw').mono (zbX hg)⟩
  | _=>exact q.elim
 | tup xs=>cases y with
  | tup ys=>
   obtain ⟨a,vs,rfl,ha,rv⟩:=rx;obtain ⟨b,ws,rfl,hb,rw'⟩:=ry;refine .inr (.inr ⟨a,b,vs,ws,rfl,rfl,zaM gh ha,zaM gh hb,?_,λe=>?_,λ_ e=>?_,λp hp=>?_⟩)
   ·rw [<- rv.length,<- rw'.length];exact small5 q.1
   ·subst e
    have:xs = []:=by have:=rv.length;simpa using this
    subst this;exact q.2 (.ref b) H G (Stp.refl gh bx) ⟨b,ws,rfl,hb,rw'⟩
   ·subst e
    have:ys = []:=by have:=rw'.length;simpa using this
    subst this;exact q.2 (.ref a) H G (Stp.refl gh bx) ⟨a,vs,rfl,ha,by simpa using rv⟩
   ·have hg:=zap gh hp;exact q.2 (.ref p) _ _ (Stp.new gh bx hp) ⟨p,vs ++ ws,rfl,SqT.of zad,(rv.append rw').mono (zbX hg)⟩
  | _=>exact q.elim
 | _=>exact q.elim
theorem zcj   (hA:DE X c a A) (hB:DE X c b B) (hK:c.K = X.K:=by rfl):DE X c (.BinOp a .Add b pos) (binW addD A B):=zme zrs (zo9 hK) zqV hA hB
theorem zre:OpD c subD (rI0 λi j=>.int (i - j)):=by
 intro H G x y u v Q gh bx h0 rx ry q;cases x with
 | int i=>cases y with
  | int j=>cases rx;cases ry;exact ⟨i,j,rfl,rfl,q _ H G (Stp.refl gh bx) rfl⟩
  | _=>exact q.elim
 | _=>exact q.elim
theorem zhp   (hA:DE X c a A) (hB:DE X c b B):DE X c (.BinOp a .Sub b pos) (binW subD A B):=zme zr6 zmM zre hA hB
def zrL:R2:=λx y H Q=>rI CMul (λi j=>.int (i * j)) x y H Q\/rRep x y H Q
theorem zqo:OpD c mulD zrL:=by
 intro H G x y u v Q gh bx h0 rx ry q;cases x with
 | int i=>cases y with
  | int j=>cases rx;cases ry;exact .inl ⟨i,j,rfl,rfl,q.1,q.2 _ H G (Stp.refl gh bx) rfl⟩
  | _=>exact q.elim
 | lst n xs=>cases y with
  | int k=>
   obtain ⟨a,vs,rfl,ha,_,rv⟩:=rx;cases ry;obtain ⟨⟨k0,k1,hz⟩,q⟩:=q;refine .inr ⟨a,k,vs,rfl,rfl,gh _ _ ha,by omega,by omega,?_,λp hp=>?_⟩
   ·rw [<- rv.length,YAR];have h1:k.toNat <= 1000:=by omega
    have:=Nat.mul_le_mul hz h1
    omega
   ·have hg:=zap gh hp
    have:∀ m:Nat,Reps c G (List.replicate m xs).flatten (List.replicate m vs).flatten:=λm=>by
     induction m with
     | zero=>rfl
     | succ m ih=>rw [YAS,YAS,YBk,YBk];exact rv.append ih
    exact q (.ref p) _ _ (Stp.new gh bx hp) ⟨p,_,rfl,zad,λ_=>h0 p hp,(this _).mono (zbX hg)⟩
  | _=>exact q.elim
 | _=>exact q.elim
theorem zna   (hA:DE X c a A) (hB:DE X c b B):DE X c (.BinOp a .Mult b pos) (binW mulD A B):=zme zr5 (op_mul.or zms) zqo hA hB
theorem zqk:OpD c modD (rI (λ_ j=>0 < j) λi j=>.int (i % j)):=by
 intro H G x y u v Q gh bx h0 rx ry q;cases x with
 | int i=>cases y with
  | int j=>cases rx;cases ry;exact ⟨i,j,rfl,rfl,q.1,q.2 _ H G (Stp.refl gh bx) rfl⟩
  | _=>exact q.elim
 | _=>exact q.elim
theorem zqU   (hA:DE X c a A) (hB:DE X c b B):DE X c (.BinOp a .Mod b pos) (binW modD A B):=zme zr3 zgx zqk hA hB
theorem zqF:OpD c powD (rI CPow λi j=>.int (i ^ j.toNat)):=by
 intro H G x y u v Q gh bx h0 rx ry q;cases x with
 | int i=>cases y with
  | int j=>cases rx;cases ry;exact ⟨i,j,rfl,rfl,q.1,q.2 _ H G (Stp.refl gh bx) rfl⟩
  | _=>exact q.elim
 | _=>exact q.elim
theorem zrE   (hA:DE X c a A) (hB:DE X c b B):DE X c (.BinOp a .Pow b pos) (binW powD A B):=zme zrK zlT zqF hA hB
def negD:D->(D->Prop)->Prop
 | .int i,Q=>Q (.int (-i))
 | _,_=>False
@[reducible] def unW (f:D->(D->Prop)->Prop) (A:WE):WE:=λρ Q=>A ρ λx=>f x Q
theorem znT   (hA:DE X c a A):DE X c (.UnaryOp .USub a pos) (unW negD A) where
 mono:=λρ Q Q' k q=>hA.mono ρ _ _ (λx z=>by cases x <;> first | exact k _ z | exact z) q
 pe:=zaR (zpu zlI hA.pe) λσ H Q ⟨ρ,G,r,q⟩=>⟨ρ,G,r,hA.mono ρ _ _ (λx z v H' G' t e=>by
  cases x with
  | int i=>exact ⟨i,e,z _ H' G' t rfl⟩
  | _=>exact z.elim) q⟩
def cmpD (p:Int->Int->Bool):F2
 | .int i,.int j,Q=>Q (.bl (p i j))
 | _,_,_=>False
theorem zf2 (p:Int->Int->Bool):zbu (cmpD p):=λx y Q Q' k q=>by
 cases x <;> cases y <;> first | exact k _ q | exact q
theorem zgf (p:Int->Int->Bool):OpD c (cmpD p) (rI0 λi j=>.bl (p i j)):=by
 intro H G x y u v Q gh bx h0 rx ry q;cases x with
 | int i=>cases y with
  | int j=>cases rx;cases ry;exact ⟨i,j,rfl,rfl,q _ H G (Stp.refl gh bx) rfl⟩
  | _=>exact q.elim
 | _=>exact q.elim
@[reducible] def ltD:F2:=cmpD λi j=>decide (i < j)
@[reducible] def leD:F2:=cmpD λi j=>decide (i <= j)
@[reducible] def gtD:F2:=cmpD λi j=>decide (j < i)
@[reducible] def geD:F2:=cmpD λi j=>decide (j <= i)
theorem d_gt   (hA:DE X c a A) (hB:DE X c b B):DE X c (.Compare a [.Gt] [b] pos) (binW gtD A B):=zoj (zf2 _) zpQ (zgf _) hA hB (zb0 _)
theorem t_lt   (hA:DE X c a A) (hB:DE X c b B):DT X c (.Compare a [.Lt] [b] pos) (blW (binW ltD A B)):=zfa (zf2 _) znt (zgf _) hA hB (zb0 _)
theorem t_gt   (hA:DE X c a A) (hB:DE X c b B):DT X c (.Compare a [.Gt] [b] pos) (blW (binW gtD A B)):=zfa (zf2 _) zpQ (zgf _) hA hB (zb0 _)
theorem t_ge   (hA:DE X c a A) (hB:DE X c b B):DT X c (.Compare a [.GtE] [b] pos) (blW (binW geD A B)):=zfa (zf2 _) zp7 (zgf _) hA hB (zb0 _)
def isN:D->Bool
 | .non=>true
 | _=>false
@[reducible] def isNW (A:WE):WE:=λρ Q=>A ρ λx=>Q (.bl (isN x))
@[reducible] def zky (A:WE):WE:=λρ Q=>A ρ λx=>Q (.bl (!isN x))
theorem zji   (h:Rep c G d v):decide (v = V.non) = isN d:=by
 cases d with
 | non=>have:v = V.non:=h;subst this;rfl
 | bl b=>have:v = V.bl b:=h;subst this;rfl
 | int b=>have:v = V.int b:=h;subst this;rfl
 | str b=>have:v = V.str b:=h;subst this;rfl
 | box=>have:v = V.ref c.β:=h;subst this;rfl
 | tup xs=>obtain ⟨a,vs,rfl,_⟩:=h;rfl
 | lst n xs=>obtain ⟨a,vs,rfl,_⟩:=h;rfl
theorem zkg (m:za9 A):za9 (isNW A):=λρ Q Q' k q=>m ρ _ _ (λx z=>k _ z) q
theorem zm5 (m:za9 A):za9 (zky A):=λρ Q Q' k q=>m ρ _ _ (λx z=>k _ z) q
theorem zn1   (hA:DE X c a A):DE X c (.Compare a [.Is] [.Constant .none j pos'] pos) (isNW A):=
 ⟨zkg hA.mono,zaR (zqj (zoq hA.pe)) λσ H Q ⟨ρ,G,r,q⟩=>⟨ρ,G,r,hA.mono ρ _ _ (λx z v H' G' t e=>by show Q (V.bl (decide (v = V.non))) H';rw [zji e];exact z _ H' G' t rfl) q⟩⟩
theorem zkN   (hA:DE X c a A):DT X c (.Compare a [.Is] [.Constant .none j pos'] pos) (blW (isNW A)):=
 ⟨zfv (zkg hA.mono),zfH (ziA (zoq hA.pe)) λσ H Q ⟨ρ,G,r,q⟩=>⟨ρ,G,r,hA.mono ρ _ _ (λx z v H' G' t e=>⟨_,rfl,by rw [zji e];exact z H' G' t⟩) q⟩⟩
theorem zkd   (hA:DE X c a A):DT X c (.Compare a [.IsNot] [.Constant .none j pos'] pos) (blW (zky A)):=
 ⟨zfv (zm5 hA.mono),zfH (ziA (zpa hA.pe)) λσ H Q ⟨ρ,G,r,q⟩=>⟨ρ,G,r,hA.mono ρ _ _ (λx z v H' G' t e=>⟨_,rfl,by rw [zji e];exact z H' G' t⟩) q⟩⟩
end
mutual
def toPy:D->PyData
 | .non=>.none
 | .bl b=>.bool b
 | .int i=>.int i
 | .str x=>.str x
 | .box=>.none
 | .tup xs=>.tuple (zbN xs)
 | .lst _ xs=>.list (zbN xs)
def zbN:List D->List PyData
 | []=>[]
 | x :: xs=>toPy x :: zbN xs
end
mutual
def layD:D->Bool
 | .non=>true
 | .bl _=>true
 | .int _=>true
 | .str x=>PyData.canLay0 (.str x)
 | .box=>false
 | .tup xs=>zcr xs
 | .lst _ xs=>zcr xs
def zcr:List D->Bool
 | []=>true
 | x :: xs=>layD x && zcr xs
end
mutual
theorem zcJ:∀ d:D,layD d = true->(toPy d).canLay0 = true
 | .non,_=>by unfold toPy PyData.canLay0;rfl
 | .bl _,_=>by unfold toPy PyData.canLay0;rfl
 | .int _,_=>by unfold toPy PyData.canLay0;rfl
 | .str _,h=>by unfold toPy;unfold layD at h;exact h
 | .tup xs,h=>by unfold toPy PyData.canLay0;unfold layD at h;exact zcL xs h
 | .lst _ xs,h=>by unfold toPy PyData.canLay0;unfold layD at h;exact zcL xs h
theorem zcL:∀ ds:List D,zcr ds = true->PyData.canLayAll0 (zbN ds) = true
 | [],_=>by unfold zbN PyData.canLayAll0;rfl
 | x :: xs,h=>by
  unfold zbN PyData.canLayAll0;unfold zcr at h
  have:=(YAL _ _ ▸ h:layD x = true/\zcr xs = true)
  rw [zcJ x this.1,zcL xs this.2];rfl
end
section
variable {X:Cx}
mutual
theorem Rep.reads   (hK:c.K = X.K) (I:Inv X pins σ H s) (gh:Same G H):∀ (d:D) {v:V} {u:Value},Rep c G d v->RelV v u->layD d = true->∃ as,Reads s.heap u (toPy d) as
 | .non,v,u,h,r,_=>by have:v = V.non:=h;subst this;cases r;exact ⟨_,.none⟩
 | .bl b,v,u,h,r,_=>by have:v = V.bl b:=h;subst this;cases r;exact ⟨_,.bool b⟩
 | .int i,v,u,h,r,_=>by have:v = V.int i:=h;subst this;obtain ⟨t,rfl⟩:=r;exact ⟨_,.int i t⟩
 | .str i,v,u,h,r,_=>by have:v = V.str i:=h;subst this;obtain ⟨t,rfl⟩:=r;exact ⟨_,.str i t⟩
 | .box,v,u,h,r,l=>by cases l
 | .tup xs,v,u,⟨a,vs,h1,h2,h3⟩,r,l=>by
  subst h1;cases r;obtain ⟨its,rv,p,_⟩:=I.tuple (hK ▸ zaM gh h2);obtain ⟨as,q⟩:=Reps.reads hK I gh xs h3 rv l;obtain ⟨o,ho,hc,n,hd⟩:=p;unfold toPy;exact ⟨_,.tuple ho hc hd (by simpa using q)⟩
 | .lst _ xs,v,u,⟨a,vs,h1,h2,_,h3⟩,r,l=>by
  subst h1;cases r;obtain ⟨_,its,n,rv,ho⟩:=I.hok a _ (gh _ _ h2);obtain ⟨as,q⟩:=Reps.reads hK I gh xs h3 rv l;unfold toPy;exact ⟨_,.list ho rfl rfl (by simpa using q)⟩
theorem Reps.reads   (hK:c.K = X.K) (I:Inv X pins σ H s) (gh:Same G H):∀ (ds:List D) {vs:List V} {us:List Value},Reps c G ds vs->Vals vs us->zcr ds = true->∃ as,ReadsAll s.heap us (zbN ds) as
 | [],vs,us,h,r,_=>by have:vs = []:=h;subst this;cases r;exact ⟨_,.nil⟩
 | x :: xs,vs,us,⟨v,ws,h1,h2,h3⟩,r,l=>by
  subst h1;cases r with
  | cons r1 r2=>
   unfold zcr at l;have l':=(YAL _ _ ▸ l:layD x = true/\zcr xs = true);obtain ⟨as,q1⟩:=Rep.reads hK I gh x h2 r1 l'.1;obtain ⟨bs,q2⟩:=Reps.reads hK I gh xs h3 r2 l'.2;exact ⟨_,.cons q1 q2⟩
end
def eqB (x y:D):Bool:=PyData.eqv (toPy x) (toPy y)
def eqOk (x y:D):Prop:=layD x = true/\layD y = true/\min (toPy x).depth (toPy y).depth <= 50
@[reducible] def eqD:F2:=λx y Q=>eqOk x y/\Q (.bl (eqB x y))
@[reducible] def neD:F2:=λx y Q=>eqOk x y/\Q (.bl (!eqB x y))
def rEqD (c:Bk) (neg:Bool):R2:=λu v H Q=>∃ G x y,Same G H/\Rep c G x u/\Rep c G y v/\eqOk x y/\Q (.bl (if neg then !eqB x y else eqB x y)) H
theorem zoI (hK:c.K = X.K) (hu:X.A.units + 64 < cLine):OpR X (compareOp .Eq) (rEqD c false):=by
 intro pins s σ H u v a b Q I ra rb ⟨G,x,y,gh,hx,hy,⟨lx,ly,ld⟩,q⟩;obtain ⟨as,qa⟩:=hx.reads hK I gh x ra lx;obtain ⟨bs,qb⟩:=hy.reads hK I gh y rb ly;exact SeqAt.compareEq_reads qa qb (zcJ x lx) (zcJ y ly) (by omega) ⟨.bl _,H,I,rfl,q⟩
theorem zoK (hK:c.K = X.K) (hu:X.A.units + 64 < cLine):OpR X (compareOp .NotEq) (rEqD c true):=by
 intro pins s σ H u v a b Q I ra rb ⟨G,x,y,gh,hx,hy,⟨lx,ly,ld⟩,q⟩;obtain ⟨as,qa⟩:=hx.reads hK I gh x ra lx;obtain ⟨bs,qb⟩:=hy.reads hK I gh y rb ly;exact SeqAt.compareNe_reads qa qb (zcJ x lx) (zcJ y ly) (by omega) ⟨.bl _,H,I,rfl,q⟩
theorem m_eq:zbu eqD:=λx y Q Q' k q=>⟨q.1,k _ q.2⟩
theorem m_ne:zbu neD:=λx y Q Q' k q=>⟨q.1,k _ q.2⟩
theorem zrl:OpD c eqD (rEqD c false):=λH G x y u v Q gh bx h0 rx ry q=>⟨G,x,y,gh,rx,ry,q.1,q.2 _ H G (Stp.refl gh bx) rfl⟩
theorem zri:OpD c neD (rEqD c true):=λH G x y u v Q gh bx h0 rx ry q=>⟨G,x,y,gh,rx,ry,q.1,q.2 _ H G (Stp.refl gh bx) rfl⟩
def inOk (x:D) (ys:List D):Prop:=layD x = true/\zcr ys = true/\min (PyData.depthAll (zbN ys)) (toPy x).depth <= 50
def inB (x:D) (ys:List D):Bool:=(zbN ys).any λy=>PyData.eqv y (toPy x)
def inD (neg:Bool):F2
 | x,.lst _ ys,Q=>inOk x ys/\Q (.bl (if neg then !inB x ys else inB x ys))
 | x,.tup ys,Q=>inOk x ys/\Q (.bl (if neg then !inB x ys else inB x ys))
 | _,_,_=>False
def rInD (c:Bk) (neg:Bool):R2:=λu v H Q=>∃ G x y,Same G H/\Rep c G x u/\Rep c G y v/\inD neg x y λd=>∃ b,d = .bl b/\Q (.bl b) H
theorem zoE (hK:c.K = X.K) (hu:X.A.units + 64 < cLine):OpR X (compareOp .In) (rInD c false):=by
 intro pins s σ H u v a b Q I ra rb ⟨G,x,y,gh,hx,hy,q⟩;cases y with
 | lst n ys=>
  obtain ⟨⟨lx,ly,ld⟩,_,e,q⟩:=q;cases e;obtain ⟨as,qa⟩:=hx.reads hK I gh x ra lx;obtain ⟨bs,qb⟩:=hy.reads hK I gh (.lst n ys) rb (by unfold layD;exact ly);unfold toPy at qb;exact SeqAt.in_list_reads qb qa (zcL ys ly) (zcJ x lx) (by omega) ⟨.bl _,H,I,rfl,q⟩
 | tup ys=>
  obtain ⟨⟨lx,ly,ld⟩,_,e,q⟩:=q;cases e;obtain ⟨as,qa⟩:=hx.reads hK I gh x ra lx;obtain ⟨bs,qb⟩:=hy.reads hK I gh (.tup ys) rb (by unfold layD;exact ly);unfold toPy at qb;exact SeqAt.in_tuple_reads qb qa (zcL ys ly) (zcJ x lx) (by omega) ⟨.bl _,H,I,rfl,q⟩
 | _=>exact q.elim
theorem zlo (hK:c.K = X.K) (hu:X.A.units + 64 < cLine):OpR X (compareOp .NotIn) (rInD c true):=by
 intro pins s σ H u v a b Q I ra rb ⟨G,x,y,gh,hx,hy,q⟩;cases y with
 | lst n ys=>
  obtain ⟨⟨lx,ly,ld⟩,_,e,q⟩:=q;cases e;obtain ⟨as,qa⟩:=hx.reads hK I gh x ra lx;obtain ⟨bs,qb⟩:=hy.reads hK I gh (.lst n ys) rb (by unfold layD;exact ly);unfold toPy at qb;exact SeqAt.notIn_list_reads qb qa (zcL ys ly) (zcJ x lx) (by omega) ⟨.bl _,H,I,rfl,q⟩
 | tup ys=>
  obtain ⟨⟨lx,ly,ld⟩,_,e,q⟩:=q;cases e;obtain ⟨as,qa⟩:=hx.reads hK I gh x ra lx;obtain ⟨bs,qb⟩:=hy.reads hK I gh (.tup ys) rb (by unfold layD;exact ly);unfold toPy at qb;exact SeqAt.notIn_tuple_reads qb qa (zcL ys ly) (zcJ x lx) (by omega) ⟨.bl _,H,I,rfl,q⟩
 | _=>exact q.elim
theorem m_in (neg:Bool):zbu (inD neg):=λx y Q Q' k q=>by
 cases y <;> first | exact ⟨q.1,k _ q.2⟩ | exact q
theorem zpt (neg:Bool):OpD c (inD neg) (rInD c neg):=λH G x y u v Q gh bx h0 rx ry q=>⟨G,x,y,gh,rx,ry,by
 cases y with
 | lst n ys=>exact ⟨q.1,_,rfl,q.2 _ H G (Stp.refl gh bx) rfl⟩
 | tup ys=>exact ⟨q.1,_,rfl,q.2 _ H G (Stp.refl gh bx) rfl⟩
 | _=>exact q.elim⟩
section
variable {c:Bk} {a b:Expr} {A B:WE} {pos:Pos}
theorem d_eq (hA:DE X c a A) (hB:DE X c b B) (hK:c.K = X.K:=by rfl) (hu:X.A.units + 64 < cLine:=by decreasing_trivial):DE X c (.Compare a [.Eq] [b] pos) (binW eqD A B):=zoj m_eq (zoI hK hu) zrl hA hB (zb0 _)
theorem d_ne (hA:DE X c a A) (hB:DE X c b B) (hK:c.K = X.K:=by rfl) (hu:X.A.units + 64 < cLine:=by decreasing_trivial):DE X c (.Compare a [.NotEq] [b] pos) (binW neD A B):=zoj m_ne (zoK hK hu) zri hA hB (zb0 _)
theorem t_eq (hA:DE X c a A) (hB:DE X c b B) (hK:c.K = X.K:=by rfl) (hu:X.A.units + 64 < cLine:=by decreasing_trivial):DT X c (.Compare a [.Eq] [b] pos) (blW (binW eqD A B)):=zfa m_eq (zoI hK hu) zrl hA hB (zb0 _)
theorem t_ne (hA:DE X c a A) (hB:DE X c b B) (hK:c.K = X.K:=by rfl) (hu:X.A.units + 64 < cLine:=by decreasing_trivial):DT X c (.Compare a [.NotEq] [b] pos) (blW (binW neD A B)):=zfa m_ne (zoK hK hu) zri hA hB (zb0 _)
theorem d_in (hA:DE X c a A) (hB:DE X c b B) (hm:behindInMarks .In b = false:=by with_unfolding_all rfl) (hK:c.K = X.K:=by rfl) (hu:X.A.units + 64 < cLine:=by decreasing_trivial):DE X c (.Compare a [.In] [b] pos) (binW (inD false) A B):=zoj (m_in _) (zoE hK hu) (zpt _) hA hB hm
theorem t_in (hA:DE X c a A) (hB:DE X c b B) (hm:behindInMarks .In b = false:=by with_unfolding_all rfl) (hK:c.K = X.K:=by rfl) (hu:X.A.units + 64 < cLine:=by decreasing_trivial):DT X c (.Compare a [.In] [b] pos) (blW (binW (inD false) A B)):=zfa (m_in _) (zoE hK hu) (zpt _) hA hB hm
theorem zht (hA:DE X c a A) (hB:DE X c b B) (hm:behindInMarks .NotIn b = false:=by with_unfolding_all rfl) (hK:c.K = X.K:=by rfl) (hu:X.A.units + 64 < cLine:=by decreasing_trivial):DT X c (.Compare a [.NotIn] [b] pos) (blW (binW (inD true) A B)):=zfa (m_in _) (zlo hK hu) (zpt _) hA hB hm
def truB:D->Option Bool
 | .non=>some false
 | .bl b=>some b
 | .int i=>some (i != 0)
 | .lst _ xs=>some (!xs.isEmpty)
 | .tup xs=>some (!xs.isEmpty)
 | _=>none
def truD (d:D) (Q:Bool->Prop):Prop:=match truB d with | some b=>Q b | none=>False
@[reducible] def truW (A:WE):WT:=λρ Q=>A ρ λd=>truD d Q
theorem zpG   (gh:Same G H) (h:Rep c G d v) (e:truB d = some k):TruV c.K v H k:=by
 cases d with
 | non=>cases h;cases e;rfl
 | bl b=>cases h;cases e;rfl
 | int i=>cases h;cases e;rfl
 | lst n xs=>
  obtain ⟨a,vs,rfl,h1,_,h2⟩:=h;cases e;refine .inl ⟨vs,.inl (.inl (gh _ _ h1)),?_⟩
  have:=h2.length
  cases xs <;> cases vs <;> first | rfl | simp at this
 | tup xs=>
  obtain ⟨a,vs,rfl,h1,h2⟩:=h;cases e;refine .inr (.inl ⟨vs,zaM gh h1,?_⟩)
  have:=h2.length
  cases xs <;> cases vs <;> first | rfl | simp at this
 | str x=>cases e
 | box=>cases e
theorem zmg (d:D) (k:∀ b,Q b->Q' b) (q:truD d Q):truD d Q':=by
 unfold truD at q ⊢;split at q
 ·exact k _ q
 ·exact q.elim
theorem zc7 (hA:DE X c a A) (he:∀ whole,isTrue a X.env whole = (do let v <- whole;standAt a.pos;holding [v] (truthy v)):=by intro _;rfl) (hK:c.K = X.K:=by rfl):DT X c a (truW A) where
 mono:=λρ Q Q' k q=>hA.mono ρ _ _ (λd z=>zmg d k z) q
 pt:=zfH (zjB hA.pe he) λσ H Q ⟨ρ,G,r,q⟩=>⟨ρ,G,r,hA.mono ρ _ _ (λd z v H' G' t e=>by
  unfold truD at z;split at z
  ·rename_i k hk
   exact ⟨k,hK ▸ zpG t.gh e hk,z H' G' t⟩
  ·exact z.elim) q⟩
@[reducible] def notT (A:WT):WT:=λρ Q=>A ρ λb=>Q (!b)
theorem zdE {A:WT} (hA:DT X c a A):DT X c (.UnaryOp .Not a pos) (notT A) where
 mono:=λρ Q Q' k q=>hA.mono ρ _ _ (λd z=>k _ z) q
 pt:=zfH (zrm hA.pt) λσ H Q ⟨ρ,G,r,q⟩=>⟨ρ,G,r,q⟩
@[reducible] def andT (A B:WT):WT:=λρ Q=>A ρ λb=>if b = true then B ρ Q else Q false
@[reducible] def orT (A B:WT):WT:=λρ Q=>A ρ λb=>if b = true then Q true else B ρ Q
structure DW (X:Cx) (c:Bk) (e:Expr) (W:WT):Prop where
 mono:zdC W
 pw:PW X e (tDt c W)
theorem DW.dt (h:DW X c a W):DT X c a W:=⟨h.mono,h.pw.pt⟩
theorem zol  (h:PW X e t) (k:∀ σ H Q,t' σ H Q->t σ H Q):PW X e t':=λwh pins s σ H Q I q=>h wh pins s σ H Q I (k σ H Q q)
theorem zle {A:WT} (hA:DT X c a A):DW X c (.BoolOp .And [a] pos) A:=⟨hA.mono,zjh hA.pt⟩
theorem zdu {A:WT} (hA:DT X c a A):DW X c (.BoolOp .Or [a] pos) A:=⟨hA.mono,zq7 hA.pt⟩
theorem znS {A B:WT} {rest:List Expr} (hA:DT X c a A) (hB:DW X c (.BoolOp .And (b :: rest) pos) B):DW X c (.BoolOp .And (a :: b :: rest) pos) (andT A B) where
 mono:=λρ Q Q' k q=>hA.mono ρ _ _ (λd z=>by
  cases d
  ·exact k _ z
  ·exact hB.mono ρ _ _ k z) q
 pw:=zol (zmz hA.pt hB.pw) λσ H Q ⟨ρ,G,r,q⟩=>⟨ρ,G,r,hA.mono ρ _ _ (λd z H' G' t=>by
  cases d
  ·exact z H' G' t
  ·exact ⟨ρ,G',r.step t,hB.mono ρ _ _ (λb' z' H2 G2 t2=>z' H2 G2 (t.trans t2)) z⟩) q⟩
theorem w_or {A B:WT} {rest:List Expr} (hA:DT X c a A) (hB:DW X c (.BoolOp .Or (b :: rest) pos) B):DW X c (.BoolOp .Or (a :: b :: rest) pos) (orT A B) where
 mono:=λρ Q Q' k q=>hA.mono ρ _ _ (λd z=>by
  cases d
  ·exact hB.mono ρ _ _ k z
  ·exact k _ z) q
 pw:=zol (zrX hA.pt hB.pw) λσ H Q ⟨ρ,G,r,q⟩=>⟨ρ,G,r,hA.mono ρ _ _ (λd z H' G' t=>by
  cases d
  ·exact ⟨ρ,G',r.step t,hB.mono ρ _ _ (λb' z' H2 G2 t2=>z' H2 G2 (t.trans t2)) z⟩
  ·exact z H' G' t) q⟩
def blD (d:D) (Q:Bool->Prop):Prop:=match d with | .bl b=>Q b | _=>False
theorem zhA (d:D) (k:∀ b,Q b->Q' b) (q:blD d Q):blD d Q':=by
 cases d <;> first | exact k _ q | exact q
@[reducible] def andW (A B:WE):WE:=λρ Q=>A ρ λx=>blD x λk=>if k = true then B ρ Q else Q (.bl false)
@[reducible] def notW (A:WE):WE:=λρ Q=>A ρ λx=>blD x λk=>Q (.bl (!k))
theorem ziq (hA:DE X c a A):DE X c (.BoolOp op [a] pos) A:=⟨hA.mono,zq5 hA.pe⟩
theorem zhE {rest:List Expr} (hA:DE X c a A) (hB:DE X c (.BoolOp .And (b :: rest) pos) B):DE X c (.BoolOp .And (a :: b :: rest) pos) (andW A B) where
 mono:=λρ Q Q' k q=>hA.mono ρ _ _ (λd z=>zhA d (λb z=>by
  cases b
  ·exact k _ z
  ·exact hB.mono ρ _ _ k z) z) q
 pe:=zaR (zp9 hA.pe hB.pe) λσ H Q ⟨ρ,G,r,q⟩=>⟨ρ,G,r,hA.mono ρ _ _ (λd z v H' G' t e=>by
  cases d with
  | bl k=>
   refine ⟨k,e,?_⟩;cases k
   ·exact z _ H' G' t rfl
   ·exact ⟨ρ,G',r.step t,hB.mono ρ _ _ (λb' z' v2 H2 G2 t2=>z' v2 H2 G2 (t.trans t2)) z⟩
  | _=>exact z.elim) q⟩
theorem zrc (hA:DE X c a A):DE X c (.UnaryOp .Not a pos) (notW A) where
 mono:=λρ Q Q' k q=>hA.mono ρ _ _ (λd z=>zhA d (λb z=>k _ z) z) q
 pe:=zaR (zqc hA.pe) λσ H Q ⟨ρ,G,r,q⟩=>⟨ρ,G,r,hA.mono ρ _ _ (λd z v H' G' t e=>by
  cases d with
  | bl k=>exact ⟨k,e,z _ H' G' t rfl⟩
  | _=>exact z.elim) q⟩
@[reducible] def ifW (C:WT) (A B:WE):WE:=λρ Q=>C ρ λk=>if k = true then A ρ Q else B ρ Q
theorem d_if  (hC:DT X c ce C) (hA:DE X c a A) (hB:DE X c b B):DE X c (.IfExp ce a b pos) (ifW C A B) where
 mono:=λρ Q Q' k q=>hC.mono ρ _ _ (λd z=>by
  cases d
  ·exact hB.mono ρ _ _ k z
  ·exact hA.mono ρ _ _ k z) q
 pe:=zaR (zn8 hC.pt hA.pe hB.pe) λσ H Q ⟨ρ,G,r,q⟩=>⟨ρ,G,r,hC.mono ρ _ _ (λd z H' G' t=>by
  cases d
  ·exact ⟨ρ,G',r.step t,hB.mono ρ _ _ (λb' z' v2 H2 G2 t2=>z' v2 H2 G2 (t.trans t2)) z⟩
  ·exact ⟨ρ,G',r.step t,hA.mono ρ _ _ (λb' z' v2 H2 G2 t2=>z' v2 H2 G2 (t.trans t2)) z⟩) q⟩
@[reducible] def zic (f g:F2) (A B C:WE):WE:=λρ Q=>A ρ λx=>B ρ λy=>f x y λz=>blD z λk=>if k = true then C ρ λw=>g y w Q else Q (.bl false)
end
end
section
variable {X:Cx} {c:Bk} {a b e:Expr} {A B:WE} {pos p:Pos} {es:List Expr}
@[reducible] def nilA:WL:=λ_ Q=>Q []
@[reducible] def zab (A:WE) (R:WL):WL:=λρ Q=>A ρ λd=>R ρ λds=>Q (d :: ds)
theorem zai:DA X c [] nilA:=⟨λ_ _ _ k q=>k _ q,zor zat λσ H Q ⟨ρ,G,r,q⟩=>q [] H G r.refl rfl⟩
theorem zaa (hA:DE X c e A) (hR:DA X c es R) (hs:starEach (e :: es) X.env = (false,eval e X.env) :: starEach es X.env:=by rfl):DA X c (e :: es) (zab A R) where
 mono:=λρ Q Q' k q=>hA.mono ρ _ _ (λd z=>hR.mono ρ _ _ (λds y=>k _ y) z) q
 pa:=zor (zah hA.pe hR.pa hs) λσ H Q ⟨ρ,G,r,q⟩=>⟨ρ,G,r,hA.mono ρ _ _ (λd z v H1 G1 t1 e1=>⟨ρ,G1,r.step t1,hR.mono ρ _ _ (λds y vs H2 G2 t2 e2=>
  y (v :: vs) H2 G2 (t1.trans t2) ⟨v,vs,rfl,e1.mono t2.gg,e2⟩) z⟩) q⟩
@[reducible] def tupW (R:WL):WE:=λρ Q=>R ρ λds=>ds.length <= 100000/\Q (.tup ds)
theorem zcz  (hR:DA X c es R):DE X c (.Tuple es x1 pos) (tupW R) where
 mono:=λρ Q Q' k q=>hR.mono ρ _ _ (λds z=>⟨z.1,k _ z.2⟩) q
 pe:=zaR (zdK hR.pa) λσ H Q ⟨ρ,G,r,q⟩=>⟨ρ,G,r,hR.mono ρ _ _ (λds z vs H' G' t e=>⟨by rw [<- e.length];exact small5 z.1,λp hp=>
  z.2 (.ref p) _ _ (t.trans (Stp.new t.gh t.bx hp)) ⟨p,vs,rfl,SqT.of zad,e.mono (zbX (zap t.gh hp))⟩⟩) q⟩
@[reducible] def lstW (R:WL):WL:=λρ Q=>R ρ λds=>ds.length <= 100000/\Q ds
theorem zb4 (hR:DA X c es R):DF X c (.List es pos) (lstW R) where
 mono:=λρ Q Q' k q=>hR.mono ρ _ _ (λds z=>⟨z.1,k _ z.2⟩) q
 pe:=zaR (zeF hR.pa) λσ H Q ⟨ρ,G,r,q⟩=>⟨ρ,G,r,hR.mono ρ _ _ (λds z vs H' G' t e=>⟨by rw [<- e.length];exact small5 z.1,λp hp=>
  z.2 p vs _ _ (t.trans (Stp.own t.gh t.bx hp)) zad (zap t.gh hp) (t.free hp) e⟩) q⟩
theorem zjk   (h:Reps c G ds vs) (e:atI ds i = some d):∃ v,atI vs i = some v/\Rep c G d v:=by
 unfold atI at e ⊢;rw [h.length] at e;cases z:ixN vs.length i with
 | none=>rw [z] at e;cases e
 | some j=>rw [z] at e;exact h.get e
def itD (xs:List D) (y:D) (Q:D->Prop):Prop:=match y with | .int i=>(match atI xs i with | some d=>Q d | none=>False) | _=>False
def ixD:F2
 | .lst _ xs,y,Q=>itD xs y Q
 | .tup xs,y,Q=>itD xs y Q
 | _,_,_=>False
theorem zkj  (k:∀ d,Q d->Q' d) (q:itD xs y Q):itD xs y Q':=by
 cases y with
 | int i=>
  unfold itD at q ⊢;simp only at q ⊢;split at q
  ·exact k _ q
  ·exact q.elim
 | _=>exact q
theorem m_ix:zbu ixD:=λx y Q Q' k q=>by
 cases x <;> first | exact zkj k q | exact q
theorem zpV:OpD c ixD (rIx c.K):=by
 intro H G x y u v Q gh bx h0 rx ry q;cases x with
 | lst n xs=>
  obtain ⟨a,vs,rfl,ha,_,rv⟩:=rx;cases y with
  | int i=>
   cases ry;have q:(match atI xs i with | some d=>_ | none=>False):=q;split at q
   ·rename_i d e
    obtain ⟨w,e',rw'⟩:=zjk rv e;exact .inl ⟨a,vs,i,w,rfl,rfl,SqL.of (gh _ _ ha),e',q w H G (Stp.refl gh bx) rw'⟩
   ·exact q.elim
  | _=>exact q.elim
 | tup xs=>
  obtain ⟨a,vs,rfl,ha,rv⟩:=rx;cases y with
  | int i=>
   cases ry;have q:(match atI xs i with | some d=>_ | none=>False):=q;split at q
   ·rename_i d e
    obtain ⟨w,e',rw'⟩:=zjk rv e;exact .inr (.inl ⟨a,vs,i,w,rfl,rfl,zaM gh ha,e',q w H G (Stp.refl gh bx) rw'⟩)
   ·exact q.elim
  | _=>exact q.elim
 | _=>exact q.elim
theorem d_ix (hA:DE X c a A) (hB:DE X c b B) (hs:zi6 b:=by intro _ _;rfl) (hK:c.K = X.K:=by rfl):DE X c (.Subscript a b pos) (binW ixD A B):=
 ⟨zdL m_ix hA.mono hB.mono,zaR (zcQ (hK ▸ zoF) hA.pe hB.pe hs) λσ H Q h=>ze1 m_ix hA.mono hB.mono zpV σ H Q h⟩
def ixvW (i:Nat) (B:WE):WE:=λρ Q=>match ρ[i]? with
 | some (.val d)=>B ρ λy=>ixD d y Q
 | some (.own xs)=>B ρ λy=>itD xs y Q
 | _=>False
theorem zbm (i:Nat) (hB:DE X c b B) (hs:zi6 b:=by intro _ _;rfl) (hN:X.N[i]? = some x:=by rfl) (hv:Vis X.env.scope x:=by first | exact Or.inl rfl | exact Or.inr (Or.inl rfl) | exact Or.inr (Or.inr rfl))
  (hd:(x == ("__debug__" : Str)) = false:=by decide) (hcd:(x == ("__classdict__" : Str)) = false:=by decide) (hK:c.K = X.K:=by rfl):DE X c (.Subscript (.Name x p) b pos) (ixvW i B) where
 mono:=λρ Q Q' k q=>by
  unfold ixvW at q ⊢;split at q
  ·exact hB.mono ρ _ _ (λy z=>m_ix _ y _ _ k z) q
  ·exact hB.mono ρ _ _ (λy z=>zkj k z) q
  ·exact q.elim
 pe:=zaR (zcQ (hK ▸ zoF (X:=X)) (zdV hN hv hd hcd) hB.pe hs) λσ H Q ⟨ρ,G,r,q⟩=>by
  unfold ixvW at q;split at q
  ·rename_i d e
   obtain ⟨v,h1,h2⟩:=r.slot i _ e;refine ⟨v,h1,ρ,G,r,hB.mono ρ _ _ (λy z w H1 G1 t1 e1=>?_) q⟩;exact zpV H1 G1 d y v w Q t1.gh t1.bx (λa z=>r.new0 (t1.free z)) (h2.mono t1.gg) e1 (m_ix d y _ _ (λd' z' w' H2 G2 t2 e2=>z' w' H2 G2 (t1.trans t2) e2) z)
  ·rename_i xs e
   obtain ⟨a,vs,h1,h2,h3,h4,h5,h6⟩:=r.slot i _ e;refine ⟨.ref a,h1,ρ,G,r,hB.mono ρ _ _ (λy z w H1 G1 t1 e1=>?_) q⟩;cases y with
   | int k=>
    cases e1;have z:(match atI xs k with | some d=>_ | none=>False):=z;split at z
    ·rename_i d' e'
     obtain ⟨w',f,rw'⟩:=zjk h6 e';exact .inl ⟨a,vs,k,w',rfl,rfl,SqL.of (t1.fr a _ h5 h2),f,z w' H1 G1 t1 (rw'.mono t1.gg)⟩
    ·exact z.elim
   | _=>exact z.elim
  ·exact q.elim
def cutD {α:Type} (xs:List α) (lo hi:Option Int):List α:=(xs.drop (HT.sIx xs.length 0 lo)).take (HT.sIx xs.length xs.length hi - HT.sIx xs.length 0 lo)
theorem Reps.cut  (h:Reps c G ds vs) (lo hi:Option Int):Reps c G (cutD ds lo hi) (cutV vs lo hi):=by
 unfold cutD cutV;rw [h.length];exact (h.drop _).take _
abbrev WO:=Env->(Option Int->Prop)->Prop
structure DO (X:Cx) (c:Bk) (e:Option Expr) (W:WO):Prop where
 mono:∀ ρ Q Q',(∀ d,Q d->Q' d)->W ρ Q->W ρ Q'
 po:PO X e λσ H Q=>∃ ρ G,Rel c ρ σ H G/\W ρ λo=>∀ H' G',Stp c.β H G H' G'->Q o H'
@[reducible] def noO:WO:=λ_ Q=>Q none
def zqY (A:WE):WO:=λρ Q=>A ρ λd=>match d with | .int i=>Q (some i) | _=>False
theorem zrf:DO X c none noO:=⟨λ_ _ _ k q=>k _ q,λpins s σ H Q I ⟨ρ,G,r,q⟩=>zgK pins s σ H Q I (q H G r.refl)⟩
theorem zrk (hA:DE X c a A):DO X c (some a) (zqY A) where
 mono:=λρ Q Q' k q=>hA.mono ρ _ _ (λd z=>by cases d <;> first | exact k _ z | exact z) q
 po:=λpins s σ H Q I ⟨ρ,G,r,q⟩=>zhx hA.pe pins s σ H Q I ⟨ρ,G,r,hA.mono ρ _ _ (λd z v H' G' t e=>by
  cases d with
  | int i=>exact ⟨i,e,z H' G' t⟩
  | _=>exact z.elim) q⟩
def slD (x:D) (lo hi:Option Int) (Q:D->Prop):Prop:=match x with
 | .lst _ xs=>Q (.lst true (cutD xs lo hi))
 | .tup xs=>Q (.tup (cutD xs lo hi))
 | _=>False
@[reducible] def slW (A:WE) (L U:WO):WE:=λρ Q=>A ρ λx=>L ρ λl=>U ρ λu=>slD x l u Q
theorem zn0  (k:∀ d,Q d->Q' d) (q:slD x lo hi Q):slD x lo hi Q':=by
 cases x <;> first | exact k _ q | exact q
theorem d_sl  (hA:DE X c a A) (hL:DO X c lo L) (hU:DO X c hi U) (hK:c.K = X.K:=by rfl):DE X c (.Subscript a (.Slice lo hi none p2) pos) (slW A L U) where
 mono:=λρ Q Q' k q=>hA.mono ρ _ _ (λd z=>hL.mono ρ _ _ (λl y=>hU.mono ρ _ _ (λu x=>zn0 k x) y) z) q
 pe:=zaR (ze0 (sl_list.or zpf) hA.pe hL.po hU.po) λσ H Q ⟨ρ,G,r,q⟩=>⟨ρ,G,r,hA.mono ρ _ _ (λd z v H1 G1 t1 e1=>⟨ρ,G1,r.step t1,hL.mono ρ _ _ (λl y H2 G2 t2=>⟨ρ,G2,(r.step t1).step t2,hU.mono ρ _ _ (λu x H3 G3 t3=>by
  have t:=(t1.trans t2).trans t3;have e3:=(e1.mono t2.gg).mono t3.gg;cases d with
  | lst n xs=>
   obtain ⟨p,vs,rfl,hp,_,rv⟩:=e3;exact .inl ⟨p,vs,rfl,SqL.of (t3.gh _ _ hp),λl hl=>x (.ref l) _ _ (t.trans (Stp.new t3.gh t3.bx hl)) ⟨l,_,rfl,zad,λ_=>r.new0 (t.free hl),(rv.cut _ _).mono (zbX (zap t3.gh hl))⟩⟩
  | tup xs=>
   obtain ⟨p,vs,rfl,hp,rv⟩:=e3;exact .inr ⟨p,vs,rfl,hK ▸ zaM t3.gh hp,λe=>x (.ref p) H3 G3 t ⟨p,vs,rfl,hp,by have:=rv.cut l u;rw [e] at this;exact this⟩,λl hl=>x (.ref l) _ _ (t.trans (Stp.new t3.gh t3.bx hl)) ⟨l,_,rfl,SqT.of zad,(rv.cut _ _).mono (zbX (zap t3.gh hl))⟩⟩
  | _=>exact x.elim) y⟩) z⟩) q⟩
theorem zgA  (fm:zbu f) (gm:zbu g) (mA:za9 A) (mB:za9 B) (mC:za9 C):za9 (zic f g A B C):=λρ Q Q' k q=>mA ρ _ _ (λx q1=>mB ρ _ _ (λy q2=>fm x y _ _ (λz q3=>zhA z (λb q4=>by
 cases b
 ·exact k _ q4
 ·exact mC ρ _ _ (λw q5=>gm y w _ _ k q5) q4) q3) q2) q1) q
theorem zkR  (fm:zbu f) (gm:zbu g) (mA:za9 A) (mB:za9 B) (mC:za9 C) (hr:OpD c f r) (hr':OpD c g r') (σ:St) (H:Hp) (Q:VK) (h:tD c (zic f g A B C) σ H Q):zoC r r' (tD c A) (tD c B) (tD c C) σ H Q:=by
 obtain ⟨ρ,G,R,q⟩:=h;refine ⟨ρ,G,R,mA ρ _ _ (λx q1 u H1 G1 t1 e1=>⟨ρ,G1,R.step t1,mB ρ _ _ (λy q2 v H2 G2 t2 e2=>?_) q1⟩) q⟩;refine hr H2 G2 x y u v _ t2.gh t2.bx (λa z=>R.new0 (t1.free (t2.free z))) (e1.mono t2.gg) e2 (fm x y _ _ (λz q3 w H3 G3 t3 e3=>?_) q2);cases z with
 | bl k=>
  refine ⟨k,e3,?_⟩;cases k
  ·exact q3 _ H3 G3 ((t1.trans t2).trans t3) rfl
  ·refine ⟨ρ,G3,((R.step t1).step t2).step t3,mC ρ _ _ (λw' q5 v' H4 G4 t4 e4=>?_) q3⟩;exact hr' H4 G4 y w' v v' Q t4.gh t4.bx (λa z=>R.new0 (t1.free (t2.free (t3.free (t4.free z))))) ((e2.mono t3.gg).mono t4.gg) e4 (gm y w' _ _ (λd z w2 H5 G5 t5 e5=>z w2 H5 G5 ((((t1.trans t2).trans t3).trans t4).trans t5) e5) q5)
 | _=>exact q3.elim
theorem zop  (hA:DE X c a A) (hB:DE X c b B) (hC:DE X c ce C) (hm:lastMarks [.LtE,.Lt] [b,ce] = false:=by with_unfolding_all rfl):DT X c (.Compare a [.LtE,.Lt] [b,ce] pos) (blW (zic leD ltD A B C)):=
 ⟨zfv (zgA (zf2 _) (zf2 _) hA.mono hB.mono hC.mono),zfH (znq zrJ znt hA.pe hB.pe hC.pe hm) λσ H Q h=>by
  obtain ⟨ρ,G,R,q⟩:=zjd (zgA (zf2 _) (zf2 _) hA.mono hB.mono hC.mono) σ H Q h;exact zkR (zf2 _) (zf2 _) hA.mono hB.mono hC.mono (zgf _) (zgf _) σ H _ ⟨ρ,G,R,q⟩⟩
end
end Fd
namespace Fd
open PySem L2
def insU (x:Int):List Int->List Int
 | []=>[x]
 | y :: ys=>if x < y then x :: y :: ys else if x = y then y :: ys else y :: insU x ys
def zbt:List Int->List Int
 | []=>[]
 | x :: xs=>insU x (zbt xs)
theorem zgB (x:Int):∀ (ys:List Int) (k:Int),k ∈ insU x ys ↔ k = x\/k ∈ ys
 | [],k=>by simp [insU]
 | y :: ys,k=>by
  unfold insU;split
  ·simp
  ·split
   ·rename_i h;subst h;simp
   ·rw [YAk,zgB x ys k,YAk];constructor
    ·rintro (h | h | h)
     ·exact .inr (.inl h)
     ·exact .inl h
     ·exact .inr (.inr h)
    ·rintro (h | h | h)
     ·exact .inr (.inl h)
     ·exact .inl h
     ·exact .inr (.inr h)
theorem zmJ (x:Int):∀ (ys:List Int),ys.Pairwise (· < ·)->(insU x ys).Pairwise (· < ·)
 | [],_=>by simp [insU]
 | y :: ys,h=>by
  unfold insU;have h':=YBd.mp h;split
  ·rename_i hxy
   refine YBd.mpr ⟨λk hk=>?_,h⟩;rcases YAk.mp hk with e | e
   ·rw [e];exact hxy
   ·exact Int.lt_trans hxy (h'.1 k e)
  ·split
   ·exact h
   ·rename_i h1 h2
    refine YBd.mpr ⟨λk hk=>?_,zmJ x ys h'.2⟩;rcases (zgB x ys k).mp hk with e | e
    ·rw [e];omega
    ·exact h'.1 k e
theorem zaK:∀ (xs:List Int) (k:Int),k ∈ zbt xs ↔ k ∈ xs
 | [],_=>Iff.rfl
 | x :: xs,k=>by unfold zbt;rw [zgB,zaK xs k,YAk]
theorem zbc:∀ xs:List Int,(zbt xs).Pairwise (· < ·)
 | []=>.nil
 | x :: xs=>by unfold zbt;exact zmJ x _ (zbc xs)
theorem zlM:∀ {xs ys:List Int},xs.Pairwise (· < ·)->ys.Pairwise (· < ·)->(∀ k,k ∈ xs ↔ k ∈ ys)->xs = ys
 | [],[],_,_,_=>rfl
 | [],y :: ys,_,_,h=>absurd ((h y).mpr YAh) (by simp)
 | x :: xs,[],_,_,h=>absurd ((h x).mp YAh) (by simp)
 | x :: xs,y :: ys,hx,hy,h=>by
  have hx':=YBd.mp hx;have hy':=YBd.mp hy;have e:x = y:=by
   rcases YAk.mp ((h x).mp YAh) with e | e
   ·exact e
   ·rcases YAk.mp ((h y).mpr YAh) with e' | e'
    ·exact e'.symm
    ·have:=hy'.1 x e;have:=hx'.1 y e';omega
  subst e;congr 1;refine zlM hx'.2 hy'.2 λk=>⟨λhk=>?_,λhk=>?_⟩
  ·rcases YAk.mp ((h k).mp (YAj _ hk)) with e | e
   ·have:=hx'.1 k hk;omega
   ·exact e
  ·rcases YAk.mp ((h k).mpr (YAj _ hk)) with e | e
   ·have:=hy'.1 k hk;omega
   ·exact e
theorem zqX (h:ns.Pairwise (· < ·)) (m:∀ k,k ∈ ns ↔ k ∈ xs):ns = zbt xs:=zlM h (zbc xs) λk=>(m k).trans (zaK xs k).symm
theorem zcB {xs:List Int} (h:xs.Pairwise (· < ·)):xs.Nodup:=h.imp λh=>Int.ne_of_lt h
theorem zhH (xs:List Int):SetLen xs (zbt xs).length:=⟨zbt xs,zcB (zbc xs),zaK xs,rfl⟩
section
variable {X:Cx} {c:Bk} {a b e:Expr} {A B:WE} {pos p p':Pos} {es:List Expr}
abbrev FL:=List D->(D->Prop)->Prop
def zdb (f:FL):Prop:=∀ ds Q Q',(∀ d,Q d->Q' d)->f ds Q->f ds Q'
@[reducible] def cbW (f:FL) (R:WL):WE:=λρ Q=>R ρ λds=>f ds Q
def zfV (c:Bk) (f:FL) (r:List V->Hp->VK->Prop):Prop:=∀ (H G:Hp) (ds:List D) (vs:List V) (Q:VK),Same G H->BoxD c.β H G->(∀ a,H a = none->c.H0 a = none)->Reps c G ds vs ->
 f ds (λd=>∀ v H' G',Stp c.β H G H' G'->Rep c G' d v->Q v H')->r vs H Q
theorem zlq  (fm:zdb f) (mR:zcS R) (hr:zfV c f r) (σ:St) (H:Hp) (Q:VK) (h:tD c (cbW f R) σ H Q):tCB r (tDs c R) σ H Q:=by
 obtain ⟨ρ,G,r',q⟩:=h;exact ⟨ρ,G,r',mR ρ _ _ (λds z vs H' G' t e=>hr H' G' ds vs Q t.gh t.bx (λa z=>r'.new0 (t.free z)) e (fm ds _ _ (λd y v H2 G2 t2 e2=>y v H2 G2 (t.trans t2) e2) z)) q⟩
theorem zho {f:FL} {R:WL} {r:List V->Hp->VK->Prop} {id:String} {x:Str} (fm:zdb f) (hc:CallR X (.builtin id) r) (hr:zfV c f r) (hm:X.mg x = none) (hv:bootBuiltins x = some (.builtin id)) (hR:DA X c (e :: es) R) (hg:Gl X x:=by rfl) (hn:x ≠ "__name__" := by decide) (hdb:(x == ("__debug__" : Str)) = false:=by decide)
  (he:starEach (e :: es) X.env = (false,eval e X.env) :: starEach es X.env:=by rfl) (hpl:(backTo pos (starEach es X.env)).any (·.1) = false:=by rfl):DE X c (.Call (.Name x p) (e :: es) [] pos) (cbW f R):=
 ⟨λρ Q Q' k q=>hR.mono ρ _ _ (λds z=>fm ds _ _ k z) q,zaR (zbz hc hg hm hv hR.pa hn hdb he hpl) (zlq fm hR.mono hr)⟩
theorem zjG   (fm:zdb f) (hc:CallR X (.type T) r) (hr:zfV c f r) (hm:X.mg x = none) (hv:bootBuiltins x = some (.type T)) (hR:DA X c (e :: es) R) (hg:Gl X x:=by rfl) (hn:x ≠ "__name__" := by decide) (hdb:(x == ("__debug__" : Str)) = false:=by decide)
  (he:starEach (e :: es) X.env = (false,eval e X.env) :: starEach es X.env:=by rfl) (hpl:(backTo pos (starEach es X.env)).any (·.1) = false:=by rfl):DE X c (.Call (.Name x p) (e :: es) [] pos) (cbW f R):=
 ⟨λρ Q Q' k q=>hR.mono ρ _ _ (λds z=>fm ds _ _ k z) q,zaR (zcw hc hg hm hv hR.pa hn hdb he hpl) (zlq fm hR.mono hr)⟩
theorem zhc  (h:Reps c G [d] vs):∃ v,vs = [v]/\Rep c G d v:=by
 obtain ⟨v,ws,rfl,h1,h2⟩:=h;cases h2;exact ⟨v,rfl,h1⟩
theorem zpO  (h:Reps c G [d,f] vs):∃ v w,vs = [v,w]/\Rep c G d v/\Rep c G f w:=by
 obtain ⟨v,ws,rfl,h1,w,ws',rfl,h2,h3⟩:=h;cases h3;exact ⟨v,w,rfl,h1,h2⟩
def lenF:FL
 | [.lst _ xs],Q=>Q (.int xs.length)
 | [.tup xs],Q=>Q (.int xs.length)
 | _,_=>False
theorem zr2:zdb lenF:=λds Q Q' k q=>by
 unfold lenF at q ⊢;split at q <;> first | exact k _ q | exact q.elim
theorem zqr:zfV c lenF (λxs H Q=>∃ p ys,xs = [.ref p]/\(SqL c.K H p ys\/SqT c.K H p ys)/\Q (.int ys.length) H):=by
 intro H G ds vs Q gh bx h0 rv q;unfold lenF at q;split at q
 ·obtain ⟨v,rfl,a,ws,rfl,ha,_,hw⟩:=zhc rv;exact ⟨a,ws,rfl,.inl (SqL.of (gh _ _ ha)),by rw [<- hw.length];exact q _ H G (Stp.refl gh bx) rfl⟩
 ·obtain ⟨v,rfl,a,ws,rfl,ha,hw⟩:=zhc rv;exact ⟨a,ws,rfl,.inr (zaM gh ha),by rw [<- hw.length];exact q _ H G (Stp.refl gh bx) rfl⟩
 ·exact q.elim
def zeb (i:Nat):WE:=λρ Q=>match ρ[i]? with
 | some (.val d)=>lenF [d] Q
 | some (.own xs)=>Q (.int xs.length)
 | _=>False
theorem zcX (i:Nat) (hg:Gl X "len" := by rfl) (hN:X.N[i]? = some x:=by rfl) (hv:Vis X.env.scope x:=by first | exact Or.inl rfl | exact Or.inr (Or.inl rfl) | exact Or.inr (Or.inr rfl)) (hd:(x == ("__debug__" : Str)) = false:=by decide) (hcd:(x == ("__classdict__" : Str)) = false:=by decide) (hK:c.K = X.K:=by rfl) (hm:X.mg "len" = none:=by decreasing_trivial):DE X c (.Call (.Name "len" p) [.Name x p'] [] pos) (zeb i) where
 mono:=λρ Q Q' k q=>by
  unfold zeb at q ⊢;split at q
  ·exact zr2 _ _ _ k q
  ·exact k _ q
  ·exact q.elim
 pe:=zaR (zbz zce hg hm PySem.boot_len (zah (zdV hN hv hd hcd) zat)) λσ H Q ⟨ρ,G,r,q⟩=>by
  unfold zeb at q;split at q
  ·rename_i d e
   obtain ⟨v,h1,h2⟩:=r.slot i _ e;exact ⟨v,h1,hK ▸ zqr H G [d] [v] Q r.gh r.bx (λa z=>r.new0 z) (.one h2) q⟩
  ·rename_i xs e
   obtain ⟨a,vs,h1,h2,h3,h4,h5,h6⟩:=r.slot i _ e;exact ⟨.ref a,h1,a,vs,rfl,.inl (SqL.of h2),by rw [<- h6.length];exact q _ H G r.refl rfl⟩
  ·exact q.elim
def seqD (d:D) (Q:List D->Prop):Prop:=match d with | .lst _ xs=>Q xs | .tup xs=>Q xs | _=>False
theorem zdO  (k:∀ xs,Q xs->Q' xs) (q:seqD d Q):seqD d Q':=by
 cases d <;> first | exact k _ q | exact q
@[reducible] def zp1 (A:WE):WL:=λρ Q=>A ρ λd=>seqD d Q
theorem zqm (hA:DE X c e A) (hg:Gl X "list" := by rfl) (he:starEach [e] X.env = (false,eval e X.env) :: starEach [] X.env:=by rfl) (hK:c.K = X.K:=by rfl) (hm:X.mg "list" = none:=by decreasing_trivial):DF X c (.Call (.Name "list" p) [e] [] pos) (zp1 A) where
 mono:=λρ Q Q' k q=>hA.mono ρ _ _ (λd z=>zdO k z) q
 pe:=zaR (zcw zeN hg hm PyProof.Rows.boot_list (zah hA.pe zat he) (by decide) (by decide) he rfl) λσ H Q ⟨ρ,G,r,q⟩=>⟨ρ,G,r,hA.mono ρ _ _ (λd z v H' G' t e=>by
  cases d with
  | lst n xs=>
   obtain ⟨a,vs,rfl,ha,_,rv⟩:=e;exact ⟨a,vs,rfl,.inl (SqL.of (t.gh _ _ ha)),λl hl=>z l vs _ _ (t.trans (Stp.own t.gh t.bx hl)) zad (zap t.gh hl) (t.free hl) rv⟩
  | tup xs=>
   obtain ⟨a,vs,rfl,ha,rv⟩:=e;exact ⟨a,vs,rfl,.inr (hK ▸ zaM t.gh ha),λl hl=>z l vs _ _ (t.trans (Stp.own t.gh t.bx hl)) zad (zap t.gh hl) (t.free hl) rv⟩
  | _=>exact z.elim) q⟩
def mulL (A B:WE):WL:=λρ Q=>A ρ λx=>B ρ λy=>match x,y with | .lst _ xs,.int k=>(0 <= k/\k <= 1000/\xs.length <= 1000)/\Q (List.replicate k.toNat xs).flatten | _,_=>False
theorem zrV (hA:DE X c a A) (hB:DE X c b B):DF X c (.BinOp a .Mult b pos) (mulL A B) where
 mono:=λρ Q Q' k q=>hA.mono ρ _ _ (λx z=>hB.mono ρ _ _ (λy w=>by cases x <;> cases y <;> first | exact ⟨w.1,k _ w.2⟩ | exact w) z) q
 pe:=zaR (zbR zms hA.pe hB.pe) λσ H Q ⟨ρ,G,r,q⟩=>⟨ρ,G,r,hA.mono ρ _ _ (λx z u H1 G1 t1 e1=>⟨ρ,G1,r.step t1,hB.mono ρ _ _ (λy w v H2 G2 t2 e2=>by
  cases x with
  | lst n xs=>cases y with
   | int k=>
    obtain ⟨⟨k0,k1,hz⟩,w⟩:=w;obtain ⟨l,vs,rfl,ha,_,rv⟩:=e1.mono t2.gg;refine ⟨l,k,vs,rfl,e2,t2.gh _ _ ha,by omega,by omega,?_,λp hp=>?_⟩
    ·rw [<- rv.length,YAR];have h1:k.toNat <= 1000:=by omega
     have:=Nat.mul_le_mul hz h1
     omega
    ·have:∀ m:Nat,Reps c G2 (List.replicate m xs).flatten (List.replicate m vs).flatten:=λm=>by
      induction m with
      | zero=>rfl
      | succ m ih=>rw [YAS,YAS,YBk,YBk];exact rv.append ih
     exact w p _ _ _ ((t1.trans t2).trans (Stp.own t2.gh t2.bx hp)) zad (zap t2.gh hp) ((t1.trans t2).free hp) (this _)
   | _=>exact w.elim
  | _=>exact w.elim) z⟩) q⟩
def zjC (A:WE):WL:=λρ Q=>A ρ λd=>match d with | .int n=>(0 <= n/\n <= 1000)/\Q ((List.range n.toNat).map λ(k:Nat)=>D.int (k:Int)) | _=>False
theorem zm8 (hA:DE X c e A) (hg:Gl X "list" := by rfl) (hg2:Gl X "range" := by rfl) (he:starEach [e] X.env = (false,eval e X.env) :: starEach [] X.env:=by rfl) (hcalm:X.calm = true:=by rfl) (hm:X.mg "list" = none:=by decreasing_trivial) (hm2:X.mg "range" = none:=by decreasing_trivial) :
  DF X c (.Call (.Name "list" p) [.Call (.Name "range" p') [e] [] pos2] [] pos) (zjC A) where
 mono:=λρ Q Q' k q=>hA.mono ρ _ _ (λd z=>by cases d <;> first | exact ⟨z.1,k _ z.2⟩ | exact z) q
 pe:=zaR (zcw (zgC hcalm) hg hm PyProof.Rows.boot_list (zah (zcw zlW hg2 hm2 PyProof.Rows.boot_range (zah hA.pe zat he) (by decide) (by decide) he rfl) zat) (by decide) (by decide) rfl rfl) λσ H Q ⟨ρ,G,r,q⟩=>⟨ρ,G,r,hA.mono ρ _ _ (λd z v H' G' t e=>by
  cases d with
  | int n=>
   refine ⟨n,by cases e;rfl,λp hp=>⟨p,n,rfl,zad,z.1.1,z.1.2,λl hl=>?_⟩⟩;have t2:=t.trans (Stp.own t.gh t.bx (o:=.rng 0 n) hp);refine z.2 l _ _ _ (t2.trans (Stp.own t2.gh t2.bx hl)) zad (zap t2.gh hl) (t2.free hl) ?_
   have:=(reps_ints (c:=c) (G:=G') (ns:=(List.range n.toNat).map Int.ofNat)).mpr rfl
   rw [YAH] at this;exact this
  | _=>exact z.elim) q⟩
def ze6:FL
 | [.lst _ xs],Q=>Q (.tup xs)
 | [.tup xs],Q=>Q (.tup xs)
 | _,_=>False
theorem zpH:zdb ze6:=λds Q Q' k q=>by
 unfold ze6 at q ⊢;split at q <;> first | exact k _ q | exact q.elim
theorem zog:zfV c ze6 (λxs H Q=>∃ p ys,xs = [.ref p]/\((SqL c.K H p ys/\∀ l,H l = none->Q (.ref l) (upd H l (.tup ys)))\/(SqT c.K H p ys/\Q (.ref p) H))):=by
 intro H G ds vs Q gh bx h0 rv q;unfold ze6 at q;split at q
 ·obtain ⟨v,rfl,a,ws,rfl,ha,_,hw⟩:=zhc rv;exact ⟨a,ws,rfl,.inl ⟨SqL.of (gh _ _ ha),λl hl=>q (.ref l) _ _ (Stp.new gh bx hl) ⟨l,ws,rfl,SqT.of zad,hw.mono (zbX (zap gh hl))⟩⟩⟩
 ·obtain ⟨v,rfl,a,ws,rfl,ha,hw⟩:=zhc rv;exact ⟨a,ws,rfl,.inr ⟨zaM gh ha,q (.ref a) H G (Stp.refl gh bx) ⟨a,ws,rfl,ha,hw⟩⟩⟩
 ·exact q.elim
theorem zpl (hR:DA X c [e] R) (hg:Gl X "tuple" := by rfl) (he:starEach [e] X.env = (false,eval e X.env) :: starEach [] X.env:=by rfl) (hK:c.K = X.K:=by rfl) (hm:X.mg "tuple" = none:=by decreasing_trivial):DE X c (.Call (.Name "tuple" p) [e] [] pos) (cbW ze6 R):=
 zjG zpH zhy (hK ▸ zog) hm PyProof.Rows.boot_tuple hR hg (by decide) (by decide) he rfl
def intF:FL
 | [.int i],Q=>Q (.int i)
 | [.bl k],Q=>Q (.int (if k then 1 else 0))
 | _,_=>False
theorem zr1:zdb intF:=λds Q Q' k q=>by
 unfold intF at q ⊢;split at q <;> first | exact k _ q | exact q.elim
theorem zql:zfV c intF (λxs H Q=>(∃ i,xs = [.int i]/\Q (.int i) H)\/∃ k,xs = [.bl k]/\Q (.int (if k then 1 else 0)) H):=by
 intro H G ds vs Q gh bx h0 rv q;unfold intF at q;split at q
 ·obtain ⟨v,rfl,h⟩:=zhc rv;cases h;exact .inl ⟨_,rfl,q _ H G (Stp.refl gh bx) rfl⟩
 ·obtain ⟨v,rfl,h⟩:=zhc rv;cases h;exact .inr ⟨_,rfl,q _ H G (Stp.refl gh bx) rfl⟩
 ·exact q.elim
theorem zpY (hR:DA X c [e] R) (hg:Gl X "int" := by rfl) (he:starEach [e] X.env = (false,eval e X.env) :: starEach [] X.env:=by rfl) (hm:X.mg "int" = none:=by decreasing_trivial):DE X c (.Call (.Name "int" p) [e] [] pos) (cbW intF R):=
 zjG zr1 zlR zql hm PyProof.Rows.boot_int hR hg (by decide) (by decide) he rfl
def minF:FL
 | [.int i,.int j],Q=>Q (.int (if j < i then j else i))
 | _,_=>False
theorem zrO:zdb minF:=λds Q Q' k q=>by
 unfold minF at q ⊢;split at q <;> first | exact k _ q | exact q.elim
theorem zqQ:zfV c minF (λxs H Q=>∃ i j,xs = [.int i,.int j]/\Q (.int (if j < i then j else i)) H):=by
 intro H G ds vs Q gh bx h0 rv q;unfold minF at q;split at q
 ·obtain ⟨v,w,rfl,h1,h2⟩:=zpO rv;cases h1;cases h2;exact ⟨_,_,rfl,q _ H G (Stp.refl gh bx) rfl⟩
 ·exact q.elim
theorem zrz (hR:DA X c [a,b] R) (hg:Gl X "min" := by rfl) (he:starEach [a,b] X.env = (false,eval a X.env) :: starEach [b] X.env:=by rfl) (hpl:(backTo pos (starEach [b] X.env)).any (·.1) = false:=by rfl) (hcalm:X.calm = true:=by rfl) (hm:X.mg "min" = none:=by decreasing_trivial):DE X c (.Call (.Name "min" p) [a,b] [] pos) (cbW minF R):=
 zho zrO (ziD hcalm) zqQ hm PyProof.Rows.boot_min hR hg (by decide) (by decide) he hpl
def allF:FL
 | [.lst _ xs],Q=>∃ bs:List Bool,xs = bs.map D.bl/\Q (.bl (bs.all id))
 | _,_=>False
def anyF:FL
 | [.lst _ xs],Q=>∃ bs:List Bool,xs = bs.map D.bl/\Q (.bl (bs.any id))
 | _,_=>False
theorem zrw:zdb allF:=λds Q Q' k q=>by
 unfold allF at q ⊢;split at q
 ·obtain ⟨bs,e,q⟩:=q;exact ⟨bs,e,k _ q⟩
 ·exact q.elim
theorem zr8:zdb anyF:=λds Q Q' k q=>by
 unfold anyF at q ⊢;split at q
 ·obtain ⟨bs,e,q⟩:=q;exact ⟨bs,e,k _ q⟩
 ·exact q.elim
theorem zqy:zfV c allF (λvs H Q=>∃ (p:Addr) (bs:List Bool),vs = [.ref p]/\SqL c.K H p (bs.map V.bl)/\Q (.bl (bs.all id)) H):=by
 intro H G ds vs Q gh bx h0 rv q;unfold allF at q;split at q
 ·obtain ⟨bs,rfl,q⟩:=q;obtain ⟨v,rfl,a,ws,rfl,ha,_,hw⟩:=zhc rv;rw [reps_bools.mp hw] at ha;exact ⟨a,bs,rfl,SqL.of (gh _ _ ha),q _ H G (Stp.refl gh bx) rfl⟩
 ·exact q.elim
theorem zqv:zfV c anyF (λvs H Q=>∃ (p:Addr) (bs:List Bool),vs = [.ref p]/\SqL c.K H p (bs.map V.bl)/\Q (.bl (bs.any id)) H):=by
 intro H G ds vs Q gh bx h0 rv q;unfold anyF at q;split at q
 ·obtain ⟨bs,rfl,q⟩:=q;obtain ⟨v,rfl,a,ws,rfl,ha,_,hw⟩:=zhc rv;rw [reps_bools.mp hw] at ha;exact ⟨a,bs,rfl,SqL.of (gh _ _ ha),q _ H G (Stp.refl gh bx) rfl⟩
 ·exact q.elim
theorem zgL (hR:DA X c [e] R) (hg:Gl X "all" := by rfl) (he:starEach [e] X.env = (false,eval e X.env) :: starEach [] X.env:=by rfl) (hK:c.K = X.K:=by rfl) (hcalm:X.calm = true:=by rfl) (hm:X.mg "all" = none:=by decreasing_trivial):DE X c (.Call (.Name "all" p) [e] [] pos) (cbW allF R):=
 zho zrw (zhG hcalm) (hK ▸ zqy) hm PyProof.Rows.boot_all hR hg (by decide) (by decide) he rfl
theorem zqR (hR:DA X c [e] R) (hg:Gl X "any" := by rfl) (he:starEach [e] X.env = (false,eval e X.env) :: starEach [] X.env:=by rfl) (hK:c.K = X.K:=by rfl) (hcalm:X.calm = true:=by rfl) (hm:X.mg "any" = none:=by decreasing_trivial):DE X c (.Call (.Name "any" p) [e] [] pos) (cbW anyF R):=
 zho zr8 (zm2 hcalm) (hK ▸ zqv) hm PyProof.Rows.boot_any hR hg (by decide) (by decide) he rfl
def setD (d:D) (Q:List Int->Prop):Prop:=seqD d λxs=>∃ ns:List Int,xs = ns.map D.int/\ns.length < 64/\Q ns
theorem zdW  (k:∀ xs,Q xs->Q' xs) (q:setD d Q):setD d Q':=zdO (λxs ⟨ns,e,h,q⟩=>⟨ns,e,h,k _ q⟩) q
@[reducible] def zhu (A:WE):WL:=λρ Q=>A ρ λd=>setD d λns=>Q ((zbt ns).map D.int)
@[reducible] def ziS (A:WE):WE:=λρ Q=>A ρ λd=>setD d λns=>Q (.int (zbt ns).length)
theorem zl5:(100:Nat) < scanBound:=by decide +kernel
def zrx (c:Bk) (w:World) (A:WE):TE:=λσ H Q=>∃ ρ G,Rel c ρ σ H G/\A ρ λd=>setD d λns=>∀ l H' G',Stp c.β H G H' G'->H' l = none->Q (.ref l) (upd H' l (SetO w l ns))
theorem zld (hm2:X.mg "set" = none) (hA:DE X c e A) (hg2:Gl X "set") (he:starEach [e] X.env = (false,eval e X.env) :: starEach [] X.env) (hcalm:X.calm = true) (hK:c.K = X.K):PE X (.Call (.Name "set" p) [e] [] pos) (zrx c X.w A):=
 zaR (zcw ((ziY hcalm).or (zhJ hcalm)) hg2 hm2 PyProof.Rows.boot_set (zah hA.pe zat he) (by decide) (by decide) he rfl) λσ H Q ⟨ρ,G,r,q⟩=>⟨ρ,G,r,hA.mono ρ _ _ (λd z v H' G' t e=>by
  have hsc:=zl5;cases d with
  | lst n xs=>
   obtain ⟨ns,rfl,hl,q⟩:=z;obtain ⟨a,ws,rfl,ha,_,hw⟩:=e;rw [reps_ints.mp hw] at ha;exact .inl ⟨a,ns,rfl,SqL.of (t.gh _ _ ha),by omega,λl hl=>q l H' G' t hl⟩
  | tup xs=>
   obtain ⟨ns,rfl,hl,q⟩:=z;obtain ⟨a,ws,rfl,ha,hw⟩:=e;rw [reps_ints.mp hw] at ha;exact .inr ⟨a,ns,rfl,hK ▸ zaM t.gh ha,by omega,λl hl=>q l H' G' t hl⟩
  | _=>exact z.elim) q⟩
theorem znv  (q:setD d Q):setD d λns=>ns.length < 64/\Q ns:=zdO (λxs ⟨ns,e1,e2,q⟩=>⟨ns,e1,e2,e2,q⟩) q
theorem ziJ (hA:DE X c e A) (hg:Gl X "sorted" := by rfl) (hg2:Gl X "set" := by rfl) (he:starEach [e] X.env = (false,eval e X.env) :: starEach [] X.env:=by rfl) (hcalm:X.calm = true:=by rfl) (hK:c.K = X.K:=by rfl) (hm:X.mg "sorted" = none:=by decreasing_trivial) (hm2:X.mg "set" = none:=by decreasing_trivial) :
  DF X c (.Call (.Name "sorted" p) [.Call (.Name "set" p') [e] [] pos'] [] pos) (zhu A) where
 mono:=λρ Q Q' k q=>hA.mono ρ _ _ (λd z=>zdW (λns y=>k _ y) z) q
 pe:=zaR (zbz (zcT hcalm) hg hm PyProof.Rows.boot_sorted (zah (zld hm2 hA hg2 he hcalm hK) zat) (by decide) (by decide) rfl rfl) λσ H Q ⟨ρ,G,r,q⟩=>⟨ρ,G,r,hA.mono ρ _ _ (λd z=>zdW (λns z l H' G' t hl=>by
  have t2:=t.trans (Stp.own t.gh t.bx (o:=SetO X.w l ns) hl);refine ⟨l,ns,rfl,zad,z.1,λl3 ms hl3 up mem=>?_⟩;rw [zqX up mem];exact z.2 l3 _ _ _ (t2.trans (Stp.own t2.gh t2.bx hl3)) zad (zap t2.gh hl3) (t2.free hl3) (reps_ints.mpr rfl)) (znv z)) q⟩
theorem zjN (hA:DE X c e A) (hg:Gl X "len" := by rfl) (hg2:Gl X "set" := by rfl) (he:starEach [e] X.env = (false,eval e X.env) :: starEach [] X.env:=by rfl) (hcalm:X.calm = true:=by rfl) (hK:c.K = X.K:=by rfl) (hm:X.mg "len" = none:=by decreasing_trivial) (hm2:X.mg "set" = none:=by decreasing_trivial) :
  DE X c (.Call (.Name "len" p) [.Call (.Name "set" p') [e] [] pos'] [] pos) (ziS A) where
 mono:=λρ Q Q' k q=>hA.mono ρ _ _ (λd z=>zdW (λns y=>k _ y) z) q
 pe:=zaR (zbz zg5 hg hm PySem.boot_len (zah (zld hm2 hA hg2 he hcalm hK) zat) (by decide) (by decide) rfl rfl) λσ H Q ⟨ρ,G,r,q⟩=>⟨ρ,G,r,hA.mono ρ _ _ (λd z=>zdW (λns z l H' G' t hl=>by
  have t2:=t.trans (Stp.own t.gh t.bx (o:=SetO X.w l ns) hl);refine ⟨l,ns,rfl,zad,λn hn=>?_⟩;rw [hn.uniq (zhH ns)];exact z _ _ _ t2 rfl) z) q⟩
def isiB (T:String):D->Option Bool
 | .non=>some false
 | .bl _=>some (T == "bool" || T == "int")
 | .int _=>some (T == "int")
 | .str _=>some (T == "str")
 | .tup _=>some (T == "tuple")
 | .lst _ _=>some (T == "list")
 | .box=>none
def isiW (T:String) (A:WE):WE:=λρ Q=>A ρ λd=>match isiB T d with | some b=>Q (.bl b) | none=>False
theorem zph   (hT:T = "list" \/ T = "tuple" \/ T = "int" \/ T = "bool" \/ T = "str") (gh:Same G H) (h:Rep c G d v) (e:isiB T d = some k):IsI c.K H v T k:=by
 cases d with
 | non=>cases h;rcases hT with rfl | rfl | rfl | rfl | rfl <;> cases e <;> constructor
 | bl b=>cases h;rcases hT with rfl | rfl | rfl | rfl | rfl <;> cases e <;> constructor
 | int b=>cases h;rcases hT with rfl | rfl | rfl | rfl | rfl <;> cases e <;> constructor
 | str b=>cases h;rcases hT with rfl | rfl | rfl | rfl | rfl <;> cases e <;> constructor
 | tup xs=>
  obtain ⟨a,vs,rfl,h1,_⟩:=h;have q:=zaM gh h1;rcases hT with rfl | rfl | rfl | rfl | rfl <;> cases e
  ·exact .tuple_list _ _ q
  ·exact .tuple_tuple _ _ q
  ·exact .tuple_int _ _ q
  ·exact .tuple_bool _ _ q
  ·exact .tuple_str _ _ q
 | lst n xs=>
  obtain ⟨a,vs,rfl,h1,_⟩:=h;have q:SqL c.K H a vs:=SqL.of (gh _ _ h1);rcases hT with rfl | rfl | rfl | rfl | rfl <;> cases e
  ·exact .list_list _ _ q
  ·exact .list_tuple _ _ q
  ·exact .list_int _ _ q
  ·exact .list_bool _ _ q
  ·exact .list_str _ _ q
 | box=>cases e
theorem zcf  (hA:DE X c e A) (hg:Gl X "isinstance" := by rfl) (hg2:Gl X x:=by rfl) (hn:x ≠ "__name__" := by decide) (hd:(x == ("__debug__" : Str)) = false:=by decide) (he:starEach [e,.Name x p'] X.env = (false,eval e X.env) :: starEach [.Name x p'] X.env:=by rfl) (hK:c.K = X.K:=by rfl) (hT:T = "list" \/ T = "tuple" \/ T = "int" \/ T = "bool" \/ T = "str" := by decreasing_trivial) (hm:X.mg "isinstance" = none:=by decreasing_trivial) (hm2:X.mg x = none:=by decreasing_trivial) (hbt:bootBuiltins x = some (.type T):=by decreasing_trivial) :
  DE X c (.Call (.Name "isinstance" p) [e,.Name x p'] [] pos) (isiW T A) where
 mono:=λρ Q Q' k q=>hA.mono ρ _ _ (λd z=>by
  revert z;cases isiB T d with
  | none=>exact id
  | some b=>exact k _) q
 pe:=zaR (zbz znm hg hm PyProof.Rows.boot_isinstance (zah hA.pe (zah (zpo (v:=.ty T) hg2 hm2 hbt rfl hn hd) zat) he) (by decide) (by decide) he rfl) λσ H Q ⟨ρ,G,r,q⟩=>⟨ρ,G,r,hA.mono ρ _ _ (λd z v H' G' t e=>by
  revert z;cases hk:isiB T d with
  | none=>exact False.elim
  | some b=>exact λz=>⟨v,T,b,rfl,hK ▸ zph hT t.gh e hk,z _ H' G' t rfl⟩) q⟩
abbrev Fn:=List D->(D->Prop)->Prop
def up (F:Fn):Fn:=λds Q=>∃ P:D->Prop,F ds P/\∀ d,P d->Q d
theorem zmG (F:Fn):zdb (up F):=λds Q Q' k ⟨P,h1,h2⟩=>⟨P,h1,λd z=>k d (h2 d z)⟩
def spD (K:PySem.W.Frag) (n:Nat) (F:Fn):Sp:=λvs H Q _=>∃ β G ds,Same G H/\BoxD β H G/\Reps ⟨K,β,λ_=>none,G⟩ G ds vs/\vs.length = n/\up F ds λd=>∀ v H' G',Stp β H G H' G'->Rep ⟨K,β,H,G⟩ G' d v->Q v H'
structure Cal (P:Program) (w:World) (K:PySem.W.Frag) (mg:Str->Option Value) (base:Heap) (x:Str) (k:Nat) (ps:List Str) (sp:Sp):Prop where
 ex:∃ f fd,FnOk P w K mg base CX0 k f fd ps sp/\mg x = some (.ref f)/\PySem.W.keepIn K (.ref f) = true/\Binds K fd ps []
theorem Cal.of       (F:Fun K x qual st f fd) (G:FnOk P w K mg base CX0 k f fd ps sp) (hm:mg x = some (.ref f)) (hb:Binds K fd ps []):Cal P w K mg base x k ps sp:=
 ⟨f,fd,G,hm,F.kp,hb⟩
@[reducible] def zaw (n:Nat) (F:Fn) (R:WL):WE:=λρ Q=>R ρ λds=>ds.length = n/\up F ds Q
theorem zao   (C:Cal X.prog X.w X.K X.mg X.base x k ps (spD X.K n F)) (hR:DA X c (e :: es) R) (hg:Gl X x:=by rfl)
  (hdb:(x == ("__debug__" : Str)) = false:=by decide) (he:starEach (e :: es) X.env = (false,eval e X.env) :: starEach es X.env:=by rfl) (hpl:(backTo pos (starEach es X.env)).any (·.1) = false:=by rfl) (hK:c.K = X.K:=by rfl) (hr:Room k X.A:=by decreasing_trivial) :
  DE X c (.Call (.Name x p) (e :: es) [] pos) (zaw n F R) where
 mono:=λρ Q Q' k q=>hR.mono ρ _ _ (λds z=>⟨z.1,zmG F ds _ _ k z.2⟩) q
 pe:=by
  obtain ⟨f,fd,FO,hm,hk,hb⟩:=C.ex;refine zaR (zi8 FO hr hg hm hk hb .nil zpR hR.pa hdb he hpl) λσ H Q ⟨ρ,G,r,q⟩=>⟨ρ,G,r,hR.mono ρ _ _ (λds z vs H' G' t e=>?_) q⟩;show spD X.K n F (vs ++ []) H' Q E0;rw [YA3];exact ⟨c.β,G',ds,t.gh,t.bx,Reps.back (c':=c) (c:=⟨X.K,c.β,λ_=>none,G'⟩) hK rfl (λ_ _=>rfl) e,by rw [<- e.length];exact z.1,
   zmG F ds _ _ (λd z v H2 G2 t2 e2=>z v H2 G2 (t.trans t2) (Rep.back (c':=⟨X.K,c.β,H',G'⟩) (c:=c) hK.symm rfl (λa h=>r.new0 (t.free h)) e2)) z.2⟩
end
mutual
inductive Tg where
 | nm (i:Nat)
 | tp (n:Nat) (ts:Tgs)
inductive Tgs where
 | nil
 | cons (t:Tg) (ts:Tgs)
end
mutual
def gOf (K:PySem.W.Frag):Tg->TG
 | .nm i=>zcR i
 | .tp n ts=>gSeq K n (gsOf K ts)
def gsOf (K:PySem.W.Frag):Tgs->TGs
 | .nil=>gNil
 | .cons t ts=>zeR (gOf K t) (gsOf K ts)
end
mutual
def gD:Tg->D->Env->(Env->Prop)->Prop
 | .nm i,d,ρ,Q=>Q (ρ.set i (.val d))
 | .tp n ts,.tup ds,ρ,Q=>ds.length = n/\gDs ts ds ρ Q
 | .tp n ts,.lst _ ds,ρ,Q=>ds.length = n/\gDs ts ds ρ Q
 | .tp _ _,_,_,_=>False
def gDs:Tgs->List D->Env->(Env->Prop)->Prop
 | .nil,[],ρ,Q=>Q ρ
 | .cons t ts,d :: ds,ρ,Q=>gD t d ρ λρ'=>gDs ts ds ρ' Q
 | _,_,_,_=>False
end
mutual
theorem zbj:∀ (t:Tg) (d:D) (ρ:Env) {Q Q':Env->Prop},(∀ ρ,Q ρ->Q' ρ)->gD t d ρ Q->gD t d ρ Q'
 | .nm i,d,ρ,Q,Q',k,q=>by unfold gD at q ⊢;exact k _ q
 | .tp n ts,.tup ds,ρ,Q,Q',k,q=>by unfold gD at q ⊢;exact ⟨q.1,zgM ts ds ρ k q.2⟩
 | .tp _ _,.non,_,_,_,_,q=>by unfold gD at q;exact q.elim
 | .tp _ _,.bl _,_,_,_,_,q=>by unfold gD at q;exact q.elim
 | .tp _ _,.int _,_,_,_,_,q=>by unfold gD at q;exact q.elim
 | .tp _ _,.str _,_,_,_,_,q=>by unfold gD at q;exact q.elim
 | .tp n ts,.lst _ ds,ρ,Q,Q',k,q=>by unfold gD at q ⊢;exact ⟨q.1,zgM ts ds ρ k q.2⟩
 | .tp _ _,.box,_,_,_,_,q=>by unfold gD at q;exact q.elim
theorem zgM:∀ (ts:Tgs) (ds:List D) (ρ:Env) {Q Q':Env->Prop},(∀ ρ,Q ρ->Q' ρ)->gDs ts ds ρ Q->gDs ts ds ρ Q'
 | .nil,[],ρ,Q,Q',k,q=>by unfold gDs at q ⊢;exact k _ q
 | .cons t ts,d :: ds,ρ,Q,Q',k,q=>by unfold gDs at q ⊢;exact zbj t d ρ (λρ' z=>zgM ts ds ρ' k z) q
 | .nil,_ :: _,_,_,_,_,q=>by unfold gDs at q;exact q.elim
 | .cons _ _,[],_,_,_,_,q=>by unfold gDs at q;exact q.elim
end
mutual
theorem zdA  : ∀ (t:Tg) (d:D) (v:V) (ρ:Env) (σ:St) {Q:St->Hp->Prop},Rel c ρ σ H G->Rep c G d v->gD t d ρ (λρ'=>∀ σ',Rel c ρ' σ' H G->Q σ' H)->gOf c.K t v σ H Q
 | .nm i,d,v,ρ,σ,Q,r,e,q=>by unfold gD at q;unfold gOf;exact q _ (r.put e)
 | .tp n ts,.tup ds,v,ρ,σ,Q,r,e,q=>by
  unfold gD at q;unfold gOf;obtain ⟨a,vs,rfl,ha,hv⟩:=e;exact ⟨a,vs,rfl,.inl (zaM r.gh ha),by rw [<- hv.length];exact q.1,zhz ts ds vs ρ σ r hv q.2⟩
 | .tp _ _,.non,_,_,_,_,_,_,q=>by unfold gD at q;exact q.elim
 | .tp _ _,.bl _,_,_,_,_,_,_,q=>by unfold gD at q;exact q.elim
 | .tp _ _,.int _,_,_,_,_,_,_,q=>by unfold gD at q;exact q.elim
 | .tp _ _,.str _,_,_,_,_,_,_,q=>by unfold gD at q;exact q.elim
 | .tp n ts,.lst m ds,v,ρ,σ,Q,r,e,q=>by
  unfold gD at q;unfold gOf;obtain ⟨a,vs,rfl,ha,_,hv⟩:=e;exact ⟨a,vs,rfl,.inr (SqL.of (r.gh _ _ ha)),by rw [<- hv.length];exact q.1,zhz ts ds vs ρ σ r hv q.2⟩
 | .tp _ _,.box,_,_,_,_,_,_,q=>by unfold gD at q;exact q.elim
theorem zhz  : ∀ (ts:Tgs) (ds:List D) (vs:List V) (ρ:Env) (σ:St) {Q:St->Hp->Prop},Rel c ρ σ H G->Reps c G ds vs->gDs ts ds ρ (λρ'=>∀ σ',Rel c ρ' σ' H G->Q σ' H)->gsOf c.K ts vs σ H Q
 | .nil,[],vs,ρ,σ,Q,r,e,q=>by unfold gDs at q;unfold gsOf;exact ⟨e,q _ r⟩
 | .cons t ts,d :: ds,vs,ρ,σ,Q,r,e,q=>by
  unfold gDs at q;unfold gsOf;obtain ⟨v,ws,rfl,e1,e2⟩:=e;exact ⟨v,ws,rfl,zdA t d v ρ σ r e1 (zbj t d ρ (λρ' z σ' r'=>zhz ts ds ws ρ' σ' r' e2 z) q)⟩
 | .nil,_ :: _,_,_,_,_,_,_,q=>by unfold gDs at q;exact q.elim
 | .cons _ _,[],_,_,_,_,_,_,q=>by unfold gDs at q;exact q.elim
end
structure En where
 nx:Env->Prop
 rt:D->Prop
 bk:Env->Prop
 ct:Env->Prop
abbrev WS:=En->Env->Prop
structure En.Le (E E':En):Prop where
 nx:∀ ρ,E.nx ρ->E'.nx ρ
 rt:∀ d,E.rt d->E'.rt d
 bk:∀ ρ,E.bk ρ->E'.bk ρ
 ct:∀ ρ,E.ct ρ->E'.ct ρ
def zla (W:WS):Prop:=∀ E E' ρ,En.Le E E'->W E ρ->W E' ρ
def ends (c:Bk) (G:Hp) (Ds:Ends):En where
 nx:=λρ=>∀ σ H' G',Rel c ρ σ H' G'->Same G G'->Ds.nx σ H'
 rt:=λd=>∀ v H' G',Stp c.β c.H0 c.G0 H' G'->Rep c G' d v->Ds.rt v H'
 bk:=λρ=>∀ σ H' G',Rel c ρ σ H' G'->Same G G'->Ds.bk σ H'
 ct:=λρ=>∀ σ H' G',Rel c ρ σ H' G'->Same G G'->Ds.ct σ H'
theorem zhj  (s:Same G G1):En.Le (ends c G Ds) (ends c G1 Ds):=
 ⟨λρ h σ H' G' r s'=>h σ H' G' r (s.trans s'),λd h=>h,λρ h σ H' G' r s'=>h σ H' G' r (s.trans s'),λρ h σ H' G' r s'=>h σ H' G' r (s.trans s')⟩
def tDS (c:Bk) (W:WS):TS:=λDs σ H=>∃ ρ G,Rel c ρ σ H G/\W (ends c G Ds) ρ
structure DS (X:Cx) (c:Bk) (st:Stmt) (W:WS):Prop where
 mono:zla W
 ps:PS X st (tDS c W)
structure DSs (X:Cx) (c:Bk) (sts:List Stmt) (W:WS):Prop where
 mono:zla W
 pss:PSs X sts (tDS c W)
section
variable {X:Cx} {c:Bk} {st:Stmt} {rest:List Stmt} {pos p p':Pos} {e:Expr}
theorem zbV (h:PS X st t) (k:∀ D σ H,t' D σ H->t D σ H):PS X st t':=λpins s σ H D I q=>h pins s σ H D I (k D σ H q)
theorem zmo (h:PSs X rest t) (k:∀ D σ H,t' D σ H->t D σ H):PSs X rest t':=λpins s σ H D I q=>h pins s σ H D I (k D σ H q)
@[reducible] def nilS:WS:=λE ρ=>E.nx ρ
@[reducible] def seqW (A B:WS):WS:=λE ρ=>A { E with nx:=B E } ρ
theorem za0:DSs X c [] nilS:=⟨λE E' ρ l q=>l.nx _ q,zmo zci λD σ H ⟨ρ,G,r,q⟩=>q σ H G r (Same.refl _)⟩
theorem zag (h1:DS X c st A) (h2:DSs X c rest B):DSs X c (st :: rest) (seqW A B) where
 mono:=λE E' ρ l q=>h1.mono { E with nx:=B E } _ ρ ⟨λρ' z=>h2.mono _ _ ρ' l z,l.rt,l.bk,l.ct⟩ q
 pss:=zmo (zak h1.ps h2.pss) λD σ H ⟨ρ,G,r,q⟩=>⟨ρ,G,r,h1.mono { ends c G D with nx:=B (ends c G D) } _ ρ ⟨λρ' z σ' H' G' r' s'=>⟨ρ',G',r',h2.mono _ _ ρ' (zhj s') z⟩,λd z=>z,λρ' z=>z,λρ' z=>z⟩ q⟩
theorem zar (h1:DS X c st A):DSs X c [st] A:=⟨h1.mono,zaC h1.ps⟩
def frz (i:Nat) (ρ:Env):Env:=match ρ[i]? with | some (.own xs)=>ρ.set i (.val (.lst true xs)) | _=>ρ
@[reducible] def frzW (i:Nat) (A:WS):WS:=λE ρ=>A E (frz i ρ)
theorem zpj  (r:Rel c ρ σ H G) (i:Nat):∃ G',Same G G'/\Rel c (frz i ρ) σ H G':=by
 unfold frz;split
 ·rename_i xs e;exact r.freeze e
 ·exact ⟨G,Same.refl _,r⟩
theorem zlZ (i:Nat) (h:DS X c st A):DS X c st (frzW i A) where
 mono:=λE E' ρ l q=>h.mono E E' _ l q
 ps:=zbV h.ps λD σ H ⟨ρ,G,r,q⟩=>by
  obtain ⟨G',s',r'⟩:=zpj r i;exact ⟨frz i ρ,G',r',h.mono _ _ _ (zhj s') q⟩
@[reducible] def ifS (C:WT) (A B:WS):WS:=λE ρ=>C ρ λb=>if b = true then A E ρ else B E ρ
theorem s_if  (hC:DT X c e C) (hA:DSs X c a A) (hB:DSs X c b B):DS X c (.If e a b pos) (ifS C A B) where
 mono:=λE E' ρ l q=>hC.mono ρ _ _ (λb z=>by
  cases b
  ·exact hB.mono _ _ ρ l z
  ·exact hA.mono _ _ ρ l z) q
 ps:=zbV (zfX hC.pt hA.pss hB.pss) λD σ H ⟨ρ,G,r,q⟩=>⟨ρ,G,r,hC.mono ρ _ _ (λb z H' G' t=>by
  cases b
  ·exact ⟨ρ,G',r.step t,hB.mono _ _ ρ (zhj t.gg) z⟩
  ·exact ⟨ρ,G',r.step t,hA.mono _ _ ρ (zhj t.gg) z⟩) q⟩
@[reducible] def retW (A:WE):WS:=λE ρ=>A ρ E.rt
theorem zaA (hA:DE X c e A):DS X c (.Return (some e) pos) (retW A) where
 mono:=λE E' ρ l q=>hA.mono ρ _ _ l.rt q
 ps:=zbV (zbP hA.pe) λD σ H ⟨ρ,G,r,q⟩=>⟨ρ,G,r,hA.mono ρ _ _ (λd z v H' G' t e=>z v H' G' (r.stp.trans t) e) q⟩
@[reducible] def asgW (t:Tg) (A:WE):WS:=λE ρ=>A ρ λd=>gD t d ρ E.nx
theorem zjY  (mA:za9 A) (D:Ends) (σ:St) (H:Hp) (h:tDS c (asgW t A) D σ H):tAsg (tD c A) (gOf c.K t) D σ H:=by
 obtain ⟨ρ,G,r,q⟩:=h;exact ⟨ρ,G,r,mA ρ _ _ (λd z v H' G' t1 e1=>zdA t d v ρ σ (r.step t1) e1 (zbj t d ρ (λρ' y σ' r'=>y σ' H' G' r' t1.gg) z)) q⟩
theorem zeU  (mA:za9 A):zla (asgW t A):=λE E' ρ l q=>mA ρ _ _ (λd z=>zbj t d ρ l.nx z) q
theorem gn (i:Nat)  (hi:X.N[i]? = some x:=by rfl) (hx:Loc X.env.scope x:=by first | exact Or.inl rfl | exact Or.inr rfl) (hf:X.fn x = true\/X.env.scope.names.lookup x = some .local:=by first | exact .inl rfl | exact .inr rfl | assumption) (hN:X.N.Nodup:=by decreasing_trivial):PG X (.Name x p) (zcR i):=zay hN hi hx hf
def ndB:List Str->Bool
 | []=>true
 | x :: l=>!l.elem x && ndB l
theorem ndB_of:∀ {l:List Str},ndB l = true->l.Nodup
 | [],_=>List.nodup_nil
 | x :: l,h=>by
  unfold ndB at h
  have:=Bool.and_eq_true_iff.mp h
  refine YBf.mpr ⟨λm=>?_,ndB_of this.2⟩;rw [List.elem_iff.mpr m] at this;exact absurd this.1 (by decide)
theorem za1 (i:Nat)  (hA:DE X c e A) (hi:X.N[i]? = some x:=by rfl) (hx:Loc X.env.scope x:=by first | exact Or.inl rfl | exact Or.inr rfl) (hs:swapsWith e (some (.Name x p)) pos.line X.env = pure false:=by rfl) (hf:X.fn x = true\/X.env.scope.names.lookup x = some .local:=by first | exact .inl rfl | exact .inr rfl | assumption) (hN:X.N.Nodup:=by decreasing_trivial):DS X c (.Assign [.Name x p] e pos) (asgW (.nm i) A):=
 ⟨zeU hA.mono,zbV (zbq hN hi hx hA.pe hs hf) λD σ H h=>zjY (t:=.nm i) hA.mono D σ H h⟩
theorem zfg (t:Tg)  (hA:DE X c e A) (hg:PG X tg (gOf c.K t)) (hs:swapsWithSole [tg] e pos.line X.env = pure false:=by rfl) (hw:swappedStores [tg] e X.env = pure none:=by rfl)
  (h1:(assignEach [tg] X.env).map (·.2) = [assign tg X.env]:=by rfl):DS X c (.Assign [tg] e pos) (asgW t A):=
 ⟨zeU hA.mono,zbV (zdn hA.pe hg hs hw h1) λD σ H h=>zjY hA.mono D σ H h⟩
@[reducible] def ownW (i:Nat) (F:WL):WS:=λE ρ=>F ρ λxs=>E.nx (ρ.set i (.own xs))
theorem znR  (mF:zcS F):zla (ownW i F):=λE E' ρ l q=>mF ρ _ _ (λd z=>l.nx _ z) q
theorem znU  (mF:zcS F) (D:Ends) (σ:St) (H:Hp) (h:tDS c (ownW i F) D σ H):tAsg (tDf c F) (zcR i) D σ H:=by
 obtain ⟨ρ,G,r,q⟩:=h;refine ⟨ρ,G,r,mF ρ _ _ (λxs z l vs H' G' t hl hg h0 hv=>?_) q⟩;refine z _ H' G' ((r.step t).putOwn hl hg (r.new0 h0) (r.neβ h0) hv λj ys e1 e2=>?_) t.gg;obtain ⟨a,vs',f1,f2,_⟩:=r.slot j _ e1;rw [e2] at f1;cases f1;rw [h0] at f2;cases f2
theorem zmu (i:Nat)  (hF:DF X c e F) (hi:X.N[i]? = some x:=by rfl) (hx:Loc X.env.scope x:=by first | exact Or.inl rfl | exact Or.inr rfl) (hs:swapsWith e (some (.Name x p)) pos.line X.env = pure false:=by rfl) (hf:X.fn x = true\/X.env.scope.names.lookup x = some .local:=by first | exact .inl rfl | exact .inr rfl | assumption) (hN:X.N.Nodup:=by decreasing_trivial):DS X c (.Assign [.Name x p] e pos) (ownW i F):=
 ⟨znR hF.mono,zbV (zbq hN hi hx hF.pe hs hf) λD σ H h=>znU hF.mono D σ H h⟩
@[reducible] def parW (i j:Nat) (A B:WE):WS:=λE ρ=>A ρ λx=>B ρ λy=>E.nx ((ρ.set i (.val x)).set j (.val y))
theorem zp4 (i j:Nat)   {kt k2 pt2} (hA:DE X c a A) (hB:DE X c b B) (hij:i ≠ j:=by decide) (hi:X.N[i]? = some x:=by rfl) (hj:X.N[j]? = some y:=by rfl) (hx:X.env.scope.names.lookup x = some .local:=by rfl) (hy:X.env.scope.names.lookup y = some .local:=by rfl) (hsa:starEach [a,b] X.env = (false,eval a X.env) :: starEach [b] X.env:=by rfl) (hsb:starEach [b] X.env = (false,eval b X.env) :: starEach [] X.env:=by rfl) (hw:swappedStores [.Tuple [.Name x px,.Name y py] kt pt] (.Tuple [a,b] k2 pt2) X.env = pure (some [x,y]):=by rfl) (hs:swapsWithSole [.Tuple [.Name x px,.Name y py] kt pt] (.Tuple [a,b] k2 pt2) pos.line X.env = pure false:=by rfl) (hc:X.calm = true:=by rfl) (hN:X.N.Nodup:=by decreasing_trivial) :
  DS X c (.Assign [.Tuple [.Name x px,.Name y py] kt pt] (.Tuple [a,b] k2 pt2) pos) (parW i j A B) where
 mono:=λE E' ρ l q=>hA.mono ρ _ _ (λd z=>hB.mono ρ _ _ (λd' z'=>l.nx _ z') z) q
 ps:=zbV (zqI hc hN hi hj hij hx hy (zah hA.pe (zah hB.pe zat hsb) hsa) hw hs) λD σ H ⟨ρ,G,r,q⟩=>⟨ρ,G,r,hA.mono ρ _ _ (λd z v H1 G1 t1 e1=>⟨ρ,G1,r.step t1,hB.mono ρ _ _ (λd' z' w H2 G2 t2 e2=>
  ⟨v,w,rfl,z' _ H2 G2 ((((r.step t1).step t2).put (e1.mono t2.gg)).put e2) (t1.gg.trans t2.gg)⟩) z⟩) q⟩
def augW (i:Nat) (A:WE):WS:=λE ρ=>match ρ[i]? with
 | some (.val (.int k))=>A ρ λd=>(match d with | .int j=>E.nx (ρ.set i (.val (.int (k + j)))) | _=>False)
 | _=>False
theorem zrv (i:Nat)  (hA:DE X c e A) (hi:X.N[i]? = some x:=by rfl) (hx:Loc X.env.scope x:=by first | exact Or.inl rfl | exact Or.inr rfl) (hf:X.fn x = true\/X.env.scope.names.lookup x = some .local:=by first | exact .inl rfl | exact .inr rfl | assumption) (hN:X.N.Nodup:=by decreasing_trivial):DS X c (.AugAssign (.Name x p) .Add e pos) (augW i A) where
 mono:=λE E' ρ l q=>by
  unfold augW at q ⊢;split at q
  ·exact hA.mono ρ _ _ (λd z=>by cases d <;> first | exact l.nx _ z | exact z) q
  ·exact q.elim
 ps:=zbV (zos hN hi hx hA.pe zjx hf) λD σ H ⟨ρ,G,r,q⟩=>by
  unfold augW at q;split at q
  ·rename_i k ek
   obtain ⟨v,h1,h2⟩:=r.slot i _ ek;refine ⟨v,h1,ρ,G,r,hA.mono ρ _ _ (λd z w H' G' t e=>?_) q⟩;cases d with
   | int j=>exact ⟨k,j,h2,e,z _ H' G' ((r.step t).put rfl) t.gg⟩
   | _=>exact z.elim
  ·exact q.elim
def appW (i:Nat) (A:WE):WS:=λE ρ=>match ρ[i]? with
 | some (.own xs)=>A ρ λd=>xs.length < 100000/\E.nx (ρ.set i (.own (xs ++ [d])))
 | _=>False
theorem zpZ (i:Nat)  (hA:DE X c e A) (hN:X.N[i]? = some x:=by rfl) (hv:Vis X.env.scope x:=by first | exact Or.inl rfl | exact Or.inr (Or.inl rfl) | exact Or.inr (Or.inr rfl))
  (hd:(x == ("__debug__" : Str)) = false:=by decide) (hcd:(x == ("__classdict__" : Str)) = false:=by decide)
  (hbase:attributeBase (.Name x p) "append" X.env (eval (.Name x p) X.env) = eval (.Name x p) X.env:=by rfl)
  (hfew:((backTo cpos (starEach [e] X.env)).all (λx=>!x.1) && (backToKw cpos (keywordEach [] X.env)).all (λx=>x.1.isSome)
   && decide (([e]:List Expr).length + ([]:List Keyword).length + (if ([]:List Keyword).isEmpty then 0 else 1) < 30)) = true:=by rfl)
  (hline:(apos.endLine == cpos.line) = true:=by rfl) (hs:starEach [e] X.env = (false,eval e X.env) :: starEach [] X.env:=by rfl)
  (hsw:swapsWith (.Call (.Attribute (.Name x p) "append" apos) [e] [] cpos) none pos.line X.env = pure false:=by rfl):DS X c (.Expr (.Call (.Attribute (.Name x p) "append" apos) [e] [] cpos) pos) (appW i A) where
 mono:=λE E' ρ l q=>by
  unfold appW at q ⊢;split at q
  ·exact hA.mono ρ _ _ (λd z=>⟨z.1,l.nx _ z.2⟩) q
  ·exact q.elim
 ps:=zbV (zcV (zkI YBt PySem.F.slot_list_append PySem.F.type_list_append zbY (zdV hN hv hd hcd) (zah hA.pe zat hs) hbase hfew hline hs rfl) hsw) λD σ H ⟨ρ,G,r,q⟩=>by
  unfold appW at q;split at q
  ·rename_i xs ek
   obtain ⟨a,vs,h1,h2,h3,h4,h5,h6⟩:=r.slot i _ ek;refine ⟨.ref a,h1,.inl ⟨rfl,vs,SqL.of h2⟩,ρ,G,r,hA.mono ρ _ _ (λd z w H' G' t e=>?_) q⟩;refine ⟨a,vs,w,rfl,rfl,t.fr a _ h5 h2,?_,?_⟩
   ·rw [<- h6.length];exact YAv z.1 (small5 (YAm _))
   ·exact z.2 _ _ G' ((r.step t).write ek h1 ((h6.mono t.gg).append (.one e))) t.gg
  ·exact q.elim
def ixS (xs:List D) (k:D) (Q:Nat->Prop):Prop:=match k with | .int j=>(match ixN xs.length j with | some m=>Q m | none=>False) | _=>False
theorem zof  (f:∀ m,Q m->Q' m) (q:ixS xs k Q):ixS xs k Q':=by
 unfold ixS at q ⊢;split at q
 ·split at q
  ·exact f _ q
  ·exact q.elim
 ·exact q.elim
def putW (i:Nat) (I A:WE):WS:=λE ρ=>match ρ[i]? with
 | some (.own xs)=>A ρ λd=>I ρ λk=>ixS xs k λm=>E.nx (ρ.set i (.own (xs.set m d)))
 | _=>False
theorem zr0 (i:Nat)   (hA:DE X c e A) (hI:DE X c ie I) (hN:X.N[i]? = some x:=by rfl) (hv:Vis X.env.scope x:=by first | exact Or.inl rfl | exact Or.inr (Or.inl rfl) | exact Or.inr (Or.inr rfl))
  (hd:(x == ("__debug__" : Str)) = false:=by decide) (hcd:(x == ("__classdict__" : Str)) = false:=by decide)
  (ha:∀ v,assign (.Subscript (.Name x p) ie tpos) X.env v = (do
   let ov <- holding [v] (eval (.Name x p) X.env)
   let iv <- holding [v,ov] (eval ie X.env)
   standAt tpos
   holding [v,ov,iv] (setItem ov iv v)
   release [v,ov,iv] []):=by intro _;rfl) (hs:swapsWithSole [.Subscript (.Name x p) ie tpos] e pos.line X.env = pure false:=by rfl) (hw:swappedStores [.Subscript (.Name x p) ie tpos] e X.env = pure none:=by rfl)
  (h1:(assignEach [.Subscript (.Name x p) ie tpos] X.env).map (·.2) = [assign (.Subscript (.Name x p) ie tpos) X.env]:=by rfl):DS X c (.Assign [.Subscript (.Name x p) ie tpos] e pos) (putW i I A) where
 mono:=λE E' ρ l q=>by
  unfold putW at q ⊢;split at q
  ·exact hA.mono ρ _ _ (λd z=>hI.mono ρ _ _ (λk y=>zof (λm=>l.nx _) y) z) q
  ·exact q.elim
 ps:=zbV (zdn hA.pe (zio (zdV hN hv hd hcd) hI.pe zcA ha) hs hw h1) λD σ H ⟨ρ,G,r,q⟩=>by
  unfold putW at q;split at q
  ·rename_i xs ek
   refine ⟨ρ,G,r,hA.mono ρ _ _ (λd z v H1 G1 t1 e1=>?_) q⟩;obtain ⟨a,vs,h1,h2,h3,h4,h5,h6⟩:=(r.step t1).slot i _ ek;refine ⟨.ref a,h1,ρ,G1,r.step t1,hI.mono ρ _ _ (λk y w H2 G2 t2 e2=>?_) z⟩;unfold ixS at y;split at y
   ·rename_i j
    split at y
    ·rename_i m em
     refine ⟨a,vs,j,m,rfl,e2,t2.fr a _ h5 h2,by rw [<- h6.length];exact em,?_⟩;exact y σ _ G2 (((r.step t1).step t2).write ek h1 (Reps.set (e1.mono t2.gg) m (h6.mono t2.gg))) (t1.gg.trans t2.gg)
    ·exact y.elim
   ·exact y.elim
  ·exact q.elim
def getI (xs:List D) (k:D) (Q:Nat->Int->Prop):Prop:=match k with | .int j=>(match xs[j.toNat]? with | some (.int a)=>0 <= j/\Q j.toNat a | _=>False) | _=>False
theorem zlH  (f:∀ m a,Q m a->Q' m a) (q:getI xs k Q):getI xs k Q':=by
 unfold getI at q ⊢;split at q
 ·split at q
  ·exact ⟨q.1,f _ _ q.2⟩
  ·exact q.elim
 ·exact q.elim
def intD (d:D) (Q:Int->Prop):Prop:=match d with | .int j=>Q j | _=>False
theorem zik  (f:∀ m,Q m->Q' m) (q:intD d Q):intD d Q':=by
 cases d <;> first | exact f _ q | exact q
def zgs (i:Nat) (I A:WE):WS:=λE ρ=>match ρ[i]? with
 | some (.own xs)=>I ρ λk=>getI xs k λm a=>A ρ λd=>intD d λb=>E.nx (ρ.set i (.own (xs.set m (.int (a + b)))))
 | _=>False
theorem zpb (i:Nat)   (hI:DE X c ie I) (hA:DE X c e A) (hN:X.N[i]? = some x:=by rfl) (hv:Vis X.env.scope x:=by first | exact Or.inl rfl | exact Or.inr (Or.inl rfl) | exact Or.inr (Or.inr rfl))
  (hd:(x == ("__debug__" : Str)) = false:=by decide) (hcd:(x == ("__classdict__" : Str)) = false:=by decide)
  (ha:∀ ov iv new,augStore ie ov iv new = (do holding [new,ov,iv] (setItem ov iv new);release [new,ov,iv] [];pure .next):=by intros;rfl):DS X c (.AugAssign (.Subscript (.Name x p) ie tpos) .Add e pos) (zgs i I A) where
 mono:=λE E' ρ l q=>by
  unfold zgs at q ⊢;split at q
  ·exact hI.mono ρ _ _ (λk z=>zlH (λm a y=>hA.mono ρ _ _ (λd w=>zik (λb=>l.nx _) w) y) z) q
  ·exact q.elim
 ps:=zbV (zk2 (zdV hN hv hd hcd) hI.pe zjM hA.pe zjx zcA ha) λD σ H ⟨ρ,G,r,q⟩=>by
  unfold zgs at q;split at q
  ·rename_i xs ek
   obtain ⟨a,vs,h1,h2,h3,h4,h5,h6⟩:=r.slot i _ ek;refine ⟨.ref a,h1,ρ,G,r,hI.mono ρ _ _ (λk y w H1 G1 t1 e1=>?_) q⟩;unfold getI at y;split at y
   ·rename_i j
    split at y
    ·rename_i b em
     obtain ⟨j0,y⟩:=y;have ej:w = V.int ((j.toNat:Nat):Int):=by rw [YBq j0];exact e1
     obtain ⟨v,ev,rv⟩:=h6.get em;have rv':v = V.int b:=rv;refine ⟨a,vs,j.toNat,v,rfl,ej,SqL.of (t1.fr a _ h5 h2),ev,ρ,G1,r.step t1,hA.mono ρ _ _ (λd z u H2 G2 t2 e2=>?_) y⟩;cases d with
     | int b2=>
      refine ⟨b,b2,rv',e2,a,vs,((j.toNat:Nat):Int),j.toNat,rfl,ej,t2.fr a _ h5 (t1.fr a _ h5 h2),?_,?_⟩
      ·unfold ixN;have hlt:j.toNat < vs.length:=(YAi.mp ev).1;rw [if_pos (by omega),if_pos (by omega),YAC]
      ·exact z σ _ G2 (((r.step t1).step t2).write ek h1 (Reps.set (d:=.int (b + b2)) rfl j.toNat ((h6.mono t1.gg).mono t2.gg))) (t1.gg.trans t2.gg)
     | _=>exact z.elim
    ·exact y.elim
   ·exact y.elim
  ·exact q.elim
end
def ItOk (c:Bk) (J:It) (xs:List D) (G:Hp):Prop:=∀ (i:Nat) (H2 G2:Hp),Same G G2->Same G2 H2->BoxD c.β H2 G2->(∀ a,H2 a = none->c.H0 a = none) ->
 (i = xs.length->J.stop i H2)/\∀ d,xs[i]? = some d->J.go i H2/\∀ x H3,J.yld i H2 x H3->∃ G3,Stp c.β H2 G2 H3 G3/\Rep c G3 d x
def tDI (c:Bk) (I:WL):TI:=λσ H R=>∃ ρ G,Rel c ρ σ H G/\I ρ λxs=>∀ J H' G',Stp c.β H G H' G'->ItOk c J xs G'->R J H'
structure DI (X:Cx) (c:Bk) (tg iter:Expr) (I:WL):Prop where
 mono:zcS I
 pi:PI X tg iter (tDI c I)
section
variable {X:Cx} {c:Bk} {tg e a b:Expr} {A B:WE} {pos p:Pos}
theorem zmK (h:PI X tg e wi) (k:∀ σ H R,wi' σ H R->wi σ H R):PI X tg e wi':=λpins s σ H R I q=>h pins s σ H R I (k σ H R q)
theorem zpi   (hl:G l = some (.lst vs)) (h:Reps c G xs vs):ItOk c (Itl c.K l) xs G:=by
 intro i H2 G2 s1 s2 bx h0;have q:SqL c.K H2 l vs:=SqL.of (s2 _ _ (s1 _ _ hl));refine ⟨λe=>⟨vs,q,by rw [e,h.length];exact YAm _⟩,λd e=>?_⟩;obtain ⟨v,e1,e2⟩:=h.get e;refine ⟨⟨vs,v,q,e1⟩,λx H3 y=>?_⟩;obtain ⟨rfl,y⟩:=y
 have:=y vs q
 rw [e1] at this;cases this;exact ⟨G2,Stp.refl s2 bx,e2.mono s1⟩
theorem zqd   (hl:SqT c.K G l vs) (h:Reps c G xs vs):ItOk c (Itt c.K l) xs G:=by
 intro i H2 G2 s1 s2 bx h0;have q:SqT c.K H2 l vs:=zaM (s1.trans s2) hl;refine ⟨λe=>⟨vs,q,by rw [e,h.length];exact YAm _⟩,λd e=>?_⟩;obtain ⟨v,e1,e2⟩:=h.get e;refine ⟨⟨vs,v,q,e1⟩,λx H3 y=>?_⟩;obtain ⟨rfl,y⟩:=y
 have:=y vs q
 rw [e1] at this;cases this;exact ⟨G2,Stp.refl s2 bx,e2.mono s1⟩
@[reducible] def seqI (A:WE):WL:=λρ Q=>A ρ λd=>seqD d Q
theorem zbp (hA:DE X c e A) (hK:c.K = X.K:=by rfl):DI X c tg e (seqI A) where
 mono:=λρ Q Q' k q=>hA.mono ρ _ _ (λd z=>zdO k z) q
 pi:=zmK (zqq hA.pe) λσ H R ⟨ρ,G,r,q⟩=>⟨ρ,G,r,hA.mono ρ _ _ (λd z v H' G' t e=>by
  cases d with
  | lst n xs=>
   obtain ⟨l,vs,rfl,hl,_,hv⟩:=e;exact ⟨l,rfl,.inl ⟨⟨vs,SqL.of (t.gh _ _ hl)⟩,z _ H' G' t (hK ▸ zpi hl hv)⟩⟩
  | tup xs=>
   obtain ⟨l,vs,rfl,hl,hv⟩:=e;exact ⟨l,rfl,.inr ⟨⟨vs,hK ▸ zaM t.gh hl⟩,z _ H' G' t (hK ▸ zqd hl hv)⟩⟩
  | _=>exact z.elim) q⟩
def rngL (m:Int) (n:Nat):List D:=(List.range n).map λ(k:Nat)=>D.int (m + (k:Int))
theorem it_rng (m:Int) (n:Nat):ItOk c (Itr m n) (rngL m n) G:=by
 intro i H2 G2 s1 s2 bx h0;refine ⟨λe=>by show n <= i;unfold rngL at e;simp at e;omega,λd e=>?_⟩;unfold rngL at e;rw [YAu] at e;have hi:i < n:=by
  by_cases h:i < n
  ·exact h
  ·rw [List.getElem?_eq_none (by simp;omega)] at e;cases e
 rw [List.getElem?_range hi] at e;cases e;exact ⟨hi,λx H3 ⟨y1,y2⟩=>⟨G2,by rw [y1];exact Stp.refl s2 bx,y2⟩⟩
def zf1 (A:WE):WL:=λρ Q=>A ρ λd=>match d with | .int n=>(-(2 ^ 62) <= n/\n < 2 ^ 62)/\Q (rngL 0 n.toNat) | _=>False
theorem zdP (hA:DE X c a A) (hg:Gl X "range" := by rfl) (hs:starEach [a] X.env = [(false,eval a X.env)]:=by rfl) (hm:X.mg "range" = none:=by decreasing_trivial):DI X c tg (.Call (.Name "range" p) [a] [] pos) (zf1 A) where
 mono:=λρ Q Q' k q=>hA.mono ρ _ _ (λd z=>by cases d <;> first | exact ⟨z.1,k _ z.2⟩ | exact z) q
 pi:=zmK (zfo hg hm (zah hA.pe zat hs) hs) λσ H R ⟨ρ,G,r,q⟩=>⟨ρ,G,r,hA.mono ρ _ _ (λd z v H' G' t e=>by
  cases d with
  | int n=>exact ⟨n,by cases e;rfl,z.1.1,z.1.2,z.2 _ H' G' t (it_rng 0 _)⟩
  | _=>exact z.elim) q⟩
def zipL:List D->List D->List D
 | x :: xs,y :: ys=>.tup [x,y] :: zipL xs ys
 | _,_=>[]
theorem zke:∀ {xs ys:List D} {i:Nat} {d:D},(zipL xs ys)[i]? = some d->∃ x y,xs[i]? = some x/\ys[i]? = some y/\d = .tup [x,y]
 | x :: xs,y :: ys,0,d,e=>by simp [zipL] at e;exact ⟨x,y,rfl,rfl,e.symm⟩
 | x :: xs,y :: ys,i + 1,d,e=>by simp [zipL] at e;simpa using zke e
 | [],_,_,_,e=>by simp [zipL] at e
 | _ :: _,[],_,_,e=>by simp [zipL] at e
theorem zj1:∀ (xs ys:List D),(zipL xs ys).length = min xs.length ys.length
 | [],_=>by simp [zipL]
 | _ :: _,[]=>by simp [zipL]
 | x :: xs,y :: ys=>by simp [zipL,zj1 xs ys]
end
def zbO (t:Tg) (B:WS) (E:En):List D->Env->Prop
 | [],ρ=>E.nx ρ
 | x :: xs,ρ=>gD t x ρ λρ'=>B { nx:=zbO t B E xs,ct:=zbO t B E xs,bk:=E.nx,rt:=E.rt } ρ'
@[reducible] def forW (I:WL) (t:Tg) (B:WS):WS:=λE ρ=>I ρ λxs=>zbO t B E xs ρ
theorem zfd  (mB:zla B) (l:En.Le E E'):∀ (xs:List D) (ρ:Env),zbO t B E xs ρ->zbO t B E' xs ρ
 | [],ρ,q=>l.nx ρ q
 | x :: xs,ρ,q=>zbj t x ρ (λρ' z=>mB { nx:=zbO t B E xs,ct:=zbO t B E xs,bk:=E.nx,rt:=E.rt } _ ρ' ⟨zfd mB l xs,l.rt,l.nx,zfd mB l xs⟩ z) q
section
variable {X:Cx} {c:Bk} {tg iter e:Expr} {body:List Stmt} {pos p:Pos}
theorem zen (t:Tg) (hI:DI X c tg iter I) (hg:PG X tg (gOf c.K t)) (hB:DSs X c body B) (hp:PassesOwn (model X.prog X.w) X.A X.env X.xe:=by exact YBm) (hc:X.calm = true:=by rfl) (hs:∀ x,foldedSetIterable iter X.env x = pure x:=by intro _;rfl) :
  DS X c (.For tg iter body [] pos) (forW I t B) where
 mono:=λE E' ρ l q=>hI.mono ρ _ _ (λxs z=>zfd hB.mono l xs ρ z) q
 ps:=zbV (zd2 hp hc hI.pi hg hB.pss hs) λD σ H ⟨ρ,G,r,q⟩=>⟨ρ,G,r,hI.mono ρ _ _ (λxs z J H1 G1 t1 it=>by
  refine ⟨λi m σ H=>m = xs.length - i/\i <= xs.length/\∃ ρ' G',Rel c ρ' σ H G'/\Same G1 G'/\zbO t B (ends c G D) (xs.drop i) ρ',⟨xs.length,rfl,YAF _,ρ,G1,r.step t1,Same.refl _,z⟩,?_⟩;rintro i m σ' H' ⟨rfl,hi,ρ',G',r',s',q'⟩;have ok:=it i H' G' s' r'.gh r'.bx (λa z=>r'.new0 z);by_cases hlt:i < xs.length
  ·refine .inr ?_;have ed:xs.drop i = xs[i] :: xs.drop (i + 1):=YAT hlt;rw [ed] at q';obtain ⟨go,yl⟩:=ok.2 xs[i] (YAe hlt);refine ⟨go,λσ H=>∃ ρ' G',Rel c ρ' σ H G'/\Same G1 G'/\zbO t B (ends c G D) (xs.drop (i + 1)) ρ',λσ2 H2 h=>⟨xs.length - (i + 1),by omega,rfl,by omega,h⟩,λx H3 y=>?_⟩;obtain ⟨G3,t3,e3⟩:=yl x H3 y;refine zdA t xs[i] x ρ' σ' (r'.step t3) e3 (zbj t xs[i] ρ' (λρ2 z2 σ2 r2=>?_) q');refine ⟨ρ2,G3,r2,hB.mono { nx:=zbO t B (ends c G D) (xs.drop (i + 1)),ct:=zbO t B (ends c G D) (xs.drop (i + 1)),bk:=(ends c G D).nx,rt:=(ends c G D).rt } _ ρ2 ⟨λρ3 z3 σ3 H4 G4 r4 s4=>⟨ρ3,G4,r4,(s'.trans t3.gg).trans s4,z3⟩,λd z=>z,λρ3 z3 σ3 H4 G4 r4 s4=>z3 σ3 H4 G4 r4 (((t1.gg.trans s').trans t3.gg).trans s4),λρ3 z3 σ3 H4 G4 r4 s4=>⟨ρ3,G4,r4,(s'.trans t3.gg).trans s4,z3⟩⟩ z2⟩
  ·have e:i = xs.length:=by omega
   subst e;rw [YBJ] at q';exact .inl ⟨ok.1 rfl,q' σ' H' G' r' (t1.gg.trans s')⟩) q⟩
def zaH (n:Nat) (ds:List D):Env:=ds.map (λd=>Sl.val d.old) ++ List.replicate (n - ds.length) .un
def fnW (n:Nat) (B:WS):Fn:=λds Q=>B { nx:=λ_=>Q .non,rt:=Q,bk:=λ_=>False,ct:=λ_=>False } (zaH n ds)
theorem zkH    (gh:Same G H) (bx:BoxD β H G) (h:Reps ⟨K,β,λ_=>none,G⟩ G ds vs):Rel ⟨K,β,H,G⟩ (zaH N.length ds) (L2.start N vs) H G:=by
 have noOwn:∀ (i:Nat) xs,(zaH N.length ds)[i]? ≠ some (.own xs):=λi xs e=>by
  unfold zaH at e;by_cases hi:i < ds.length
  ·rw [List.getElem?_append_left (by simpa using hi),YAu,YAe hi] at e;cases e
  ·rw [List.getElem?_append_right (by simpa using hi),List.getElem?_replicate] at e;split at e <;> cases e
 refine ⟨by unfold zaH L2.start;simp [h.length],Stp.refl gh bx,λi s e=>?_,λi j a xs ys e1=>absurd e1 (noOwn i xs)⟩;unfold zaH at e;by_cases hi:i < ds.length
 ·rw [List.getElem?_append_left (by simpa using hi),YAu] at e;obtain ⟨v,e1,e2⟩:=h.get (YAe hi);rw [YAe hi] at e;cases e;refine ⟨v,?_,Rep.hand (c:=⟨K,β,λ_=>none,G⟩) (c':=⟨K,β,H,G⟩) rfl rfl e2⟩;unfold L2.start;rw [List.getElem?_append_left (by rw [YAd,<- h.length];exact hi),YAu,e1];rfl
 ·rw [List.getElem?_append_right (by simpa using hi),List.getElem?_replicate] at e;split at e <;> cases e
  trivial
theorem zbv       (F:Fun K x qual st f fd)
  (hB:∀ {cdv:Value} {A:Around} {outer:List PySem.Env} {s:Shared} {H:Hp} {E:XK} {β:Addr} {G:Hp},N.Nodup->Room k (A.deeper (PyProof.Rows.envOfC qual (zas st) s.heap.objs.size f cdv)) ->
   DSs (cxOf CX0 P w K mg base N qual (zas st) f cdv A outer s H E).nox ⟨K,β,H,G⟩ (zbZ st) B) (S:FnScope N ps (zas st):=by exact ⟨rfl,rfl,rfl,by decide +kernel,rfl,by decide +kernel,by decide +kernel⟩):FnOk P w K mg base CX0 (k + 1) f fd ps (spD K ps.length (fnW N.length B)):=by
 refine F.ok S (λvs H Q E ⟨β,G,ds,_,_,_,h,_⟩=>h) (λcdv A outer s H vs Q E hr ⟨β,G,ds,gh,bx,hv,hl,P',q,hP⟩=>?_);have h:=@hB cdv A outer s H E β G S.nd hr;refine ⟨_,h.pss,zaH N.length ds,G,zkH gh bx hv,h.mono { nx:=λ_=>P' .non,rt:=P',bk:=λ_=>False,ct:=λ_=>False } _ _ ⟨λρ z σ H' G' r s'=>hP _ z .non H' G' r.stp rfl,λd z v H' G' t e=>hP _ z v H' G' t e,λρ z=>z.elim,λρ z=>z.elim⟩ q⟩
end
section
variable {X:Cx} {c:Bk} {a b:Expr} {A B:WE} {pos p tpos:Pos} {es:List Expr}
def zipI (A B:WE):WL:=λρ Q=>A ρ λx=>B ρ λy=>match x,y with
 | .lst _ xs,.lst _ ys=>Q (zipL xs ys)
 | .tup xs,.tup ys=>Q (zipL xs ys)
 | _,_=>False
theorem zox   (hl:SQ tp c.K G l vs) (hm:SQ tp c.K G m ws) (hv:Reps c G xs vs) (hw:Reps c G ys ws):ItOk c (Itz2 tp c.K l m) (zipL xs ys) G:=by
 intro i H2 G2 s1 s2 bx h0;have up:∀ {l vs},SQ tp c.K G l vs->SQ tp c.K H2 l vs:=λ{l vs} h=>by
  cases tp
  ·exact (s1.trans s2).seq h
  ·exact zaM (s1.trans s2) h
 have ql:=up hl;have qm:=up hm;refine ⟨λe=>⟨vs,ws,ql,qm,by rw [e,zj1,hv.length,hw.length]⟩,λd e=>?_⟩;obtain ⟨x,y,ex,ey,rfl⟩:=zke e;obtain ⟨v,e1,r1⟩:=hv.get ex;obtain ⟨w,e2,r2⟩:=hw.get ey;refine ⟨⟨vs,ws,v,w,ql,qm,e1,e2⟩,λz H3 yl=>?_⟩;obtain ⟨t,x',y',ht,rfl,rfl,f1,f2⟩:=yl;have g1:=f1 vs ql;have g2:=f2 ws qm;rw [e1] at g1;cases g1;rw [e2] at g2;cases g2;have sg:Same G2 (upd G2 t (.tup [v,w])):=zbX (zap s2 ht);exact ⟨_,Stp.new s2 bx ht,t,[v,w],rfl,SqT.of zad,⟨v,[w],rfl,(r1.mono s1).mono sg,w,[],rfl,(r2.mono s1).mono sg,rfl⟩⟩
theorem zr7 (hA:DE X c a A) (hB:DE X c b B) (hg:Gl X "zip" := by rfl) (hs:starEach [a,b] X.env = [(false,eval a X.env),(false,eval b X.env)]:=by rfl) (hs2:starEach [b] X.env = [(false,eval b X.env)]:=by rfl) (hK:c.K = X.K:=by rfl) (hm:X.mg "zip" = none:=by decreasing_trivial) :
  DI X c (.Tuple es x1 tpos) (.Call (.Name "zip" p) [a,b] [] pos) (zipI A B) where
 mono:=λρ Q Q' k q=>hA.mono ρ _ _ (λx z=>hB.mono ρ _ _ (λy z'=>by cases x <;> cases y <;> first | exact k _ z' | exact z') z) q
 pi:=zmK (zpN hg hm (zah hA.pe (zah hB.pe zat hs2) (by rw [hs,hs2])) hs hs2) λσ H R ⟨ρ,G,r,q⟩=>⟨ρ,G,r,hA.mono ρ _ _ (λx z v H1 G1 t1 e1=>⟨ρ,G1,r.step t1,hB.mono ρ _ _ (λy z' w H2 G2 t2 e2=>by
  have e1':=e1.mono t2.gg;cases x with
  | lst n xs=>cases y with
   | lst m ys=>
    obtain ⟨l,vs,rfl,hl,_,hv⟩:=e1';obtain ⟨k,ws,rfl,hk,_,hw⟩:=e2;exact ⟨false,l,k,vs,ws,rfl,SqL.of (t2.gh _ _ hl),SqL.of (t2.gh _ _ hk),z' _ H2 G2 (t1.trans t2) (hK ▸ zox (tp:=false) (SqL.of hl) (SqL.of hk) hv hw)⟩
   | _=>exact z'.elim
  | tup xs=>cases y with
   | tup ys=>
    obtain ⟨l,vs,rfl,hl,hv⟩:=e1';obtain ⟨k,ws,rfl,hk,hw⟩:=e2;exact ⟨true,l,k,vs,ws,rfl,hK ▸ zaM t2.gh hl,hK ▸ zaM t2.gh hk,z' _ H2 G2 (t1.trans t2) (hK ▸ zox (tp:=true) hl hk hv hw)⟩
   | _=>exact z'.elim
  | _=>exact z'.elim) z⟩) q⟩
end
def subE (sub:List (Option Nat)) (ρ:Env):Env:=sub.map λo=>match o with
 | some j=>(match ρ[j]? with | some (.val d)=>.val d | _=>.un)
 | none=>.un
theorem zgN   (sub:List (Option Nat)) (r:Rel c ρ σ H G):Rel c (subE sub ρ) (za8 sub σ) H G:=by
 have noOwn:∀ (i:Nat) xs,(subE sub ρ)[i]? ≠ some (.own xs):=λi xs e=>by
  unfold subE at e;rw [YAu] at e;cases h:sub[i]? with
  | none=>rw [h] at e;cases e
  | some o=>
   rw [h] at e;cases o with
   | none=>cases e
   | some j=>
    simp only [Option.map_some,Option.some.injEq] at e;split at e <;> cases e
 refine ⟨by unfold subE za8;simp,r.stp,λi s e=>?_,λi j a xs ys e1=>absurd e1 (noOwn i xs)⟩;unfold subE at e;rw [YAu] at e;cases h:sub[i]? with
 | none=>rw [h] at e;cases e
 | some o=>
  rw [h] at e;cases o with
  | none=>cases e;trivial
  | some j=>
   simp only [Option.map_some,Option.some.injEq] at e;split at e
   ·rename_i d hd
    subst e;obtain ⟨v,h1,h2⟩:=r.slot j _ hd;refine ⟨v,?_,h2⟩;unfold za8;rw [YAu,h];show some ((σ[j]?).join) = _;rw [h1];rfl
   ·subst e;trivial
mutual
def okT (sub:List (Option Nat)):Tg->Bool
 | .nm i=>decide (sub[i]? = some none)
 | .tp _ ts=>okTs sub ts
def okTs (sub:List (Option Nat)):Tgs->Bool
 | .nil=>true
 | .cons t ts=>okT sub t && okTs sub ts
end
mutual
theorem zhk (K:PySem.W.Frag):∀ t:Tg,zet (gOf K t)
 | .nm i=>by unfold gOf;exact zbk
 | .tp n ts=>by unfold gOf;exact zra (zj6 K ts)
theorem zj6 (K:PySem.W.Frag):∀ t:Tgs,zfQ (gsOf K t)
 | .nil=>by unfold gsOf;exact zer
 | .cons t ts=>by unfold gsOf;exact zby (zhk K t) (zj6 K ts)
end
mutual
theorem zmH (K:PySem.W.Frag) (sub:List (Option Nat)):∀ t:Tg,okT sub t = true->zeP sub (gOf K t)
 | .nm i,h=>by unfold gOf;unfold okT at h;exact zeB (YAM h)
 | .tp n ts,h=>by unfold gOf;unfold okT at h;exact zp2 (zoG K sub ts h)
theorem zoG (K:PySem.W.Frag) (sub:List (Option Nat)):∀ t:Tgs,okTs sub t = true->zgd sub (gsOf K t)
 | .nil,_=>by unfold gsOf;exact zlX
 | .cons t ts,h=>by
  unfold gsOf;unfold okTs at h;have h':=(YAL _ _ ▸ h:okT sub t = true/\okTs sub ts = true);exact zdQ (zmH K sub t h'.1) (zhk K t) (zoG K sub ts h'.2) (zj6 K ts)
end
def zbg (t:Tg) (C:WT) (E:WE) (ρc:Env) (Q:List D->Prop):List D->List D->Prop
 | [],acc=>Q acc
 | x :: xs,acc=>gD t x ρc λρ2=>C ρ2 λb=>if b = true then E ρ2 λd=>zbg t C E ρc Q xs (acc ++ [d]) else zbg t C E ρc Q xs acc
theorem zdj  (mC:zdC C) (mE:za9 E)  (k:∀ xs,Q xs->Q' xs):∀ xs acc,zbg t C E ρc Q xs acc->zbg t C E ρc Q' xs acc
 | [],acc,q=>k _ q
 | x :: xs,acc,q=>zbj t x ρc (λρ2 z=>mC ρ2 _ _ (λb z=>by
  cases b
  ·exact zdj mC mE k xs acc z
  ·exact mE ρ2 _ _ (λd z=>zdj mC mE k xs _ z) z) z) q
@[reducible] def zaE (sub:List (Option Nat)) (I:WL) (t:Tg) (C:WT) (E:WE):WL:=λρ Q=>I ρ λxs=>xs.length <= 100000/\zbg t C E (subE sub ρ) Q xs []
theorem zf8   (mI:zcS I) (mC:zdC C) (mE:za9 E):zcS (zaE sub I t C E):=λρ Q Q' k q=>mI ρ _ _ (λxs z=>⟨z.1,zdj mC mE k xs [] z.2⟩) q
theorem Stp.wr  (s:Stp β H G H' G')  (h0:H l = none) (hg:G' l = none) (hb:l ≠ β):Stp β H G (upd H' l o) G':=
 ⟨s.gg,λa u e=>by rw [zaf (λz=>by rw [z,hg] at e;cases e)];exact s.gh a u e,λa u n e=>by rw [zaf (λz=>by rw [z,h0] at e;cases e)];exact s.fr a u n e,s.nw,
 ⟨by obtain ⟨cc,p,r,d,ns,h,q⟩:=s.bx.ex;exact ⟨cc,p,r,d,ns,by rw [zaf (Ne.symm hb)];exact h,q⟩,s.bx.still⟩,s.b0⟩
theorem Stp.still_none  (s:Stp β H G H' G')  (h:H l = some o) (hg:G l = none) (hs:¬ zoo o:=by exact id):G' l = none:=by
 cases e:G' l with
 | none=>rfl
 | some u=>
  rcases s.nw l (by rw [e];simp) with z | z | ⟨o',z,st⟩
  ·exact absurd hg z
  ·rw [h] at z;cases z
  ·rw [h] at z;cases z;exact absurd st hs
theorem zis    (mI:zcS I) (mC:zdC C) (mE:za9 E) (σ:St) (H:Hp) (Q:VK) (h:tDf c (zaE sub I t C E) σ H Q) :
  zmN sub (tDI c I) (gOf c.K t) (tDt c C) (tD c E) σ H Q:=by
 obtain ⟨ρ,G,r,q⟩:=h;refine ⟨ρ,G,r,mI ρ _ _ (λxs ⟨hz,z⟩ J H1 G1 t1 it l hl=>?_) q⟩;have hb:l ≠ c.β:=(r.step t1).neβ hl;have hg1:G1 l = none:=zap t1.gh hl;refine ⟨λi m ys H2=>m = xs.length - i/\i <= xs.length/\ys.length <= i/\H2 l = some (.lst ys)/\∃ G2 acc,Stp c.β H1 G1 H2 G2/\G2 l = none/\Reps c G2 acc ys /\
  zbg t C E (subE sub ρ) (λds=>∀ l vs H' G',Stp c.β H G H' G'->H' l = some (.lst vs)->G' l = none->H l = none->Reps c G' ds vs->Q (.ref l) H') (xs.drop i) acc,
  ⟨xs.length,rfl,YAF _,YAm _,zad,G1,[],Stp.own t1.gh t1.bx hl,hg1,rfl,z⟩,?_⟩
 rintro i m ys H2 ⟨rfl,hi,hyl,h2,G2,acc,t2,hg2,hv,q2⟩;refine ⟨h2,?_⟩;have r2:=(r.step t1).step t2;have ok:=it i H2 G2 t2.gg t2.gh t2.bx (λa z=>r2.new0 z);by_cases hlt:i < xs.length
 ·refine .inr ?_;rw [YAT hlt] at q2;obtain ⟨go,yl⟩:=ok.2 xs[i] (YAe hlt);refine ⟨go,λys' H3=>ys'.length <= i + 1/\H3 l = some (.lst ys')/\∃ G3 acc',Stp c.β H1 G1 H3 G3/\G3 l = none/\Reps c G3 acc' ys'/\zbg t C E (subE sub ρ) (λds=>∀ l vs H' G',Stp c.β H G H' G'->H' l = some (.lst vs)->G' l = none->H l = none->Reps c G' ds vs->Q (.ref l) H') (xs.drop (i + 1)) acc',
   λys' H3 ⟨a1,a2,a3⟩=>⟨xs.length - (i + 1),by omega,rfl,by omega,a1,a2,a3⟩,λx H3 y=>?_⟩
  obtain ⟨G3,t3,e3⟩:=yl x H3 y;have h3:H3 l = some (.lst ys):=t3.fr l _ hb h2;have hg3:G3 l = none:=t3.still_none h2 hg2;have t13:=t2.trans t3;refine zdA t xs[i] x (subE sub ρ) (za8 sub σ) (zgN sub ((r.step t1).step t13)) e3 (zbj t xs[i] _ (λρ2 z2 σ2 rr=>?_) q2);refine ⟨ρ2,G3,rr,mC ρ2 _ _ (λb z3 H4 G4 t4=>?_) z2⟩;have h4:H4 l = some (.lst ys):=t4.fr l _ hb h3;have hg4:G4 l = none:=t4.still_none h3 hg3;have t14:=t13.trans t4;cases b
  ·exact ⟨Nat.le_succ_of_le hyl,h4,G4,acc,t14,hg4,(hv.mono t3.gg).mono t4.gg,z3⟩
  ·refine ⟨ρ2,G4,rr.step t4,mE ρ2 _ _ (λd z4 y H5 G5 t5 e5=>?_) z3⟩;have h5:H5 l = some (.lst ys):=t5.fr l _ hb h4;have hg5:G5 l = none:=t5.still_none h4 hg4;refine ⟨h5,?_,by rw [YAs];exact Nat.add_le_add_right hyl 1,zad,G5,acc ++ [d],(t14.trans t5).wr hl hg5 hb,hg5,(((hv.mono t3.gg).mono t4.gg).mono t5.gg).append (.one e5),z4⟩
   have:=small5 (YAm 100000)
   omega
 ·have e:i = xs.length:=by omega
  subst e;rw [YBJ] at q2;exact .inl ⟨ok.1 rfl,q2 l ys H2 G2 (t1.trans t2) h2 hg2 (t1.free hl) hv⟩
structure DIf (X:Cx) (c:Bk) (ifs:List Expr) (C:WT):Prop where
 mono:zdC C
 pf:PIfs X ifs (tDt c C)
@[reducible] def noIf:WT:=λ_ Q=>Q true
section
variable {X:Cx} {c:Bk} {tg iter elt e:Expr} {ifs:List Expr} {scope:Scope} {pos p spos:Pos} {Nc:List Str} {sub:List (Option Nat)} {I:WL} {C:WT} {E:WE}
theorem zaP:DIf X c [] noIf:=⟨λρ Q Q' k q=>k _ q,λpins s σ H Q I ⟨ρ,G,r,q⟩=>pif0 pins s σ H Q I (q H G r.refl)⟩
theorem zkq (h:DT X c e C):DIf X c [e] C:=⟨h.mono,pif1 h.pt⟩
theorem zaQ (t:Tg) (hI:DI X c tg iter I) (hg:∀ {cl L s0 H0 ex},PG (zan X Nc scope cl L s0 H0 ex) tg (gOf c.K t)) (hC:∀ {cl L s0 H0 ex},DIf (zan X Nc scope cl L s0 H0 ex) c ifs C) (hE:∀ {cl L s0 H0 ex},DE (zan X Nc scope cl L s0 H0 ex) c elt E)
  (hS:zge X.N X.env.scope scope Nc sub = true:=by kernel_rfl) (hok:okT sub t = true:=by decide +kernel) (hc:X.calm = true:=by rfl) (hs:∀ x,foldedSetIterable iter X.env x = pure x:=by intro _;rfl) :
  DF X c (.ListComp elt [⟨tg,iter,ifs,0⟩] scope pos) (zaE sub I t C E):=
 have mC:=(@hC [] 0 X.s₀ (λ_=>none) []).mono;have mE:=(@hE [] 0 X.s₀ (λ_=>none) []).mono
 ⟨zf8 hI.mono mC mE,zaR (zjX hc (CompScope.of hS) hI.pi (λcl L s0 H0 ex=>@hg cl L s0 H0 ex) (zmH c.K sub t hok) (zhk c.K t) (λcl L s0 H0 ex=>(@hC cl L s0 H0 ex).pf) (λcl L s0 H0 ex=>(@hE cl L s0 H0 ex).pe) hs) (zis hI.mono mC mE)⟩
theorem zoz (i:Nat) (t:Tg) (hI:DI X c tg iter I) (hg:∀ {cl L s0 H0 ex},PG (zan X Nc scope cl L s0 H0 ex) tg (gOf c.K t)) (hC:∀ {cl L s0 H0 ex},DIf (zan X Nc scope cl L s0 H0 ex) c ifs C) (hE:∀ {cl L s0 H0 ex},DE (zan X Nc scope cl L s0 H0 ex) c elt E) (hi:X.N[i]? = some x:=by rfl) (hy:X.env.scope.names.lookup x = some .local:=by rfl) (hS:zge X.N X.env.scope scope Nc sub = true:=by kernel_rfl) (hok:okT sub t = true:=by decide +kernel) (hc:X.calm = true:=by rfl) (hsw:swapsWith (.ListComp elt [⟨tg,iter,ifs,0⟩] scope pos) (some (.Name x p)) spos.line X.env = pure true:=by rfl) (hs:∀ x,foldedSetIterable iter X.env x = pure x:=by intro _;rfl) (hN:X.N.Nodup:=by decreasing_trivial) :
  DS X c (.Assign [.Name x p] (.ListComp elt [⟨tg,iter,ifs,0⟩] scope pos) spos) (asgW (.nm i) (valW (zaE sub I t C E))):=by
 have mC:=(@hC [] 0 X.s₀ (λ_=>none) []).mono;have mE:=(@hE [] 0 X.s₀ (λ_=>none) []).mono;have mL:=zf8 (sub:=sub) (t:=t) hI.mono mC mE;have mV:za9 (valW (zaE sub I t C E)):=λρ Q Q' k q=>mL ρ _ _ (λxs z=>k _ z) q;refine ⟨zeU mV,zbV (zl0 hc hN hi hy (CompScope.of hS) hI.pi (λcl L s0 H0 ex=>@hg cl L s0 H0 ex) (zmH c.K sub t hok) (zhk c.K t) (λcl L s0 H0 ex=>(@hC cl L s0 H0 ex).pf) (λcl L s0 H0 ex=>(@hE cl L s0 H0 ex).pe) hsw hs) λD σ H ⟨ρ,G,r,q⟩=>?_⟩;refine zis hI.mono mC mE σ H _ ⟨ρ,G,r,mL ρ _ _ (λxs z l vs H' G' t hl hg h0 hv=>?_) q⟩;have hb:=r.neβ h0;exact z (σ.set i (some (.ref l))) H' (upd G' l (.lst vs)) ((r.step (t.still hl h0 hb hg)).put ⟨l,vs,rfl,zad,λ_=>r.new0 h0,hv.mono (zbX hg)⟩) (t.gg.trans (zbX hg))
def zc9 (t:Tg) (C:WT) (E:WE) (ρc:Env) (Q:List Int->Prop):List D->List Int->Prop
 | [],acc=>Q acc
 | x :: xs,acc=>gD t x ρc λρ2=>C ρ2 λb=>if b = true then E ρ2 λd=>intD d λk=>zc9 t C E ρc Q xs (k :: acc) else zc9 t C E ρc Q xs acc
theorem zdy  (mC:zdC C) (mE:za9 E)  (k:∀ xs,Q xs->Q' xs):∀ xs acc,zc9 t C E ρc Q xs acc->zc9 t C E ρc Q' xs acc
 | [],acc,q=>k _ q
 | x :: xs,acc,q=>zbj t x ρc (λρ2 z=>mC ρ2 _ _ (λb z=>by
  cases b
  ·exact zdy mC mE k xs acc z
  ·exact mE ρ2 _ _ (λd z=>zik (λm z=>zdy mC mE k xs _ z) z) z) z) q
@[reducible] def zi1 (sub:List (Option Nat)) (I:WL) (t:Tg) (C:WT) (E:WE):WL:=λρ Q=>I ρ λxs=>xs.length < 64/\zc9 t C E (subE sub ρ) (λns=>Q ((zbt ns).map D.int)) xs []
theorem zjr (mI:zcS I) (mC:zdC C) (mE:za9 E):zcS (zi1 sub I t C E):=λρ Q Q' k q=>mI ρ _ _ (λxs z=>⟨z.1,zdy mC mE (λns z=>k _ z) xs [] z.2⟩) q
theorem zod (t:Tg) (hI:DI X c tg iter I) (hg:∀ {cl L s0 H0 ex},PG (zan X Nc scope cl L s0 H0 ex) tg (gOf c.K t)) (hC:∀ {cl L s0 H0 ex},DIf (zan X Nc scope cl L s0 H0 ex) c ifs C) (hE:∀ {cl L s0 H0 ex},DE (zan X Nc scope cl L s0 H0 ex) c elt E) (hS:zge X.N X.env.scope scope Nc sub = true:=by kernel_rfl) (hok:okT sub t = true:=by decide +kernel) (hc:X.calm = true:=by rfl) (hs:∀ x,foldedSetIterable iter X.env x = pure x:=by intro _;rfl) (hgl:Gl X "sorted" := by rfl) (hm:X.mg "sorted" = none:=by decreasing_trivial) :
  DF X c (.Call (.Name "sorted" p) [.SetComp elt [⟨tg,iter,ifs,0⟩] scope pos] [] spos) (zi1 sub I t C E):=by
 have mC:=(@hC [] 0 X.s₀ (λ_=>none) []).mono;have mE:=(@hE [] 0 X.s₀ (λ_=>none) []).mono;refine ⟨zjr hI.mono mC mE,zaR (zbz (zcT hc) hgl hm PyProof.Rows.boot_sorted (zah (znd hc (CompScope.of hS) hI.pi (λcl L s0 H0 ex=>@hg cl L s0 H0 ex) (zmH c.K sub t hok) (zhk c.K t) (λcl L s0 H0 ex=>(@hC cl L s0 H0 ex).pf) (λcl L s0 H0 ex=>(@hE cl L s0 H0 ex).pe) hs) zat) (by decide) (by decide) rfl rfl) λσ H Q ⟨ρ,G,r,q⟩=>?_⟩;refine ⟨ρ,G,r,hI.mono ρ _ _ (λxs ⟨hz,z⟩ J H1 G1 t1 it l hl=>?_) q⟩;have hsc:=zl5;have hb:l ≠ c.β:=(r.step t1).neβ hl;have hg1:G1 l = none:=zap t1.gh hl;refine ⟨λi m ys H2=>m = xs.length - i/\i <= xs.length/\ys.length <= i/\H2 l = some (SetO X.w l ys)/\∃ G2,Stp c.β H1 G1 H2 G2/\G2 l = none /\
  zc9 t C E (subE sub ρ) (λns=>∀ l vs H' G',Stp c.β H G H' G'->H' l = some (.lst vs)->G' l = none->H l = none->Reps c G' ((zbt ns).map D.int) vs->Q (.ref l) H') (xs.drop i) ys,
  ⟨xs.length,rfl,YAF _,YAm _,zad,G1,Stp.own t1.gh t1.bx hl,hg1,z⟩,?_⟩
 rintro i m ys H2 ⟨rfl,hi,hyl,h2,G2,t2,hg2,q2⟩;refine ⟨h2,?_⟩;have r2:=(r.step t1).step t2;have ok:=it i H2 G2 t2.gg t2.gh t2.bx (λa z=>r2.new0 z);by_cases hlt:i < xs.length
 ·refine .inr ?_;rw [YAT hlt] at q2;obtain ⟨go,yl⟩:=ok.2 xs[i] (YAe hlt);refine ⟨go,λys' H3=>ys'.length <= i + 1/\H3 l = some (SetO X.w l ys')/\∃ G3,Stp c.β H1 G1 H3 G3/\G3 l = none/\zc9 t C E (subE sub ρ) (λns=>∀ l vs H' G',Stp c.β H G H' G'->H' l = some (.lst vs)->G' l = none->H l = none->Reps c G' ((zbt ns).map D.int) vs->Q (.ref l) H') (xs.drop (i + 1)) ys',
   λys' H3 ⟨a1,a2,a3⟩=>⟨xs.length - (i + 1),by omega,rfl,by omega,a1,a2,a3⟩,λx H3 y=>?_⟩
  obtain ⟨G3,t3,e3⟩:=yl x H3 y;have h3:H3 l = some (SetO X.w l ys):=t3.fr l _ hb h2;have hg3:G3 l = none:=t3.still_none h2 hg2;have t13:=t2.trans t3;refine zdA t xs[i] x (subE sub ρ) (za8 sub σ) (zgN sub ((r.step t1).step t13)) e3 (zbj t xs[i] _ (λρ2 z2 σ2 rr=>?_) q2);refine ⟨ρ2,G3,rr,mC ρ2 _ _ (λb z3 H4 G4 t4=>?_) z2⟩;have h4:H4 l = some (SetO X.w l ys):=t4.fr l _ hb h3;have hg4:G4 l = none:=t4.still_none h3 hg3;have t14:=t13.trans t4;cases b
  ·exact ⟨Nat.le_succ_of_le hyl,h4,G4,t14,hg4,z3⟩
  ·refine ⟨ρ2,G4,rr.step t4,mE ρ2 _ _ (λd z4 y H5 G5 t5 e5=>?_) z3⟩;have h5:H5 l = some (SetO X.w l ys):=t5.fr l _ hb h4;have hg5:G5 l = none:=t5.still_none h4 hg4;cases d with
   | int k=>exact ⟨k,e5,h5,by omega,Nat.add_le_add_right hyl 1,zad,G5,(t14.trans t5).wr hl hg5 hb,hg5,z4⟩
   | _=>exact z4.elim
 ·have e:i = xs.length:=by omega
  subst e;rw [YBJ] at q2;refine .inl ⟨ok.1 rfl,l,ys,rfl,h2,by omega,λl3 ms hl3 up mem=>?_⟩;rw [zqX up mem];have t3:=t1.trans t2;exact q2 l3 _ _ G2 (t3.trans (Stp.own t2.gh t2.bx hl3)) zad (zap t2.gh hl3) (t3.free hl3) (reps_ints.mpr rfl)
end
def NoOwn (ρ:Env):Prop:=∀ (i:Nat) xs,ρ[i]? ≠ some (.own xs)
theorem NoOwn.set (h:NoOwn ρ) (i:Nat) (d:D):NoOwn (ρ.set i (.val d)):=λj xs e=>by
 by_cases z:i = j
 ·subst z;by_cases hl:i < ρ.length
  ·rw [YAI hl] at e;cases e
  ·rw [List.getElem?_eq_none (by simpa using hl)] at e;cases e
 ·rw [YAG z] at e;exact h j xs e
mutual
theorem zki:∀ (t:Tg) (d:D) (ρ:Env) {Q:Env->Prop},NoOwn ρ->gD t d ρ Q->gD t d ρ λρ'=>Q ρ'/\NoOwn ρ'
 | .nm i,d,ρ,Q,k,q=>by unfold gD at q ⊢;exact ⟨q,k.set i d⟩
 | .tp n ts,.tup ds,ρ,Q,k,q=>by unfold gD at q ⊢;exact ⟨q.1,ze8 ts ds ρ k q.2⟩
 | .tp _ _,.non,_,_,_,q=>by unfold gD at q;exact q.elim
 | .tp _ _,.bl _,_,_,_,q=>by unfold gD at q;exact q.elim
 | .tp _ _,.int _,_,_,_,q=>by unfold gD at q;exact q.elim
 | .tp _ _,.str _,_,_,_,q=>by unfold gD at q;exact q.elim
 | .tp n ts,.lst _ ds,ρ,Q,k,q=>by unfold gD at q ⊢;exact ⟨q.1,ze8 ts ds ρ k q.2⟩
 | .tp _ _,.box,_,_,_,q=>by unfold gD at q;exact q.elim
theorem ze8:∀ (ts:Tgs) (ds:List D) (ρ:Env) {Q:Env->Prop},NoOwn ρ->gDs ts ds ρ Q->gDs ts ds ρ λρ'=>Q ρ'/\NoOwn ρ'
 | .nil,[],ρ,Q,k,q=>by unfold gDs at q ⊢;exact ⟨q,k⟩
 | .cons t ts,d :: ds,ρ,Q,k,q=>by
  unfold gDs at q ⊢;exact zbj t d ρ (λρ' z=>ze8 ts ds ρ' z.2 z.1) (zki t d ρ k q)
 | .nil,_ :: _,_,_,_,q=>by unfold gDs at q;exact q.elim
 | .cons _ _,[],_,_,_,q=>by unfold gDs at q;exact q.elim
end
theorem zkE (sub:List (Option Nat)) (ρ:Env):NoOwn (subE sub ρ):=λi xs e=>by
 unfold subE at e;rw [YAu] at e;cases h:sub[i]? with
 | none=>rw [h] at e;cases e
 | some o=>
  rw [h] at e;cases o with
  | none=>cases e
  | some j=>
   simp only [Option.map_some,Option.some.injEq] at e;split at e <;> cases e
theorem Rel.move   (r:Rel c ρ σ H G) (no:NoOwn ρ) (gg:Same G G') (t:Stp c.β c.H0 c.G0 H' G'):Rel c ρ σ H' G':=
 ⟨r.len,t,λi s e=>by
  cases s with
  | un=>trivial
  | val d=>obtain ⟨v,h1,h2⟩:=r.slot i _ e;exact ⟨v,h1,h2.mono gg⟩
  | own xs=>exact absurd e (no i xs),λi j a xs ys e=>absurd e (no i xs)⟩
mutual
def slT:Tg->List Nat
 | .nm i=>[i]
 | .tp _ ts=>slTs ts
def slTs:Tgs->List Nat
 | .nil=>[]
 | .cons t ts=>slT t ++ slTs ts
end
mutual
theorem zo8 (K:PySem.W.Frag):∀ (t:Tg) (v:V) (σ:St) (H:Hp) (Q:St->Hp->Prop),gOf K t v σ H Q->gOf K t v σ H λσ2 H2=>Q σ2 H2/\∀ i:Nat,i ∉ slT t->σ2[i]? = σ[i]?
 | .nm i,v,σ,H,Q,q=>by
  unfold gOf at q ⊢;refine ⟨q,λj hj=>?_⟩;unfold slT at hj;rw [YAG (λz=>hj (by simp [z]))]
 | .tp n ts,v,σ,H,Q,q=>by
  unfold gOf at q ⊢;obtain ⟨a,xs,e,s,l,q⟩:=q;exact ⟨a,xs,e,s,l,by unfold slT;exact zov K ts xs σ H Q q⟩
theorem zov (K:PySem.W.Frag):∀ (t:Tgs) (v:List V) (σ:St) (H:Hp) (Q:St->Hp->Prop),gsOf K t v σ H Q->gsOf K t v σ H λσ2 H2=>Q σ2 H2/\∀ i:Nat,i ∉ slTs t->σ2[i]? = σ[i]?
 | .nil,v,σ,H,Q,q=>by
  unfold gsOf at q ⊢;exact ⟨q.1,q.2,λ_ _=>rfl⟩
 | .cons t ts,v,σ,H,Q,q=>by
  unfold gsOf at q ⊢;obtain ⟨x,r,e,q⟩:=q;refine ⟨x,r,e,zhk K t _ _ _ _ _ (λσ2 H2 z=>?_) (zo8 K t _ _ _ _ q)⟩;refine zj6 K ts _ _ _ _ _ (λσ3 H3 y=>⟨y.1,λi hi=>?_⟩) (zov K ts _ _ _ _ z.1);unfold slTs at hi;rw [y.2 i (λh=>hi (YAo _ h)),z.2 i (λh=>hi (YAB _ h))]
end
def zoB (sub:List (Option Nat)) (t t2:Tg):Bool:=(slT t2).all λi=>decide (sub[i]? = some none) && !(slT t).contains i
theorem znJ  (h:zoB sub t t2 = true):zo7 sub (gOf K t) (gOf K t2):=λv σ H Q q=>by
 refine zhk K t _ _ _ _ _ (λσ2 H2 z=>⟨z.1,λσ' _ u H' Q' q'=>?_⟩) (zo8 K t _ _ _ _ q);refine zhk K t2 _ _ _ _ _ (λσ3 H3 y=>⟨y.1,λi v e=>?_⟩) (zo8 K t2 _ _ _ _ q');by_cases hi:i ∈ slT t2
 ·have:=YBi.mp h i hi
  rw [YAL] at this;obtain ⟨h1,h2⟩:=this;have h1:=YAM h1;have h2:i ∉ slT t:=by simpa using h2
  rw [z.2 i h2] at e;obtain ⟨j,e1,_⟩:=zcW e;rw [h1] at e1;cases e1
 ·rw [y.2 i hi];exact e
def zdc (t:Tg) (I2:WL) (t2:Tg) (C:WT) (E:WE) (ρc:Env) (Q:List D->Prop):List D->List D->Prop
 | [],acc=>Q acc
 | x :: xs,acc=>gD t x ρc λρ2=>I2 ρ2 λys=>acc.length + ys.length <= 100000/\zbg t2 C E ρ2 (λacc'=>zdc t I2 t2 C E ρc Q xs acc') ys acc
theorem zfO   (mI:zcS I2) (mC:zdC C) (mE:za9 E)  (k:∀ xs,Q xs->Q' xs):∀ xs acc,zdc t I2 t2 C E ρc Q xs acc->zdc t I2 t2 C E ρc Q' xs acc
 | [],acc,q=>k _ q
 | x :: xs,acc,q=>zbj t x ρc (λρ2 z=>mI ρ2 _ _ (λys z=>⟨z.1,zdj mC mE (λacc' z=>zfO mI mC mE k xs acc' z) ys acc z.2⟩) z) q
@[reducible] def zfz (sub:List (Option Nat)) (I:WL) (t:Tg) (I2:WL) (t2:Tg) (C:WT) (E:WE):WL:=λρ Q=>I ρ λxs=>zdc t I2 t2 C E (subE sub ρ) Q xs []
theorem zjv   (mI:zcS I) (mI2:zcS I2) (mC:zdC C) (mE:za9 E):zcS (zfz sub I t I2 t2 C E):=λρ Q Q' k q=>mI ρ _ _ (λxs z=>zfO mI2 mC mE k xs [] z) q
theorem zkT    (mI:zcS I) (mI2:zcS I2) (mC:zdC C) (mE:za9 E) (σ:St) (H:Hp) (Q:VK) (h:tDf c (zfz sub I t I2 t2 C E) σ H Q) :
  zmI sub (tDI c I) (gOf c.K t) (tDI c I2) (gOf c.K t2) (tDt c C) (tD c E) σ H Q:=by
 obtain ⟨ρ,G,r,q⟩:=h;refine ⟨ρ,G,r,mI ρ _ _ (λxs z J H1 G1 t1 it l hl=>?_) q⟩;have hb:l ≠ c.β:=(r.step t1).neβ hl;have hg1:G1 l = none:=zap t1.gh hl;have r1:=r.step t1;generalize hQQ:(λds:List D=>∀ l vs H' G',Stp c.β H G H' G'->H' l = some (.lst vs)->G' l = none->H l = none->Reps c G' ds vs->Q (.ref l) H') = QQ at z;refine ⟨λi m ys H2=>m = xs.length - i/\i <= xs.length/\H2 l = some (.lst ys)/\∃ G2 acc,Stp c.β H1 G1 H2 G2/\G2 l = none/\Reps c G2 acc ys/\zdc t I2 t2 C E (subE sub ρ) QQ (xs.drop i) acc,
  ⟨xs.length,rfl,YAF _,zad,G1,[],Stp.own t1.gh t1.bx hl,hg1,rfl,z⟩,?_⟩
 rintro i m ys H2 ⟨rfl,hi,h2,G2,acc,s2,hg2,hv,q2⟩;refine ⟨h2,?_⟩;have r2:=r1.step s2;have ok:=it i H2 G2 s2.gg s2.gh s2.bx (λa z=>r2.new0 z);by_cases hlt:i < xs.length
 ·refine .inr ?_;rw [YAT hlt] at q2;obtain ⟨go,yl⟩:=ok.2 xs[i] (YAe hlt);refine ⟨go,λys' H3=>H3 l = some (.lst ys')/\∃ G3 acc',Stp c.β H1 G1 H3 G3/\G3 l = none/\Reps c G3 acc' ys'/\zdc t I2 t2 C E (subE sub ρ) QQ (xs.drop (i + 1)) acc',
   λys' H3 ⟨a2,a3⟩=>⟨xs.length - (i + 1),by omega,rfl,by omega,a2,a3⟩,λx H3 y=>?_⟩
  obtain ⟨G3,t3,e3⟩:=yl x H3 y;have h3:H3 l = some (.lst ys):=t3.fr l _ hb h2;have hg3:G3 l = none:=t3.still_none h2 hg2;have t13:=s2.trans t3;refine zdA t xs[i] x (subE sub ρ) (za8 sub σ) (zgN sub (r1.step t13)) e3 (zbj t xs[i] _ (λρ2 z2 σ2 rr=>?_) (zki t xs[i] _ (zkE sub ρ) q2));obtain ⟨z2,no2⟩:=z2;refine ⟨ρ2,G3,rr,mI2 ρ2 _ _ (λzs ⟨hz,z3⟩ J2 H4 G4 t4 it2=>?_) z2⟩;have h4:H4 l = some (.lst ys):=t4.fr l _ hb h3;have hg4:G4 l = none:=t4.still_none h3 hg3;have t14:=t13.trans t4;have hv4:=(hv.mono t3.gg).mono t4.gg;refine ⟨λj m ys' H5=>m = zs.length - j/\j <= zs.length/\ys'.length <= ys.length + j/\H5 l = some (.lst ys')/\∃ G5 acc',Stp c.β H1 G1 H5 G5/\Same G4 G5/\G5 l = none/\Reps c G5 acc' ys'/\zbg t2 C E ρ2 (λacc'=>zdc t I2 t2 C E (subE sub ρ) QQ (xs.drop (i + 1)) acc') (zs.drop j) acc',
   ⟨zs.length,rfl,YAF _,YAm _,h4,G4,acc,t14,Same.refl _,hg4,hv4,z3⟩,?_⟩
  rintro j m ys' H5 ⟨rfl,hj,hyl,h5,G5,acc',t15,gg5,hg5,hv5,q5⟩;refine ⟨h5,?_⟩;have r5:=r1.step t15;have ok2:=it2 j H5 G5 gg5 t15.gh t15.bx (λa z=>r5.new0 z);have rr5:Rel c ρ2 σ2 H5 G5:=rr.move no2 (t4.gg.trans gg5) r5.stp;by_cases hlt2:j < zs.length
  ·refine .inr ?_;rw [YAT hlt2] at q5;obtain ⟨go2,yl2⟩:=ok2.2 zs[j] (YAe hlt2);refine ⟨go2,λws H6=>ws.length <= ys.length + (j + 1)/\H6 l = some (.lst ws)/\∃ G6 acc2,Stp c.β H1 G1 H6 G6/\Same G4 G6/\G6 l = none/\Reps c G6 acc2 ws/\zbg t2 C E ρ2 (λacc'=>zdc t I2 t2 C E (subE sub ρ) QQ (xs.drop (i + 1)) acc') (zs.drop (j + 1)) acc2,
    λws H6 ⟨a1,a2,a3⟩=>⟨zs.length - (j + 1),by omega,rfl,by omega,a1,a2,a3⟩,λx6 H6 y6=>?_⟩
   obtain ⟨G6,t6,e6⟩:=yl2 x6 H6 y6;have h6:H6 l = some (.lst ys'):=t6.fr l _ hb h5;have hg6:G6 l = none:=t6.still_none h5 hg5;have t16:=t15.trans t6;refine zdA t2 zs[j] x6 ρ2 σ2 (rr5.step t6) e6 (zbj t2 zs[j] _ (λρ3 z6 σ3 rr3=>?_) q5);refine ⟨ρ3,G6,rr3,mC ρ3 _ _ (λb z7 H7 G7 t7=>?_) z6⟩;have h7:H7 l = some (.lst ys'):=t7.fr l _ hb h6;have hg7:G7 l = none:=t7.still_none h6 hg6;have t17:=t16.trans t7;have hv7:=(hv5.mono t6.gg).mono t7.gg;have gg7:=(gg5.trans t6.gg).trans t7.gg;cases b
   ·exact ⟨by omega,h7,G7,acc',t17,gg7,hg7,hv7,z7⟩
   ·refine ⟨ρ3,G7,rr3.step t7,mE ρ3 _ _ (λd z8 y8 H8 G8 t8 e8=>?_) z7⟩;have h8:H8 l = some (.lst ys'):=t8.fr l _ hb h7;have hg8:G8 l = none:=t8.still_none h7 hg7;refine ⟨h8,?_,by rw [YAs];simp;omega,zad,G8,acc' ++ [d],(t17.trans t8).wr hl hg8 hb,gg7.trans t8.gg,hg8,(hv7.mono t8.gg).append (.one e8),z8⟩
    have:=small5 (YAm 100000)
    have hal:=hv.length;omega
  ·have e:j = zs.length:=by omega
   subst e;rw [YBJ] at q5;exact .inl ⟨ok2.1 rfl,h5,G5,acc',t15,hg5,hv5,q5⟩
 ·have e:i = xs.length:=by omega
  subst e;rw [YBJ] at q2;refine .inl ⟨ok.1 rfl,?_⟩;have q2:QQ acc:=q2;rw [<- hQQ] at q2;exact q2 l ys H2 G2 (t1.trans s2) h2 hg2 (t1.free hl) hv
section
variable {X:Cx} {c:Bk} {tg iter tg2 iter2 elt e:Expr} {ifs:List Expr} {scope:Scope} {pos p spos:Pos} {Nc:List Str} {sub:List (Option Nat)} {I I2:WL} {C:WT} {E:WE}
theorem zpE (i:Nat) (t t2:Tg) (hI:DI X c tg iter I) (hg:∀ {cl L s0 H0 ex},PG (zan X Nc scope cl L s0 H0 ex) tg (gOf c.K t)) (hI2:∀ {cl L s0 H0 ex},DI (zan X Nc scope cl L s0 H0 ex) c tg2 iter2 I2) (hg2:∀ {cl L s0 H0 ex},PG (zan X Nc scope cl L s0 H0 ex) tg2 (gOf c.K t2)) (hC:∀ {cl L s0 H0 ex},DIf (zan X Nc scope cl L s0 H0 ex) c ifs C) (hE:∀ {cl L s0 H0 ex},DE (zan X Nc scope cl L s0 H0 ex) c elt E) (hi:X.N[i]? = some x:=by rfl) (hy:X.env.scope.names.lookup x = some .local:=by rfl) (hS:zge X.N X.env.scope scope Nc sub = true:=by kernel_rfl) (hok:okT sub t = true:=by decide +kernel) (hap:zoB sub t t2 = true:=by decide +kernel) (hc:X.calm = true:=by rfl) (hsw:swapsWith (.ListComp elt [⟨tg,iter,[],0⟩,⟨tg2,iter2,ifs,0⟩] scope pos) (some (.Name x p)) spos.line X.env = pure true:=by rfl) (hs:∀ x,foldedSetIterable iter X.env x = pure x:=by intro _;rfl) (hs2:∀ cl L s0 H0 ex x,foldedSetIterable iter2 (zan X Nc scope cl L s0 H0 ex).env x = pure x:=by intros;rfl) (hN:X.N.Nodup:=by decreasing_trivial) :
  DS X c (.Assign [.Name x p] (.ListComp elt [⟨tg,iter,[],0⟩,⟨tg2,iter2,ifs,0⟩] scope pos) spos) (asgW (.nm i) (valW (zfz sub I t I2 t2 C E))):=by
 have mC:=(@hC [] 0 X.s₀ (λ_=>none) []).mono;have mE:=(@hE [] 0 X.s₀ (λ_=>none) []).mono;have mI2:=(@hI2 [] 0 X.s₀ (λ_=>none) []).mono;have mL:=zjv (sub:=sub) (t:=t) (t2:=t2) hI.mono mI2 mC mE;have mV:za9 (valW (zfz sub I t I2 t2 C E)):=λρ Q Q' k q=>mL ρ _ _ (λxs z=>k _ z) q;refine ⟨zeU mV,zbV (znx hc hN hi hy (CompScope.of hS) hI.pi (λcl L s0 H0 ex=>@hg cl L s0 H0 ex) (zmH c.K sub t hok) (λcl L s0 H0 ex=>(@hI2 cl L s0 H0 ex).pi) (λcl L s0 H0 ex=>@hg2 cl L s0 H0 ex) (znJ hap) hs2 (zhk c.K t) (λcl L s0 H0 ex=>(@hC cl L s0 H0 ex).pf) (λcl L s0 H0 ex=>(@hE cl L s0 H0 ex).pe) hsw hs) λD σ H ⟨ρ,G,r,q⟩=>?_⟩;refine zkT hI.mono mI2 mC mE σ H _ ⟨ρ,G,r,mL ρ _ _ (λxs z l vs H' G' t hl hg h0 hv=>?_) q⟩;have hb:=r.neβ h0;exact z (σ.set i (some (.ref l))) H' (upd G' l (.lst vs)) ((r.step (t.still hl h0 hb hg)).put ⟨l,vs,rfl,zad,λ_=>r.new0 h0,hv.mono (zbX hg)⟩) (t.gg.trans (zbX hg))
end
structure Bt (mg:Str->Option Value):Prop where
 list:mg "list" = none
 len:mg "len" = none
 range:mg "range" = none
 all:mg "all" = none
 any:mg "any" = none
 isinstance:mg "isinstance" = none
 tuple:mg "tuple" = none
 bool:mg "bool" = none
 int:mg "int" = none
 str:mg "str" = none
 sorted:mg "sorted" = none
 set:mg "set" = none
 zip:mg "zip" = none
 enumerate:mg "enumerate" = none
 min:mg "min" = none
 max:mg "max" = none
def zam:Fn
 | [.box,.int m],Q=>(0 < m/\m < 2 ^ 64)/\∀ x:Int,0 <= x->x < m->Q (.int x)
 | _,_=>False
def lawW (n:Nat) (B:WS):Prop:=B { nx:=λ_=>False,rt:=λd=>d = .bl true,bk:=λ_=>False,ct:=λ_=>False } (.un :: .val .box :: List.replicate n .un)
end Fd
namespace Fd
open PySem L2
def zbC:Fn:=fnW 1 ((retW (valW (zi1 [none,none,none,none] (seqI (vW 0)) (.tp 4 (.cons (.nm 0) (.cons (.nm 1) (.cons (.nm 2) (.cons (.nm 3) .nil))))) noIf (vW 3)))))
def zhL:Fn:=fnW 2 ((retW (valW (zaE [none,none,none,none,some 1] (seqI (vW 0)) (.tp 4 (.cons (.nm 0) (.cons (.nm 1) (.cons (.nm 2) (.cons (.nm 3) .nil))))) (blW (binW (inD true) (vW 3) (vW 4))) (tupW (zab (vW 0) (zab (vW 1) (zab (vW 2) (zab (vW 3) nilA)))))))))
def zoU:Fn:=fnW 2 ((retW (cbW allF (zab (valW (zaE [none,none,none,none,some 1] (seqI (vW 0)) (.tp 4 (.cons (.nm 0) (.cons (.nm 1) (.cons (.nm 2) (.cons (.nm 3) .nil))))) noIf (binW eqD (binW subD (ixvW 4 (vW 1)) (ixvW 4 (vW 0))) (vW 2)))) nilA))))
def zbr:Fn:=fnW 4 ((seqW (asgW (.nm 1) (zaw 2 zam (zab (vW 0) (zab (kW (.int 4)) nilA))))
  (seqW (ifS (blW (binW eqD (vW 1) (kW (.int 0)))) (retW (zaw 2 zam (zab (vW 0) (zab (kW (.int 10)) nilA)))) nilS)
  (seqW (ifS (blW (binW eqD (vW 1) (kW (.int 1)))) (retW (zaw 2 zam (zab (vW 0) (zab (kW (.int 1000000)) nilA)))) nilS)
  (seqW (asgW (.nm 2) (kW (.int 0)))
  (seqW (forW (zf1 (kW (.int 3))) (.nm 3) (asgW (.nm 2) (binW addD (binW mulD (vW 2) (kW (.int 1000000))) (zaw 2 zam (zab (vW 0) (zab (kW (.int 1000000)) nilA))))))
  (retW (vW 2))))))))
def zbh:Nat->Fn
 | 0=>λ_ _=>False
 | n + 1=>fnW 2 ((seqW (ifS (orT (truW (isiW "list" (vW 1))) (truW (isiW "tuple" (vW 1)))) (seqW (ifS (orT (blW (binW neD (isiW "list" (vW 0)) (isiW "list" (vW 1)))) (blW (binW neD (isiW "tuple" (vW 0)) (isiW "tuple" (vW 1))))) (retW (kW (.bl false))) nilS)
  (retW (andW (binW eqD (zeb 0) (zeb 1)) (cbW allF (zab (valW (zaE [none,none] (zipI (vW 0) (vW 1)) (.tp 2 (.cons (.nm 0) (.cons (.nm 1) .nil))) noIf (zaw 2 (zbh n) (zab (vW 0) (zab (vW 1) nilA))))) nilA))))) nilS)
  (seqW (ifS (orT (blW (isNW (vW 0))) (blW (isNW (vW 1)))) (retW (andW (isNW (vW 0)) (isNW (vW 1)))) nilS)
  (seqW (ifS (orT (blW (binW neD (isiW "bool" (vW 0)) (isiW "bool" (vW 1)))) (blW (binW neD (isiW "int" (vW 0)) (isiW "int" (vW 1))))) (retW (kW (.bl false))) nilS)
  (retW (andW (binW eqD (isiW "str" (vW 0)) (isiW "str" (vW 1))) (binW eqD (vW 0) (vW 1))))))))
def zaY:Fn:=fnW 2 ((retW (binW addD (vW 1) (binW ixD (valW (lstW (zab (kW (.int 1)) (zab (unW negD (kW (.int 1))) (zab (binW addD (kW (.int 1)) (zaw 2 zam (zab (vW 0) (zab (kW (.int 5)) nilA)))) (zab (zaw 1 zbr (zab (vW 0) nilA)) (zab (unW negD (zaw 1 zbr (zab (vW 0) nilA))) nilA))))))) (zaw 2 zam (zab (vW 0) (zab (kW (.int 5)) nilA)))))))
def zbL:Fn:=fnW 17 ((seqW (asgW (.nm 4) (binW addD (kW (.int 1)) (zaw 2 zam (zab (vW 0) (zab (vW 1) nilA)))))
  (seqW (asgW (.nm 5) (binW addD (kW (.int 1)) (zaw 2 zam (zab (vW 0) (zab (vW 2) nilA)))))
  (seqW (asgW (.nm 6) (binW ixD (valW (lstW (zab (kW (.int 4)) (zab (kW (.int 1000)) (zab (binW powD (kW (.int 10)) (kW (.int 12))) nilA))))) (zaw 2 zam (zab (vW 0) (zab (kW (.int 3)) nilA)))))
  (seqW (asgW (.nm 7) (valW (zaE [none,some 0,some 6] (zf1 (vW 4)) (.nm 0) noIf (zaw 2 zam (zab (vW 1) (zab (vW 2) nilA))))))
  (seqW (asgW (.nm 8) (valW (zaE [none,some 0] (zf1 (vW 5)) (.nm 0) noIf (ifW (blW (binW eqD (zaw 2 zam (zab (vW 1) (zab (kW (.int 9)) nilA))) (kW (.int 0)))) (binW modD (binW mulD (kW (.int 3)) (vW 0)) (kW (.int 10))) (vW 0)))))
  (seqW (asgW (.nm 9) (valW (zhu (valW (zaE [none,some 8,some 0,some 5] (zf1 (zaw 2 zam (zab (vW 0) (zab (kW (.int 4)) nilA)))) (.nm 0) noIf (ixvW 1 (zaw 2 zam (zab (vW 2) (zab (vW 3) nilA)))))))))
  (seqW (asgW (.nm 10) (binW addD (kW (.int 1)) (zaw 2 zam (zab (vW 0) (zab (kW (.int 3)) nilA)))))
  (seqW (ownW 11 (lstW nilA))
  (seqW (forW (zf1 (binW mulD (zaw 2 zam (zab (vW 0) (zab (binW addD (vW 3) (kW (.int 1))) nilA))) (cbW intF (zab (binW gtD (vW 4) (kW (.int 1))) nilA)))) (.nm 12) (seqW (asgW (.nm 13) (zaw 2 zam (zab (vW 0) (zab (vW 4) nilA))))
  (seqW (asgW (.nm 14) (binW modD (binW addD (binW addD (vW 13) (kW (.int 1))) (zaw 2 zam (zab (vW 0) (zab (binW subD (vW 4) (kW (.int 1))) nilA)))) (vW 4)))
  (seqW (asgW (.nm 15) (ixvW 8 (zaw 2 zam (zab (vW 0) (zab (vW 5) nilA)))))
  (seqW (asgW (.nm 16) (binW subD (ixvW 7 (vW 14)) (ixvW 7 (vW 13))))
  (seqW (ifS (andT (blW (binW (inD false) (vW 15) (vW 9))) (blW (binW ltD (zaw 2 zam (zab (vW 0) (zab (kW (.int 3)) nilA))) (vW 10)))) (asgW (.nm 16) (zaw 2 zaY (zab (vW 0) (zab (vW 16) nilA)))) nilS)
  (appW 11 (tupW (zab (vW 13) (zab (vW 14) (zab (vW 16) (zab (vW 15) nilA))))))))))))
  (frzW 11 (retW (tupW (zab (vW 4) (zab (vW 11) (zab (vW 7) (zab (vW 9) nilA)))))))))))))))))
def zb1:Fn:=fnW 2 ((retW (valW (zaE [none,some 1] (seqI (vW 0)) (.nm 0) (blW (binW (inD true) (ixvW 0 (kW (.int 3))) (vW 1))) (vW 0)))))
def za3:Fn:=fnW 1 ((retW (valW (zhu (valW (zaE [none] (seqI (vW 0)) (.nm 0) noIf (ixvW 0 (kW (.int 3)))))))))
end Fd
namespace Fen
open PySem L2
def Ext (b:Addr) (H H':Hp):Prop:=∀ a o,a ≠ b->H a = some o->H' a = some o
theorem Ext.refl (b:Addr) (H:Hp):Ext b H H:=λ_ _ _ h=>h
theorem Ext.trans  (x:Ext b H H1) (y:Ext b H1 H2):Ext b H H2:=λa o n h=>y a o n (x a o n h)
theorem Ext.upd  : Ext b H (upd H b o):=λa _ n h=>by rw [zaf n];exact h
def boxV (c:Addr) (p r d:Int):HO:=.lst [.ref c,.int p,.int r,.int d]
structure Box (H:Hp) (b c:Addr) (ns:List Int):Prop where
 ex:∃ p r d:Int,H b = some (boxV c p r d)/\0 <= p/\0 <= r/\0 <= d/\d < 2147483629
 cells:H c = some (.lst (ns.map V.int))
 few:ns.length <= 63
theorem Box.ne  (x:Box H b c ns):b ≠ c:=λz=>by
 obtain ⟨p,r,d,e,_⟩:=x.ex;have q:=x.cells;rw [<- z,e] at q;have q':([V.ref c,.int p,.int r,.int d]:List V) = ns.map V.int:=by injection q with q;injection q
 cases ns with
 | nil=>cases q'
 | cons n r=>simp at q'
theorem Box.put  (x:Box H b c ns) (hp:0 <= p) (hr:0 <= r) (h0:0 <= d) (h1:d < 2147483629):Box (upd H b (boxV c p r d)) b c ns:=
 ⟨⟨p,r,d,zad,hp,hr,h0,h1⟩,by rw [zaf x.ne.symm];exact x.cells,x.few⟩
def zo2 (K:PySem.W.Frag):Sp:=λvs H Q _=>∃ (a:Addr) (ns:List Int),vs = [.ref a]/\SqL K H a (ns.map V.int)/\ns.length <= 63/\∀ b c H',H b = none->Box H' b c ns->Same H H'->Q (.ref b) H'
def zqt:Sp:=λvs H Q _=>∃ (b c:Addr) (ns:List Int) (m:Int),vs = [.ref b,.int m]/\Box H b c ns/\0 < m/\m < 2 ^ 64/\∀ (x:Int) H',0 <= x->x < m->Box H' b c ns->Ext b H H'->Q (.int x) H'
structure Txt (K:PySem.W.Frag) (mg:Str->Option Value):Prop where
 list:mg "list" = none
 len:mg "len" = none
 range:mg "range" = none
theorem zsd {ns:List Int} (h:ns.length <= 63):cutV (ns.map V.int) none (some 63) = ns.map V.int:=by
 unfold cutV;have e:HT.sIx (ns.map V.int).length (ns.map V.int).length (some 63) = ns.length:=by
  rw [show (63:Int) = ((63:Nat):Int) from rfl,HT.sIx_nat,YAd];omega
 rw [e,HT.sIx_none,List.drop_zero,Nat.sub_zero];exact List.take_of_length_le (by simp)
structure Cal (P:Program) (w:World) (K:PySem.W.Frag) (mg:Str->Option Value) (base:Heap) (x:Str) (k:Nat) (ps:List Str) (sp:Sp):Prop where
 ex:∃ f fd,FnOk P w K mg base CX0 k f fd ps sp/\mg x = some (.ref f)/\PySem.W.keepIn K (.ref f) = true/\Binds K fd ps []
theorem zeL     (C:Cal X.prog X.w X.K X.mg X.base x k ps sp) (hr:Room k X.A) (hg:Gl X x) (ha:PA X (e :: es) t)
  (hdb:(x == ("__debug__" : Str)) = false:=by decide) (he:starEach (e :: es) X.env = (false,eval e X.env) :: starEach es X.env:=by rfl) (hpl:(backTo pos (starEach es X.env)).any (·.1) = false:=by rfl) :
  PE X (.Call (.Name x p) (e :: es) [] pos) (zpW sp [] E0 t):=by
 obtain ⟨f,fd,F,hm,hk,hb⟩:=C.ex;exact zi8 F hr hg hm hk hb .nil zpR ha hdb he hpl
theorem Cal.of       (F:Fun K x qual st f fd) (G:FnOk P w K mg base CX0 k f fd ps sp) (hm:mg x = some (.ref f)) (hb:Binds K fd ps []):Cal P w K mg base x k ps sp:=
 ⟨f,fd,G,hm,F.kp,hb⟩
theorem zdH {zs:List Int} {i:Int} (h0:0 <= i) (h1:i < zs.length):atI (zs.map V.int) i = some (.int (zs.getD i.toNat 0)):=by
 have hn:i.toNat < zs.length:=by omega
 have q:=zez (xs:=zs.map V.int) (j:=i.toNat) (v:=.int (zs.getD i.toNat 0)) (by rw [YAu,YAe hn];simp [List.getD,YAe hn])
 rwa [YBq h0] at q
structure Run where
 p:Addr
 one:Int
 other:Int
 rise:Int
 hand:Int
def runV (r:Run):V:=.ref r.p
def runT (r:Run):List V:=[.int r.one,.int r.other,.int r.rise,.int r.hand]
theorem zkn   (e:Same H H') (h:SqT K H a xs):SqT K H' a xs:=by
 rcases h with h | h
 ·rcases h with h | ⟨o,h⟩
  ·exact .inl (.inl (e _ _ h))
  ·exact .inl (.inr ⟨o,e _ _ h⟩)
 ·exact .inr h
def Runs (K:PySem.W.Frag) (H:Hp) (rs:List Run):Prop:=∀ r ∈ rs,SqT K H r.p (runT r)
theorem Runs.same  (x:Runs K H rs) (e:Same H H'):Runs K H' rs:=λr hr=>zkn e (x r hr)
theorem Runs.at_ {K:PySem.W.Frag} {H:Hp} {rs:List Run} (x:Runs K H rs) {i:Nat} {v:V} (h:(rs.map runV)[i]? = some v):∃ r,rs[i]? = some r/\v = .ref r.p/\SqT K H r.p (runT r):=by
 rw [YAu] at h;cases e:rs[i]? with
 | none=>rw [e] at h;cases h
 | some r=>
  rw [e] at h;exact ⟨r,rfl,(Option.some.inj h).symm,x r (YAA e)⟩
theorem zal  (h:H l = none):Same H (upd H l o):=λa _ e=>by rw [zaf (zae e h)];exact e
theorem zmw   (h:H l = none) (q:SqL K H a xs):SqL K (upd H l o) a xs:=(zal h).seq q
theorem zny {α β:Type} (f:α->β) {xs:List α} {i:Nat} {x:α} (h:xs[i]? = some x):(xs.take (i + 1)).map f = (xs.take i).map f ++ [f x]:=by
 rw [List.take_add_one,h,YAy];rfl
theorem zkt (x:Int) (hs:List Int):inV (.int x) (hs.map V.int) = hs.contains x:=by
 unfold inV;rw [List.any_map]
 induction hs with
 | nil=>rfl
 | cons y r ih=>
  rw [YBL,List.contains_cons,ih];congr 1;show eqV (.int y) (.int x) = (x == y);show decide (y = x) = (x == y);by_cases e:y = x
  ·subst e;simp
  ·have:¬ x = y:=λz=>e z.symm
   simp [e,this]
theorem zhU (hs:List Int):(hs.map V.int).all zgZ = true:=by
 rw [List.all_map,YBi];intro x _;rfl
theorem noif {σ:St} {H:Hp} {A B:Hp->Prop} (h:A H):zni σ H (λb H4=>if b = true then A H4 else B H4):=by
 show (if (true:Bool) = true then A H else B H);rw [if_pos rfl];exact h
def zk8 (hts:List Int) (r:Run):Bool:=decide (hts.getD r.other.toNat 0 - hts.getD r.one.toNat 0 = r.rise)
def zaD (n:Nat) (rs:List Run):Prop:=∀ r ∈ rs,0 <= r.one/\r.one < n/\0 <= r.other/\r.other < n
theorem znh (a b:Int):decide (V.int a = V.int b) = decide (a = b):=by
 by_cases e:a = b
 ·subst e;simp
 ·have:¬ V.int a = V.int b:=λz=>e (V.int.inj z)
  rw [YAz e,YAz this]
structure Txt2 (mg:Str->Option Value):Prop where
 all:mg "all" = none
 isinstance:mg "isinstance" = none
 tuple:mg "tuple" = none
 bool:mg "bool" = none
 int:mg "int" = none
 str:mg "str" = none
 sorted:mg "sorted" = none
 set:mg "set" = none
theorem zkC {K:PySem.W.Frag} {a h l:Addr} {rs:List Run} {hts:List Int} {H:Hp} {Q:VK} (ha:SqL K H a (rs.map runV)) (R:Runs K H rs) (hh:SqL K H h (hts.map V.int)) (V0:zaD hts.length rs) (hz:rs.length <= 1000) (hl:H l = none)
  (q:Q (.ref l) (upd H l (.lst ((rs.map (zk8 hts)).map V.bl)))) :
  zhT (gTup K 4 (zeR (zcR 0) (zeR (zcR 1) (zeR (zcR 2) (zeR (zcR 3) gNil))))) zni
   (tOp rEq (tOp (rI0 λi j=>.int (i - j)) (tOp (rIxL K) (tVar 4) (tVar 1)) (tOp (rIxL K) (tVar 4) (tVar 0))) (tVar 2)) [none,none,none,none,some (.ref h)] l (Itl K a) H Q:=by
 refine zmS (ys:=rs.map runV) (λi xs H2=>H2 = upd H l (.lst xs)/\xs = ((rs.take i).map (zk8 hts)).map V.bl/\i <= rs.length) ⟨rfl,rfl,YAF _⟩ ?_ ?_ ?_
 ·rintro i xs H2 hi ⟨rfl,hx,_⟩;exact ⟨zmw hl ha,zad⟩
 ·rintro i x xs H2 hx ⟨rfl,hxs,hi⟩;obtain ⟨r,hr,rfl,ht⟩:=R.at_ hx;have hm:=V0 r (YAA hr);have htt:SqT K (upd H l (.lst xs)) r.p (runT r):=zkn (zal hl) ht;have hil:i < rs.length:=(YAi.mp hr).1;refine ⟨r.p,_,rfl,htt,rfl,_,_,rfl,_,_,rfl,_,_,rfl,_,_,rfl,rfl,?_⟩;refine noif ?_;refine ⟨_,rfl,_,rfl,h,_,_,_,rfl,rfl,zmw hl hh,zdH hm.2.2.1 hm.2.2.2,_,rfl,_,rfl,h,_,_,_,rfl,rfl,zmw hl hh,zdH hm.1 hm.2.1,_,_,rfl,rfl,_,rfl,rfl,zad,?_,?_,?_,?_⟩
  ·rw [hxs,YAd,YAd,YBv,YAR];omega
  ·rw [zpF]
  ·rw [zny (zk8 hts) hr,YAy,<- hxs,znh];rfl
  ·omega
 ·rintro xs H2 ⟨rfl,hxs,_⟩;rw [YAd,YBK] at hxs;rw [hxs];exact q
def ziU (K:PySem.W.Frag):Sp:=λvs H Q _=>∃ (a h:Addr) (rs:List Run) (hts:List Int),vs = [.ref a,.ref h]/\SqL K H a (rs.map runV)/\Runs K H rs/\SqL K H h (hts.map V.int)/\zaD hts.length rs/\rs.length <= 1000 /\
 ∀ l o,H l = none->Q (.bl ((rs.map (zk8 hts)).all id)) (upd H l o)
theorem zgP:(["one","other","rise","hand","heights"]:List Str).Nodup:=by decide +kernel
def tMid (t:TS):TS:=λD σ H=>∃ M:St->Hp->Prop,t { D with nx:=M } σ H/\∀ σ' H',M σ' H'->D.nx σ' H'
theorem zp6  (h:PS X st t):PS X st (tMid t):=by
 intro pins s σ H D I hw;obtain ⟨M,h1,h2⟩:=hw;refine thn (h pins s σ H _ I h1) λf s' q=>?_;cases f with
 | next=>obtain ⟨σ',H',I',q'⟩:=q;exact ⟨σ',H',I',h2 _ _ q'⟩
 | brk=>exact q
 | cont=>exact q
 | ret u=>exact q
theorem zpn {zs:List Int} {i:Nat} {x:V} (h:(zs.map V.int)[i]? = some x):∃ z,zs[i]? = some z/\x = .int z:=by
 rw [YAu] at h;cases e:zs[i]? with
 | none=>rw [e] at h;cases h
 | some z=>rw [e] at h;exact ⟨z,rfl,(Option.some.inj h).symm⟩
theorem zpX {n:Nat} {i:Int} (h0:0 <= i) (h1:i < n):ixN n i = some i.toNat:=by unfold ixN;rw [if_pos h0,if_pos h1]
theorem zne {zs:List Int} {i:Nat} {z:Int}:(zs.map V.int).set i (.int z) = (zs.set i z).map V.int:=by rw [List.map_set]
theorem zlp (H:Hp):Same H H:=λ_ _ e=>e
theorem zch   (e:Same H H') (h:SQ tp K H a xs):SQ tp K H' a xs:=by
 cases tp
 ·exact e.seq h
 ·rcases h with h | h
  ·rcases h with h | ⟨o,h⟩
   ·exact .inl (.inl (e _ _ h))
   ·exact .inl (.inr ⟨o,e _ _ h⟩)
  ·exact .inr h
def zck (r:Run):Int × Int × Int × Int:=(r.one,r.other,r.rise,r.hand)
def stepR (r:Run) (here:Int):Option (Int × Int):=if here = r.one then some (r.other,r.rise) else if here = r.other then some (r.one,-r.rise) else none
def runAt (rs:List Run) (i:Int):Run:=rs.getD i.toNat ⟨0,0,0,0,0⟩
def walkF (rs:List Run):Int->Int->List Int->Option (Int × Int)
 | here,h,[]=>some (here,h)
 | here,h,n :: rest=>if 0 <= n/\n < rs.length then (match stepR (runAt rs n) here with | some (e,d)=>walkF rs e (h + d) rest | none=>none) else none
theorem zdJ  (h0:0 <= i) (h1:i < rs.length):rs[i.toNat]? = some (runAt rs i)/\atI (rs.map runV) i = some (.ref (runAt rs i).p)/\runAt rs i ∈ rs:=by
 have hn:i.toNat < rs.length:=by omega
 have e:rs[i.toNat]? = some (runAt rs i):=by unfold runAt;rw [YAe hn];simp [List.getD,YAe hn]
 refine ⟨e,?_,YAA e⟩;have q:=zez (xs:=rs.map runV) (j:=i.toNat) (v:=.ref (runAt rs i).p) (by rw [YAu,e];rfl)
 rwa [YBq h0] at q
theorem zeX:∀ {here h:Int} {line:List Int} {e:Int × Int},walkF rs here h line = some e->∀ z ∈ line,0 <= z/\z < rs.length
 | _,_,[],_,_,z,hz=>by cases hz
 | here,h,n :: rest,e,q,z,hz=>by
  unfold walkF at q;by_cases hn:0 <= n/\n < (rs.length:Int)
  ·rw [if_pos hn] at q;rcases YAk.mp hz with rfl | hz
   ·exact hn
   ·cases es:stepR (runAt rs n) here with
    | none=>rw [es] at q;cases q
    | some p=>rw [es] at q;exact zeX q z hz
  ·rw [if_neg hn] at q;cases q
theorem zpC {line:List Int} {i:Nat} {z:Int} (h:line[i]? = some z):line.drop i = z :: line.drop (i + 1):=by
 obtain ⟨h1,h2⟩:=YAi.mp h;rw [YAT h1,h2]
theorem zd7 {rs:List Run} {here h z e d:Int} {rest:List Int} (h0:0 <= z) (h1:z < rs.length) (hs:stepR (runAt rs z) here = some (e,d)):walkF rs here h (z :: rest) = walkF rs e (h + d) rest:=by
 show (if 0 <= z/\z < (rs.length:Int) then _ else _) = _;rw [if_pos ⟨h0,h1⟩,hs]
theorem nb2 [Decidable c] (h:¬ (!decide c) = true):c:=by simpa using h
inductive Conn (rs:List Run):Int->Int->Prop
 | refl (i:Int):Conn rs i i
 | go {i j k:Int} (r:Run) (c:Conn rs i j) (m:r ∈ rs) (e:(r.one = j/\r.other = k)\/(r.other = j/\r.one = k)):Conn rs i k
theorem Conn.trans  (x:Conn rs i j) (y:Conn rs j k):Conn rs i k:=by
 induction y with
 | refl=>exact x
 | go r c m e ih=>exact .go r ih m e
theorem Conn.edge  (m:r ∈ rs):Conn rs r.one r.other:=.go r (.refl _) m (.inl ⟨rfl,rfl⟩)
theorem Conn.edge'  (m:r ∈ rs):Conn rs r.other r.one:=.go r (.refl _) m (.inr ⟨rfl,rfl⟩)
theorem Conn.symm  (x:Conn rs i j):Conn rs j i:=by
 induction x with
 | refl=>exact .refl _
 | go r c m e ih=>
  rcases e with ⟨rfl,rfl⟩ | ⟨rfl,rfl⟩
  ·exact (Conn.edge' m).trans ih
  ·exact (Conn.edge m).trans ih
theorem Conn.mono  (x:Conn rs i j) (h:∀ r ∈ rs,∃ q ∈ qs,q.one = r.one/\q.other = r.other):Conn qs i j:=by
 induction x with
 | refl=>exact .refl _
 | go r c m e ih=>
  obtain ⟨q,hq,e1,e2⟩:=h r m;rcases e with ⟨rfl,rfl⟩ | ⟨rfl,rfl⟩
  ·exact .go q ih hq (.inl ⟨e1,e2⟩)
  ·exact .go q ih hq (.inr ⟨e2,e1⟩)
theorem Conn.sub  (x:Conn rs i j) (h:∀ r ∈ rs,r ∈ qs):Conn qs i j:=x.mono λr m=>⟨r,h r m,rfl,rfl⟩
theorem Conn.inM  (V0:zaD n rs) (x:Conn rs i j) (h:0 <= i/\i < n):0 <= j/\j < n:=by
 induction x with
 | refl=>exact h
 | go r c m e ih=>
  obtain ⟨m1,m2,m3,m4⟩:=V0 r m;rcases e with ⟨rfl,rfl⟩ | ⟨rfl,rfl⟩
  ·exact ⟨m3,m4⟩
  ·exact ⟨m1,m2⟩
def gI (xs:List Int) (i:Int):Int:=xs.getD i.toNat 0
def zf4 (n:Nat) (rs:List Run) (lab:List Int):Prop:=∀ i j:Int,0 <= i->i < n->0 <= j->j < n->(gI lab i = gI lab j ↔ Conn rs i j)
def HtOk (rs:List Run) (hts:List Int):Prop:=∀ r ∈ rs,gI hts r.other - gI hts r.one = r.rise
def zfZ (rs:List Run):Prop:=∀ f:Int->Int,¬ ∀ r ∈ rs,f r.other - f r.one = r.rise
theorem zpB {rs:List Run} {f g:Int->Int} (hf:∀ r ∈ rs,f r.other - f r.one = r.rise) (hg:∀ r ∈ rs,g r.other - g r.one = r.rise) {i j:Int} (x:Conn rs i j):f j - f i = g j - g i:=by
 induction x with
 | refl=>omega
 | go r c m e ih=>
  have h1:=hf r m;have h2:=hg r m;rcases e with ⟨rfl,rfl⟩ | ⟨rfl,rfl⟩ <;> omega
theorem zoh {done rest:List Run} {n:Nat} {lab hts:List Int} {r:Run} (V0:0 <= r.one/\r.one < n/\0 <= r.other/\r.other < n) (hl:zf4 n done lab) (hh:HtOk done hts) (e:gI lab r.one = gI lab r.other) (hb:gI hts r.one + r.rise - gI hts r.other ≠ 0):zfZ (done ++ r :: rest):=λf hf=>by
 have c:=(hl r.one r.other V0.1 V0.2.1 V0.2.2.1 V0.2.2.2).mp e;have h1:=zpB (f:=f) (g:=gI hts) (λq hq=>hf q (YAB _ hq)) hh c;have h2:=hf r (YAo _ YAh);omega
theorem znB {done:List Run} {n:Nat} {lab hts:List Int} {r:Run} (V0:0 <= r.one/\r.one < n/\0 <= r.other/\r.other < n) (hl:zf4 n done lab) (hh:HtOk done hts) (e:gI lab r.one = gI lab r.other) (hb:gI hts r.one + r.rise - gI hts r.other = 0):zf4 n (done ++ [r]) lab/\HtOk (done ++ [r]) hts:=by
 have c:=(hl r.one r.other V0.1 V0.2.1 V0.2.2.1 V0.2.2.2).mp e;refine ⟨λi j a b d e'=>⟨λh=>((hl i j a b d e').mp h).sub λq hq=>YAB _ hq,λh=>(hl i j a b d e').mpr ?_⟩,λq hq=>?_⟩
 ·clear e' d
  induction h with
  | refl=>exact .refl _
  | go q c' m e2 ih=>
   rcases YAr.mp m with m | m
   ·exact .go q ih m e2
   ·rw [YAg.mp m] at e2;rcases e2 with ⟨rfl,rfl⟩ | ⟨rfl,rfl⟩
    ·exact ih.trans c
    ·exact ih.trans c.symm
 ·rcases YAr.mp hq with m | m
  ·exact hh q m
  ·rw [YAg.mp m];omega
theorem znw {done:List Run} {n:Nat} {lab hts lab' hts':List Int} {r:Run} (VD:zaD n done) (V0:0 <= r.one/\r.one < n/\0 <= r.other/\r.other < n) (hl:zf4 n done lab) (hh:HtOk done hts) (ne:gI lab r.one ≠ gI lab r.other)
  (h1:∀ i:Int,0 <= i->i < n->gI lab' i = if gI lab i = gI lab r.other then gI lab r.one else gI lab i) (h2:∀ i:Int,0 <= i->i < n->gI hts' i = if gI lab i = gI lab r.other then gI hts i + (gI hts r.one + r.rise - gI hts r.other) else gI hts i) :
  zf4 n (done ++ [r]) lab'/\HtOk (done ++ [r]) hts':=by
 have up:∀ {i j},Conn done i j->Conn (done ++ [r]) i j:=λh=>h.sub λq hq=>YAB _ hq;have er:Conn (done ++ [r]) r.one r.other:=Conn.edge (YAo _ YAh);have V1:zaD n (done ++ [r]):=λq hq=>by
  rcases YAr.mp hq with m | m
  ·exact VD q m
  ·rw [YAg.mp m];exact V0
 refine ⟨λi j a b c d=>⟨λh=>?_,λh=>?_⟩,λq hq=>?_⟩
 ·rw [h1 i a b,h1 j c d] at h;by_cases ci:gI lab i = gI lab r.other
  ·by_cases cj:gI lab j = gI lab r.other
   ·exact up ((hl i j a b c d).mp (ci.trans cj.symm))
   ·rw [if_pos ci,if_neg cj] at h;exact ((up ((hl i r.other a b V0.2.2.1 V0.2.2.2).mp ci)).trans er.symm).trans (up ((hl r.one j V0.1 V0.2.1 c d).mp h))
  ·by_cases cj:gI lab j = gI lab r.other
   ·rw [if_neg ci,if_pos cj] at h;exact ((up ((hl i r.one a b V0.1 V0.2.1).mp h)).trans er).trans (up ((hl r.other j V0.2.2.1 V0.2.2.2 c d).mp cj.symm))
   ·rw [if_neg ci,if_neg cj] at h;exact up ((hl i j a b c d).mp h)
 ·have key:∀ k,Conn (done ++ [r]) i k->gI lab' i = gI lab' k:=λk hk=>by
   induction hk with
   | refl=>rfl
   | go q c' m e2 ih=>
    rw [ih]
    rename_i j' k'
    have bj:=c'.inM V1 ⟨a,b⟩;have bk:=(Conn.go q c' m e2).inM V1 ⟨a,b⟩;rcases YAr.mp m with m | m
    ·have ee:gI lab j' = gI lab k':=(hl j' k' bj.1 bj.2 bk.1 bk.2).mpr (.go q (.refl _) m e2);rw [h1 _ bj.1 bj.2,h1 _ bk.1 bk.2,ee]
    ·rw [YAg.mp m] at e2;have eo:gI lab' r.other = gI lab r.one:=by rw [h1 _ V0.2.2.1 V0.2.2.2,if_pos rfl]
     have eo1:gI lab' r.one = gI lab r.one:=by rw [h1 _ V0.1 V0.2.1,if_neg ne]
     rcases e2 with ⟨rfl,rfl⟩ | ⟨rfl,rfl⟩
     ·rw [eo,eo1]
     ·rw [eo,eo1]
  exact key j h
 ·rcases YAr.mp hq with m | m
  ·obtain ⟨b1,b2,b3,b4⟩:=VD q m;have ee:gI lab q.one = gI lab q.other:=(hl _ _ b1 b2 b3 b4).mpr (Conn.edge m)
   have:=hh q m
   rw [h2 _ b1 b2,h2 _ b3 b4,ee];by_cases cc:gI lab q.other = gI lab r.other
   ·rw [if_pos cc,if_pos cc];omega
   ·rw [if_neg cc,if_neg cc];exact this
  ·rw [YAg.mp m,h2 _ V0.1 V0.2.1,h2 _ V0.2.2.1 V0.2.2.2,if_neg ne,if_pos rfl];omega
theorem zhQ (n:Nat):zf4 n [] ((List.range n).map Int.ofNat)/\HtOk [] (List.replicate n 0):=by
 refine ⟨λi j a b c d=>?_,λr h=>by cases h⟩;have e:∀ k:Int,0 <= k->k < n->gI ((List.range n).map Int.ofNat) k = k:=λk h0 h1=>by
  have hk:k.toNat < n:=by omega
  unfold gI;simp [List.getD,hk];omega
 rw [e i a b,e j c d];refine ⟨λh=>h ▸ .refl _,λh=>?_⟩;cases h with
 | refl=>rfl
 | go r c m e=>cases m
theorem zco {α:Type} {xs:List α} {i:Nat} {x:α} (h:xs[i]? = some x):xs.take (i + 1) = xs.take i ++ [x]:=by rw [List.take_add_one,h];rfl
theorem zrB {i:Nat} {v:V} {σ:St} {H:Hp} {A B:St->Hp->Prop} (h:A (σ.set i (some v)) H):zcR i v σ H (λσ2 H3=>zni σ2 H3 λb H4=>if b = true then A σ2 H4 else B σ2 H4):=by
 show (if (true:Bool) = true then A (List.set σ i (some v)) H else B (List.set σ i (some v)) H);rw [if_pos rfl];exact h
theorem zjO {xs:List Int} {j:Nat} {v i:Int} (hj:j < xs.length) (h0:0 <= i):gI (xs.set j v) i = if i = (j:Int) then v else gI xs i:=by
 unfold gI;by_cases e:i = (j:Int)
 ·rw [if_pos e,e,YAC,YAt,YAI hj];rfl
 ·rw [if_neg e,YAt,YAG (by omega),<- YAt]
theorem zqP {zs:List Int} {i:Int} (h0:0 <= i) (h1:i < zs.length):atI (zs.map V.int) i = some (.int (gI zs i)):=zdH h0 h1
theorem zjz (v:V):∀ n:Nat,(List.replicate n [v]).flatten = List.replicate n v
 | 0=>rfl
 | n + 1=>by rw [YAS,YAS,YBk,zjz v n];rfl
theorem zgz:∀ {as bs:List Int},as.Pairwise (· < ·)->bs.Pairwise (· < ·)->(∀ k,k ∈ as ↔ k ∈ bs)->as = bs
 | [],[],_,_,_=>rfl
 | [],b :: bs,_,_,h=>absurd ((h b).mpr YAh) (by simp)
 | a :: as,[],_,_,h=>absurd ((h a).mp YAh) (by simp)
 | a :: as,b :: bs,pa,pb,h=>by
  rw [YBd] at pa pb;have hab:a = b:=by
   rcases YAk.mp ((h a).mp YAh) with e | e
   ·exact e
   ·rcases YAk.mp ((h b).mpr YAh) with e' | e'
    ·exact e'.symm
    ·have h1:=pb.1 a e;have h2:=pa.1 b e';omega
  subst hab;refine congrArg _ (zgz pa.2 pb.2 λk=>⟨λhk=>?_,λhk=>?_⟩)
  ·rcases YAk.mp ((h k).mp (YAj _ hk)) with e | e
   ·have:=pa.1 k hk;omega
   ·exact e
  ·rcases YAk.mp ((h k).mpr (YAj _ hk)) with e | e
   ·have:=pb.1 k hk;omega
   ·exact e
structure Tri where
 p:Addr
 n:Int
 e:Int
 d:Int
def triV (t:Tri):V:=.ref t.p
def triT (t:Tri):List V:=[.int t.n,.int t.e,.int t.d]
structure Steps (H:Hp) (ls:Addr) (ad:List Addr) (cs:Nat->List Tri):Prop where
 top:H ls = some (.lst (ad.map V.ref))
 row:∀ (m:Nat) a,ad[m]? = some a->H a = some (.lst ((cs m).map triV))
 tri:∀ (m:Nat) t,m < ad.length->t ∈ cs m->H t.p = some (.tup (triT t))
 nod:ad.Nodup
 out:ls ∉ ad
theorem Steps.same   (x:Steps H ls ad cs) (S:Same H H'):Steps H' ls ad cs:=
 ⟨S _ _ x.top,λm a h=>S _ _ (x.row m a h),λm t h h'=>S _ _ (x.tri m t h h'),x.nod,x.out⟩
def zja (rs:List Run) (hs:List Int) (k:Nat) (m:Nat) (t:Tri):Prop:=0 <= t.n/\t.n < k/\∃ r,rs[t.n.toNat]? = some r/\hs.contains r.hand = false/\((r.one = m/\t.e = r.other/\t.d = r.rise)\/(r.other = m/\t.e = r.one/\t.d = -r.rise))
def triC (t:Tri):Int × Int × Int:=(t.n,t.e,t.d)
def stepsF (rs:List Run) (hs:List Int):Nat->Nat->List (Int × Int × Int)
 | 0,_=>[]
 | k + 1,m=>stepsF rs hs k m ++ (match rs[k]? with
  | none=>[]
  | some r=>if hs.contains r.hand = true then [] else (if m = r.one.toNat then [((k:Int),r.other,r.rise)] else []) ++ (if m = r.other.toNat then [((k:Int),r.one,-r.rise)] else []))
structure StepsOk (rs:List Run) (hs:List Int) (k:Nat) (cs:Nat->List Tri):Prop where
 sound:∀ m t,t ∈ cs m->zja rs hs k m t
 full:∀ (i:Nat) r,i < k->rs[i]? = some r->hs.contains r.hand = false->(∃ t ∈ cs r.one.toNat,t.e = r.other)/\∃ t ∈ cs r.other.toNat,t.e = r.one
 few:∀ m,(cs m).length <= 2 * k
 cont:∀ m,(cs m).map triC = stepsF rs hs k m
def addC (cs:Nat->List Tri) (m:Nat) (t:Tri):Nat->List Tri:=λk=>if k = m then cs m ++ [t] else cs k
theorem mem_addC  : u ∈ addC cs m t k ↔ u ∈ cs k\/(k = m/\u = t):=by
 unfold addC;by_cases e:k = m
 ·subst e;rw [if_pos rfl,YAr,YAg];simp
 ·rw [if_neg e];simp [e]
theorem zjT {ad:List Addr} (h:ad.Nodup) {i j:Nat} {x:Addr} (h1:ad[i]? = some x) (h2:ad[j]? = some x):i = j:=by
 obtain ⟨a1,e1⟩:=YAi.mp h1;obtain ⟨a2,e2⟩:=YAi.mp h2;rcases Nat.lt_trichotomy i j with q | q | q
 ·exact absurd (e1.trans e2.symm) (YAZ.mp h i j a1 a2 q)
 ·exact q
 ·exact absurd (e2.trans e1.symm) (YAZ.mp h j i a2 a1 q)
theorem Steps.push {H:Hp} {ls:Addr} {ad:List Addr} {cs:Nat->List Tri} (x:Steps H ls ad cs) {m:Nat} {a:Addr} (hm:ad[m]? = some a) {t:Addr} (ht:H t = none) {n e d:Int} :
  Steps (upd (upd H t (.tup [.int n,.int e,.int d])) a (.lst ((cs m).map triV ++ [.ref t]))) ls ad (addC cs m ⟨t,n,e,d⟩):=by
 have ha:=x.row m a hm;have nat:a ≠ t:=zae ha ht;have hmem:a ∈ ad:=YAA hm;have nls:ls ≠ a:=λz=>x.out (z ▸ hmem);refine ⟨?_,λk b hb=>?_,λk u hk hu=>?_,x.nod,x.out⟩
 ·rw [zaf nls,zaf (zae x.top ht)];exact x.top
 ·by_cases ek:k = m
  ·subst ek;rw [hm] at hb;cases hb;rw [zad];unfold addC;rw [if_pos rfl,YAy];rfl
  ·have nb:b ≠ a:=λz=>ek (zjT x.nod hb (by rw [z];exact hm));rw [zaf nb,zaf (zae (x.row k b hb) ht)];unfold addC;rw [if_neg ek];exact x.row k b hb
 ·rcases mem_addC.mp hu with q | ⟨rfl,rfl⟩
  ·have hq:=x.tri k u hk q;have n1:u.p ≠ a:=λz=>by rw [z,ha] at hq;cases hq
   rw [zaf n1,zaf (zae hq ht)];exact hq
  ·show upd _ a _ t = _;rw [zaf nat.symm,zad];rfl
theorem StepsOk.up   (x:StepsOk rs hs k cs) (hr:rs[k]? = some r) (h:hs.contains r.hand = true):StepsOk rs hs (k + 1) cs:=
 ⟨λm t ht=>let ⟨a,b,c⟩:=x.sound m t ht;⟨a,by omega,c⟩,λi q hi hq hc=>by
  by_cases e:i = k
  ·subst e;rw [hr] at hq;cases hq;rw [h] at hc;cases hc
  ·exact x.full i q (by omega) hq hc,λm=>by have:=x.few m;omega,λm=>by
  show _ = stepsF rs hs k m ++ _;rw [x.cont m,hr];simp only [h,if_true,YA3]⟩
theorem StepsOk.add   (x:StepsOk rs hs k cs) (hr:rs[k]? = some r) (h:hs.contains r.hand = false) (h1:0 <= r.one) (h2:0 <= r.other) :
  StepsOk rs hs (k + 1) (addC (addC cs r.one.toNat ⟨t,k,r.other,r.rise⟩) r.other.toNat ⟨u,k,r.one,-r.rise⟩):=by
 refine ⟨λm q hq=>?_,λi q hi hq hc=>?_,λm=>?_,λm=>?_⟩
 ·rcases mem_addC.mp hq with hq | ⟨rfl,rfl⟩
  ·rcases mem_addC.mp hq with hq | ⟨rfl,rfl⟩
   ·obtain ⟨a,b,c⟩:=x.sound m q hq;exact ⟨a,by omega,c⟩
   ·exact ⟨by show (0:Int) <= (k:Int);omega,by show (k:Int) < ((k + 1:Nat):Int);omega,r,by show rs[((k:Int)).toNat]? = _;rw [YAC];exact hr,h,.inl ⟨by omega,rfl,rfl⟩⟩
  ·exact ⟨by show (0:Int) <= (k:Int);omega,by show (k:Int) < ((k + 1:Nat):Int);omega,r,by show rs[((k:Int)).toNat]? = _;rw [YAC];exact hr,h,.inr ⟨by omega,rfl,rfl⟩⟩
 ·by_cases e:i = k
  ·subst e;rw [hr] at hq;cases hq;exact ⟨⟨_,mem_addC.mpr (.inl (mem_addC.mpr (.inr ⟨rfl,rfl⟩))),rfl⟩,⟨_,mem_addC.mpr (.inr ⟨rfl,rfl⟩),rfl⟩⟩
  ·obtain ⟨⟨a,a1,a2⟩,b,b1,b2⟩:=x.full i q (by omega) hq hc;exact ⟨⟨a,mem_addC.mpr (.inl (mem_addC.mpr (.inl a1))),a2⟩,⟨b,mem_addC.mpr (.inl (mem_addC.mpr (.inl b1))),b2⟩⟩
 ·have:=x.few m
  unfold addC;split
  ·rename_i e1
   rw [YAs];split
   ·rename_i e2;subst e1;rw [<- e2] at *;rw [YAs];simp;omega
   ·subst e1;simp;omega
  ·split
   ·rename_i e2;subst e2;rw [YAs];simp;omega
   ·omega
 ·show _ = stepsF rs hs k m ++ _;rw [hr];simp only [h,YA2,YBM];unfold addC;by_cases c2:m = r.other.toNat
  ·subst c2;rw [if_pos rfl,if_pos rfl];by_cases c1:r.other.toNat = r.one.toNat
   ·rw [if_pos c1,if_pos c1,YAy,YAy,<- c1,x.cont,YA1];rfl
   ·rw [if_neg c1,if_neg c1,YAy,x.cont];rfl
  ·rw [if_neg c2,if_neg c2,YA3];by_cases c1:m = r.one.toNat
   ·subst c1;rw [if_pos rfl,if_pos rfl,YAy,x.cont];rfl
   ·rw [if_neg c1,if_neg c1,x.cont,YA3]
def zgO (K:PySem.W.Frag):Sp:=λvs H Q _=>∃ (n:Nat) (a s:Addr) (rs:List Run) (hs:List Int),vs = [.int n,.ref a,.ref s]/\SqL K H a (rs.map runV)/\Runs K H rs/\zaD n rs/\SqL K H s (hs.map V.int)/\n <= 1000/\rs.length <= 1000 /\
 ∀ (ls:Addr) (ad:List Addr) (cs:Nat->List Tri) H',Same H H'->ad.length = n->Steps H' ls ad cs->StepsOk rs hs rs.length cs->(∀ x ∈ ad,H x = none)->H ls = none->Q (.ref ls) H'
abbrev Nst:List Str:=["size","runs","struck","steps","number","one","other","rise","hand"]
theorem zpD:(["mark"]:List Str).Nodup:=by decide +kernel
structure Nd where
 m:Int
 t:Addr
 h:Int
 lt:Addr
 line:List Int
def ndK (x:Nd):Key × V:=(Sum.inl x.m,.ref x.t)
def zau (ns:List Nd):List Int:=ns.map Nd.m
structure TreeOk (rs:List Run) (hs:List Int) (start:Int) (n:Nat) (ns:List Nd):Prop where
 nod:(zau ns).Nodup
 inm:∀ x ∈ ns,0 <= x.m/\x.m < n
 walk:∀ x ∈ ns,walkF rs start 0 x.line = some (x.m,x.h)
 runs:∀ x ∈ ns,∀ z ∈ x.line,0 <= z/\z < (rs.length:Int)/\hs.contains (runAt rs z).hand = false/\(runAt rs z).one ∈ zau ns/\(runAt rs z).other ∈ zau ns
 uniq:∀ x ∈ ns,∀ y ∈ ns,∀ (i j:Nat) z,x.line[i]? = some z->y.line[j]? = some z->x.line.take (i + 1) = y.line.take (j + 1)
 start:start ∈ zau ns
 few:∀ x ∈ ns,x.line.length < ns.length
 keep:∀ x ∈ ns,∀ z ∈ x.line,∃ u ∈ ns,∃ v ∈ ns,u.m = (runAt rs z).one/\v.m = (runAt rs z).other/\v.h - u.h = (runAt rs z).rise
theorem zgl:∀ {here h:Int} {line:List Int} {e t z:Int},walkF rs here h line = some (e,t)->walkF rs here h (line ++ [z]) = walkF rs e t [z]
 | here,h,[],e,t,z,q=>by
  have:(here,h) = (e,t):=Option.some.inj q
  injection this with a b
  subst a b;rfl
 | here,h,n :: rest,e,t,z,q=>by
  rw [List.cons_append];show (if 0 <= n/\n < (rs.length:Int) then _ else _) = _;have q':(if 0 <= n/\n < (rs.length:Int) then (match stepR (runAt rs n) here with | some (e,d)=>walkF rs e (h + d) rest | none=>none) else none) = some (e,t):=q;by_cases c:0 <= n/\n < (rs.length:Int)
  ·rw [if_pos c] at q' ⊢;cases hs:stepR (runAt rs n) here with
   | none=>rw [hs] at q';cases q'
   | some ed=>rw [hs] at q';exact zgl q'
  ·rw [if_neg c] at q';cases q'
theorem mem_keys  : k ∈ zau ns ↔ ∃ x ∈ ns,x.m = k:=by unfold zau;exact YAD
theorem zbW (ns:List Nd) (x:Nd):zau (ns ++ [x]) = zau ns ++ [x.m]:=by unfold zau;rw [YAy];rfl
theorem TreeOk.add {rs:List Run} {hs:List Int} {start:Int} {n:Nat} {ns:List Nd} (X:TreeOk rs hs start n ns) (VM:zaD n rs) {p:Nd} (hp:p ∈ ns) {t:Tri} (hg:zja rs hs rs.length p.m.toNat t) (hn:t.e ∉ zau ns) {tt lt:Addr} :
  TreeOk rs hs start n (ns ++ [⟨t.e,tt,p.h + t.d,lt,p.line ++ [t.n]⟩]):=by
 obtain ⟨g0,g1,r,hr,hc,hg⟩:=hg;have pm:=X.inm p hp;have era:runAt rs t.n = r:=by
  have:=(zdJ g0 g1).1
  rw [hr] at this;exact (Option.some.inj this).symm
 have hmr:r ∈ rs:=YAA hr;have Vr:=VM r hmr;have epm:((p.m.toNat:Nat):Int) = p.m:=by omega
 rw [epm] at hg;have pk:p.m ∈ zau ns:=mem_keys.mpr ⟨p,hp,rfl⟩;have hstep:stepR (runAt rs t.n) p.m = some (t.e,t.d):=by
  rw [era];unfold stepR;rcases hg with ⟨a,b,c⟩ | ⟨a,b,c⟩
  ·rw [if_pos a.symm,b,c]
  ·by_cases q:p.m = r.one
   ·exact absurd (by rw [b,<- q];exact pk) hn
   ·rw [if_neg q,if_pos a.symm,b,c]
 have ends:(r.one ∈ zau ns ++ [t.e])/\r.other ∈ zau ns ++ [t.e]:=by
  rcases hg with ⟨a,b,c⟩ | ⟨a,b,c⟩
  ·exact ⟨YAB _ (a ▸ pk),YAo _ (by rw [b];exact YAh)⟩
  ·exact ⟨YAo _ (by rw [b];exact YAh),YAB _ (a ▸ pk)⟩
 have hfresh:∀ x ∈ ns,∀ (i:Nat),x.line[i]? ≠ some t.n:=λx hx i hz=>by
  obtain ⟨_,_,_,k1,k2⟩:=X.runs x hx t.n (YAA hz);rw [era] at k1 k2;rcases hg with ⟨a,b,c⟩ | ⟨a,b,c⟩
  ·exact hn (b ▸ k2)
  ·exact hn (b ▸ k1)
 have few:=X.few p hp;refine ⟨?_,λx hx=>?_,λx hx=>?_,λx hx z hz=>?_,λx hx y hy i j z hi hj=>?_,?_,λx hx=>?_,λx hx z hz=>?_⟩
 ·rw [zbW];exact zhm X.nod hn
 ·rcases YAr.mp hx with q | q
  ·exact X.inm x q
  ·rw [YAg.mp q];rcases hg with ⟨a,b,c⟩ | ⟨a,b,c⟩
   ·show 0 <= t.e/\t.e < n;rw [b];exact Vr.2.2
   ·show 0 <= t.e/\t.e < n;rw [b];exact ⟨Vr.1,Vr.2.1⟩
 ·rcases YAr.mp hx with q | q
  ·exact X.walk x q
  ·rw [YAg.mp q];show walkF rs start 0 (p.line ++ [t.n]) = some (t.e,p.h + t.d);rw [zgl (X.walk p hp),zd7 g0 g1 hstep];rfl
 ·rw [zbW];have old:∀ x ∈ ns,∀ z ∈ x.line,0 <= z/\z < (rs.length:Int)/\hs.contains (runAt rs z).hand = false/\(runAt rs z).one ∈ zau ns ++ [t.e]/\(runAt rs z).other ∈ zau ns ++ [t.e]:=λx q z hz=>by
   obtain ⟨a,b,c,d,e⟩:=X.runs x q z hz;exact ⟨a,b,c,YAB _ d,YAB _ e⟩
  rcases YAr.mp hx with q | q
  ·exact old x q z hz
  ·rw [YAg.mp q] at hz;rcases YAr.mp hz with hz | hz
   ·exact old p hp z hz
   ·rw [YAg.mp hz,era];exact ⟨g0,g1,hc,ends.1,ends.2⟩
 ·have look:∀ (i:Nat) z,(p.line ++ [t.n])[i]? = some z->(i < p.line.length/\p.line[i]? = some z/\(p.line ++ [t.n]).take (i + 1) = p.line.take (i + 1))\/(i = p.line.length/\z = t.n):=λi z hz=>by
   by_cases c:i < p.line.length
   ·rw [List.getElem?_append_left c] at hz;exact .inl ⟨c,hz,by rw [List.take_append_of_le_length (by omega)]⟩
   ·have hi:=(YAi.mp hz).1;rw [YAs] at hi;have hi':i < p.line.length + 1:=hi;have ei:i = p.line.length:=by omega
    subst ei;rw [List.getElem?_append_right (YAm _),Nat.sub_self] at hz;exact .inr ⟨rfl,(Option.some.inj hz).symm⟩
  rcases YAr.mp hx with qx | qx <;> rcases YAr.mp hy with qy | qy
  ·exact X.uniq x qx y qy i j z hi hj
  ·rw [YAg.mp qy] at hj ⊢;rcases look j z hj with ⟨c,h1,h2⟩ | ⟨c,h1⟩
   ·show _ = (p.line ++ [t.n]).take (j + 1);rw [h2];exact X.uniq x qx p hp i j z hi h1
   ·exact absurd (h1 ▸ hi) (hfresh x qx i)
  ·rw [YAg.mp qx] at hi ⊢;rcases look i z hi with ⟨c,h1,h2⟩ | ⟨c,h1⟩
   ·show (p.line ++ [t.n]).take (i + 1) = _;rw [h2];exact X.uniq p hp y qy i j z h1 hj
   ·exact absurd (h1 ▸ hj) (hfresh y qy j)
  ·rw [YAg.mp qx] at hi ⊢;rw [YAg.mp qy] at hj ⊢;show (p.line ++ [t.n]).take (i + 1) = (p.line ++ [t.n]).take (j + 1);rcases look i z hi with ⟨c,h1,h2⟩ | ⟨c,h1⟩ <;> rcases look j z hj with ⟨c',h1',h2'⟩ | ⟨c',h1'⟩
   ·rw [h2,h2'];exact X.uniq p hp p hp i j z h1 h1'
   ·exact absurd (h1' ▸ h1) (hfresh p hp i)
   ·exact absurd (h1 ▸ h1') (hfresh p hp j)
   ·rw [c,c']
 ·rw [zbW];exact YAB _ X.start
 ·rw [YAs];show x.line.length < ns.length + 1;rcases YAr.mp hx with q | q
  ·have:=X.few x q;omega
  ·rw [YAg.mp q];show (p.line ++ [t.n]).length < _;rw [YAs];show p.line.length + 1 < _;omega
 ·have old:∀ x ∈ ns,∀ z ∈ x.line,∃ u ∈ ns ++ [⟨t.e,tt,p.h + t.d,lt,p.line ++ [t.n]⟩],∃ v ∈ ns ++ [⟨t.e,tt,p.h + t.d,lt,p.line ++ [t.n]⟩],u.m = (runAt rs z).one/\v.m = (runAt rs z).other/\v.h - u.h = (runAt rs z).rise:=λx q z hz=>by
   obtain ⟨u,hu,v,hv,e⟩:=X.keep x q z hz;exact ⟨u,YAB _ hu,v,YAB _ hv,e⟩
  rcases YAr.mp hx with q | q
  ·exact old x q z hz
  ·rw [YAg.mp q] at hz;rcases YAr.mp hz with hz | hz
   ·exact old p hp z hz
   ·rw [YAg.mp hz,era];rcases hg with ⟨a,b,c⟩ | ⟨a,b,c⟩
    ·exact ⟨p,YAB _ hp,_,YAo _ YAh,a.symm,b,by show p.h + t.d - p.h = r.rise;omega⟩
    ·exact ⟨_,YAo _ YAh,p,YAB _ hp,b,a.symm,by show p.h - (p.h + t.d) = r.rise;omega⟩
theorem TreeOk.len {rs:List Run} {hs:List Int} {start:Int} {n:Nat} {ns:List Nd} (X:TreeOk rs hs start n ns):ns.length <= n:=by
 have h:=zaF (xs:=(List.range n).map Int.ofNat) X.nod λk hk=>by
  obtain ⟨x,hx,rfl⟩:=mem_keys.mp hk
  have:=X.inm x hx
  refine YAD.mpr ⟨x.m.toNat,YA4.mpr (by omega),?_⟩;show ((x.m.toNat:Nat):Int) = x.m;omega
 unfold zau at h
 simpa using h
def Closed (cs:Nat->List Tri) (ns:List Nd) (m:Int):Prop:=∀ t ∈ cs m.toNat,t.e ∈ zau ns
theorem Closed.snoc   (h:Closed cs ns m):Closed cs (ns ++ [x]) m:=λt ht=>by rw [zbW];exact YAB _ (h t ht)
def usable (hs:List Int) (rs:List Run):List Run:=rs.filter λr=>!hs.contains r.hand
theorem zmj {rs:List Run} {hs:List Int} {start:Int} {n:Nat} {ns:List Nd} {cs:Nat->List Tri} (VM:zaD n rs) (X:TreeOk rs hs start n ns) (So:StepsOk rs hs rs.length cs) (hc:∀ x ∈ ns,Closed cs ns x.m) {j:Int} (c:Conn (usable hs rs) start j):j ∈ zau ns:=by
 induction c with
 | refl=>exact X.start
 | go r c m e ih=>
  obtain ⟨x,hx,ex⟩:=mem_keys.mp ih;obtain ⟨mr,mc⟩:=YA9.mp m;have mc':hs.contains r.hand = false:=by simpa using mc
  obtain ⟨i,hi⟩:=List.getElem?_of_mem mr;obtain ⟨⟨t1,a1,a2⟩,t2,b1,b2⟩:=So.full i r (YAi.mp hi).1 hi mc';have cl:=hc x hx;rcases e with ⟨rfl,rfl⟩ | ⟨rfl,rfl⟩
  ·rw [<- a2];exact cl t1 (by rw [ex];exact a1)
  ·rw [<- b2];exact cl t2 (by rw [ex];exact b1)
theorem zgn  : ∀ {here h:Int} {line:List Int} {e t:Int},walkF rs here h line = some (e,t)->(∀ z ∈ line,hs.contains (runAt rs z).hand = false)->Conn (usable hs rs) here e
 | here,h,[],e,t,q,_=>by
  have:(here,h) = (e,t):=Option.some.inj q
  injection this with a b
  subst a;exact .refl _
 | here,h,n :: rest,e,t,q,hu=>by
  have hin:=zeX q n YAh;have q':(if 0 <= n/\n < (rs.length:Int) then (match stepR (runAt rs n) here with | some (e,d)=>walkF rs e (h + d) rest | none=>none) else none) = some (e,t):=q;rw [if_pos hin] at q';have mr:=(zdJ hin.1 hin.2).2.2;have mu:runAt rs n ∈ usable hs rs:=YA9.mpr ⟨mr,by rw [hu n YAh];rfl⟩;cases hs':stepR (runAt rs n) here with
  | none=>rw [hs'] at q';cases q'
  | some ed=>
   rw [hs'] at q';have ih:=zgn q' λz hz=>hu z (YAj _ hz);refine Conn.trans ?_ ih;unfold stepR at hs';by_cases c1:here = (runAt rs n).one
   ·rw [if_pos c1] at hs';cases hs';exact .go _ (.refl _) mu (.inl ⟨c1.symm,rfl⟩)
   ·rw [if_neg c1] at hs';by_cases c2:here = (runAt rs n).other
    ·rw [if_pos c2] at hs';cases hs';exact .go _ (.refl _) mu (.inr ⟨c2.symm,rfl⟩)
    ·rw [if_neg c2] at hs';cases hs'
theorem zl4 {rs:List Run} {hs:List Int} {start:Int} {n:Nat} {ns:List Nd} {cs:Nat->List Tri} (VM:zaD n rs) (X:TreeOk rs hs start n ns) (So:StepsOk rs hs rs.length cs) (hc:∀ x ∈ ns,Closed cs ns x.m) (j:Int):j ∈ zau ns ↔ Conn (usable hs rs) start j:=by
 refine ⟨λh=>?_,zmj VM X So hc⟩;obtain ⟨x,hx,rfl⟩:=mem_keys.mp h;exact zgn (X.walk x hx) λz hz=>(X.runs x hx z hz).2.2.1
structure TreeH (K:PySem.W.Frag) (H:Hp) (dt:Addr) (ns:List Nd):Prop where
 dict:H dt = some (.dK (ns.map ndK))
 node:∀ x ∈ ns,H x.t = some (.tup [.int x.h,.ref x.lt])/\SqT K H x.lt (x.line.map V.int)
theorem TreeH.same   (X:TreeH K H dt ns) (S:Same H H'):TreeH K H' dt ns:=
 ⟨S _ _ X.dict,λx hx=>⟨S _ _ (X.node x hx).1,zch (tp:=true) S (X.node x hx).2⟩⟩
def znL:HO->Prop
 | .tup _=>False
 | .frz _ _=>False
 | _=>True
theorem zgU   (h:SqT K H a xs) (hd:H d = some o) (hn:znL o):SqT K (upd H d o') a xs:=by
 rcases h with (h | ⟨ob,h⟩) | h
 ·have:a ≠ d:=λz=>by rw [z,hd] at h;cases h;exact hn
  exact .inl (.inl (by rw [zaf this];exact h))
 ·have:a ≠ d:=λz=>by rw [z,hd] at h;cases h;exact hn
  exact .inl (.inr ⟨ob,by rw [zaf this];exact h⟩)
 ·exact .inr h
theorem zeo   (h:H a = some (.tup xs)) (hd:H d = some o) (hn:znL o):upd H d o' a = some (.tup xs):=by
 have:a ≠ d:=λz=>by rw [z,hd] at h;cases h;exact hn
 rw [zaf this];exact h
theorem TreeH.upd   (X:TreeH K H dt ns) (hd:H d = some o) (hn:znL o) (ne:dt ≠ d):TreeH K (L2.upd H d o') dt ns:=
 ⟨by rw [zaf ne];exact X.dict,λx hx=>⟨zeo (X.node x hx).1 hd hn,zgU (X.node x hx).2 hd hn⟩⟩
theorem valV_none  : valV (ns.map ndK) (Sum.inl k) = none ↔ k ∉ zau ns:=by
 constructor
 ·intro h hk;obtain ⟨x,hx,rfl⟩:=mem_keys.mp hk;exact znO h (YAD.mpr ⟨ndK x,YAW hx,rfl⟩)
 ·intro h;cases e:valV (ns.map ndK) (Sum.inl k) with
  | none=>rfl
  | some v=>
   obtain ⟨y,hy,ey⟩:=YAD.mp (zk7 e);obtain ⟨x,hx,rfl⟩:=YAD.mp hy;exact absurd (mem_keys.mpr ⟨x,hx,Sum.inl.inj ey⟩) h
theorem zfN (hn:(zau ns).Nodup) (hx:x ∈ ns):valV (ns.map ndK) (Sum.inl x.m) = some (.ref x.t):=by
 induction ns with
 | nil=>cases hx
 | cons y ns ih=>
  unfold zau at hn;rw [YAb,YBf] at hn;rw [YAb];rcases YAk.mp hx with rfl | q
  ·exact zeY (p:=ndK x) rfl
  ·have:¬ (ndK y).1 = Sum.inl x.m:=λz=>hn.1 (by rw [show y.m = x.m from Sum.inl.inj z];exact YAW q)
   rw [zeT this];exact ih hn.2 q
structure TI (K:PySem.W.Frag) (H0:Hp) (rs:List Run) (hs:List Int) (start:Int) (n:Nat) (dt ln lf:Addr) (nw:List Int) (c0:Nat) (H:Hp) (ns:List Nd) (fr:List Int):Prop where
 same:Same H0 H
 th:TreeH K H dt ns
 tok:TreeOk rs hs start n ns
 hln:H ln = some (.lst (nw.map V.int))
 hlf:H lf = some (.lst (fr.map V.int))
 frk:∀ z ∈ fr,z ∈ zau ns
 nwk:∀ z ∈ nw,z ∈ zau ns
 cnt:ns.length = c0 + fr.length
theorem TI.grow {K:PySem.W.Frag} {H0:Hp} {rs:List Run} {hs:List Int} {start:Int} {n:Nat} {dt ln lf:Addr} {nw:List Int} {c0:Nat} {H H':Hp} {ns:List Nd} {fr:List Int} (X:TI K H0 rs hs start n dt ln lf nw c0 H ns fr) (S:Same H H'):TI K H0 rs hs start n dt ln lf nw c0 H' ns fr:=
 ⟨X.same.trans S,X.th.same S,X.tok,S _ _ X.hln,S _ _ X.hlf,X.frk,X.nwk,X.cnt⟩
theorem TI.add {K:PySem.W.Frag} {H0:Hp} {rs:List Run} {hs:List Int} {start:Int} {n:Nat} {dt ln lf:Addr} {nw:List Int} {c0:Nat} {H:Hp} {ns:List Nd} {fr:List Int} (X:TI K H0 rs hs start n dt ln lf nw c0 H ns fr) (VM:zaD n rs) (fd:H0 dt = none) (fl:H0 lf = none) (nll:ln ≠ lf)
  {p:Nd} (hp:p ∈ ns) {t:Tri} (hg:zja rs hs rs.length p.m.toNat t) (hn:t.e ∉ zau ns) {tt lt:Addr} (htt:H tt = some (.tup [.int (p.h + t.d),.ref lt])) (hlt:SqT K H lt ((p.line ++ [t.n]).map V.int)) :
  TI K H0 rs hs start n dt ln lf nw c0 (upd (upd H dt (.dK (putK (ns.map ndK) (Sum.inl t.e) (.ref tt)))) lf (.lst (fr.map V.int ++ [.int t.e]))) (ns ++ [⟨t.e,tt,p.h + t.d,lt,p.line ++ [t.n]⟩]) (fr ++ [t.e]):=by
 have ndl:dt ≠ lf:=λz=>by have:=X.th.dict;rw [z,X.hlf] at this;cases this
 have nln:ln ≠ dt:=λz=>by have:=X.hln;rw [z,X.th.dict] at this;cases this
 have ep:putK (ns.map ndK) (Sum.inl t.e) (.ref tt) = (ns ++ [(⟨t.e,tt,p.h + t.d,lt,p.line ++ [t.n]⟩:Nd)]).map ndK:=by
  rw [zjF _ (valV_none.mpr hn),YAy];rfl
 have hlf1:upd H dt (.dK (putK (ns.map ndK) (Sum.inl t.e) (.ref tt))) lf = some (.lst (fr.map V.int)):=by rw [zaf ndl.symm];exact X.hlf
 refine ⟨λc o e=>?_,⟨?_,λx hx=>?_⟩,X.tok.add VM hp hg hn,?_,?_,λz hz=>?_,λz hz=>?_,?_⟩
 ·rw [zaf (zae e fl),zaf (zae e fd)];exact X.same c o e
 ·rw [zaf ndl,zad,ep]
 ·have hh:H x.t = some (.tup [.int x.h,.ref x.lt])/\SqT K H x.lt (x.line.map V.int):=by
   rcases YAr.mp hx with q | q
   ·exact X.th.node x q
   ·rw [YAg.mp q];exact ⟨htt,hlt⟩
  exact ⟨zeo (zeo hh.1 X.th.dict trivial) hlf1 trivial,zgU (zgU hh.2 X.th.dict trivial) hlf1 trivial⟩
 ·rw [zaf nll,zaf nln];exact X.hln
 ·rw [zad,YAy];rfl
 ·rw [zbW];rcases YAr.mp hz with q | q
  ·exact YAB _ (X.frk z q)
  ·exact YAo _ (by rw [YAg.mp q];exact YAh)
 ·rw [zbW];exact YAB _ (X.nwk z hz)
 ·rw [YAs,YAs,X.cnt];show _ + 1 = _ + (_ + 1);omega
abbrev PN:=Int × Int × List Int
def za5 (x:Nd):PN:=(x.m,x.h,x.line)
def zbF (tr:List PN) (m:Int):PN:=(tr.find? λp=>decide (p.1 = m)).getD (0,0,[])
def ex1 (p:PN) (st:List PN × List Int) (t:Int × Int × Int):List PN × List Int:=if t.2.1 ∈ st.1.map (·.1) then st else (st.1 ++ [(t.2.1,p.2.1 + t.2.2,p.2.2 ++ [t.1])],st.2 ++ [t.2.1])
def exM (S:Nat->List (Int × Int × Int)) (st:List PN × List Int) (m:Int):List PN × List Int:=(S m.toNat).foldl (ex1 (zbF st.1 m)) st
def exL (S:Nat->List (Int × Int × Int)) (tr:List PN) (nw:List Int):List PN × List Int:=nw.foldl (exM S) (tr,[])
def itT (S:Nat->List (Int × Int × Int)) (start:Int):Nat->List PN × List Int
 | 0=>([(start,0,[])],[start])
 | k + 1=>exL S (itT S start k).1 (itT S start k).2
def TreeIs (S:Nat->List (Int × Int × Int)) (start:Int) (tr:List PN):Prop:=∃ k,itT S start k = (tr,[])
theorem zg4 {S:Nat->List (Int × Int × Int)} {start:Int} {k:Nat} {tr:List PN} (h:itT S start k = (tr,[])):∀ j,itT S start (k + j) = (tr,[])
 | 0=>h
 | j + 1=>by
  show exL S (itT S start (k + j)).1 (itT S start (k + j)).2 = _;rw [zg4 h j];rfl
theorem TreeIs.uniq {S:Nat->List (Int × Int × Int)} {start:Int} {a b:List PN} (x:TreeIs S start a) (y:TreeIs S start b):a = b:=by
 obtain ⟨i,hi⟩:=x;obtain ⟨j,hj⟩:=y;have h1:=zg4 hi j;have h2:=zg4 hj i;rw [Nat.add_comm] at h2;rw [h1] at h2;exact (Prod.mk.inj h2).1
theorem zey {α β:Type} (f:β->α->β) (s:β) {xs:List α} {j:Nat} {x:α} (h:xs[j]? = some x):(xs.take (j + 1)).foldl f s = f ((xs.take j).foldl f s) x:=by
 rw [zco h,List.foldl_append];rfl
theorem zbS (hn:(zau ns).Nodup) (hx:x ∈ ns):zbF (ns.map za5) x.m = za5 x:=by
 unfold zbF
 induction ns with
 | nil=>cases hx
 | cons y ns ih=>
  unfold zau at hn;rw [YAb,YBf] at hn;rw [YAb,YBE];rcases YAk.mp hx with rfl | q
  ·simp [za5]
  ·have:¬ (za5 y).1 = x.m:=λz=>hn.1 (by rw [show y.m = x.m from z];exact YAW q)
   rw [show decide ((za5 y).1 = x.m) = false from YAz this];exact ih hn.2 q
theorem ziG (ns:List Nd):(ns.map za5).map (·.1) = zau ns:=by unfold zau;rw [YAH];rfl
def zj4 (K:PySem.W.Frag):Sp:=λvs H Q _=>∃ (start:Int) (ls:Addr) (n:Nat) (ad:List Addr) (cs:Nat->List Tri) (rs:List Run) (hs:List Int),vs = [.int start,.ref ls]/\0 <= start/\start < n/\Steps H ls ad cs/\ad.length = n/\StepsOk rs hs rs.length cs/\zaD n rs/\n <= 1000/\rs.length <= 1000 /\
 ∀ (dt:Addr) (ns:List Nd) H',Same H H'->H dt = none->TreeH K H' dt ns->TreeOk rs hs start n ns->(∀ j,j ∈ zau ns ↔ Conn (usable hs rs) start j)->TreeIs (stepsF rs hs rs.length) start (ns.map za5)->Q (.ref dt) H'
abbrev Ntr:List Str:=["start","steps","tree","newest","fresh","mark","height","line","number","end","rise"]
def SL (K:PySem.W.Frag) (H:Hp) (n:Nat) (rs:List Run) (hs:List Int) (one other:Int) (v:V):Prop:=
 ∃ ns:List Nd,TreeOk rs hs one n ns/\TreeIs (stepsF rs hs rs.length) one (ns.map za5)/\(∀ j,j ∈ zau ns ↔ Conn (usable hs rs) one j)/\((v = .non/\other ∉ zau ns)\/∃ x ∈ ns,x.m = other/\v = .ref x.lt/\SqT K H x.lt (x.line.map V.int))
theorem zfk (hn:(zau ns).Nodup) (hx:x ∈ ns) (e:x.m = k):za5 x = zbF (ns.map za5) k:=by rw [<- e,zbS hn hx]
theorem zjI (S:Nat->List (Int × Int × Int)) (start:Int):∀ k,∃ rest,(itT S start k).1 = (start,0,[]) :: rest
 | 0=>⟨[],rfl⟩
 | k + 1=>by
  have one:∀ (p:PN) (ts:List (Int × Int × Int)) (st:List PN × List Int),(∃ rest,st.1 = (start,0,[]) :: rest)->∃ rest,(ts.foldl (ex1 p) st).1 = (start,0,[]) :: rest:=λp ts=>by
   induction ts with
   | nil=>intro st h;exact h
   | cons t ts ih=>
    intro st h;rw [List.foldl_cons];refine ih _ ?_;unfold ex1;split
    ·exact h
    ·obtain ⟨rest,e⟩:=h;exact ⟨rest ++ _,by show st.1 ++ _ = _;rw [e];rfl⟩
  have two:∀ (nw:List Int) (st:List PN × List Int),(∃ rest,st.1 = (start,0,[]) :: rest)->∃ rest,(nw.foldl (exM S) st).1 = (start,0,[]) :: rest:=λnw=>by
   induction nw with
   | nil=>intro st h;exact h
   | cons m nw ih=>
    intro st h;rw [List.foldl_cons];exact ih _ (one _ _ _ h)
  exact two _ _ (zjI S start k)
theorem TreeOk.lineNodup {rs:List Run} {hs:List Int} {start:Int} {n:Nat} {ns:List Nd} (X:TreeOk rs hs start n ns) {x:Nd} (hx:x ∈ ns):x.line.Nodup:=by
 refine YAZ.mpr λi j hi hj hij e=>?_;have h:=X.uniq x hx x hx i j x.line[i] (YAe hi) (by rw [e];exact YAe hj)
 have:=congrArg List.length h
 rw [YBv,YBv] at this;omega
def zkB (K:PySem.W.Frag):Sp:=λvs H Q _=>∃ (n:Nat) (a s:Addr) (rs:List Run) (hs:List Int) (one other:Int),vs = [.int n,.ref a,.ref s,.int one,.int other]/\SqL K H a (rs.map runV)/\Runs K H rs/\zaD n rs/\SqL K H s (hs.map V.int)/\0 <= one/\one < n/\n <= 1000/\rs.length <= 1000 /\
 ∀ v H',Same H H'->SL K H' n rs hs one other v->Q v H'
structure TR where
 d:Addr
 st:Int
 ns:List Nd
def trV (t:TR):V:=.ref t.d
structure TreeAt (K:PySem.W.Frag) (H:Hp) (n:Nat) (rs:List Run) (hs:List Int) (t:TR):Prop where
 th:TreeH K H t.d t.ns
 tok:TreeOk rs hs t.st n t.ns
 keys:∀ j,j ∈ zau t.ns ↔ Conn (usable hs rs) t.st j
 is:TreeIs (stepsF rs hs rs.length) t.st (t.ns.map za5)
 b0:0 <= t.st
 b1:t.st < n
def Firsts (k:Nat) (rs:List Run) (sts:List Int):Prop:=sts.Pairwise (· < ·)/\∀ m,m ∈ sts ↔ (0 <= m/\m < k/\∀ j,0 <= j->j < m->¬ Conn rs j m)
theorem Firsts.uniq  (x:Firsts k rs a) (y:Firsts k rs b):a = b:=zgz x.1 y.1 λm=>(x.2 m).trans (y.2 m).symm
theorem TreeAt.same    (x:TreeAt K H n rs hs t) (S:Same H H'):TreeAt K H' n rs hs t:=⟨x.th.same S,x.tok,x.keys,x.is,x.b0,x.b1⟩
theorem TreeAt.upd     (x:TreeAt K H n rs hs t) (hd:H d = some o) (hn:znL o) (ne:t.d ≠ d):TreeAt K (L2.upd H d o') n rs hs t:=⟨x.th.upd hd hn ne,x.tok,x.keys,x.is,x.b0,x.b1⟩
theorem Firsts.no  (x:Firsts k rs sts) (h:∃ m:Int,0 <= m/\m < k/\Conn rs m k):Firsts (k + 1) rs sts:=by
 refine ⟨x.1,λm=>(x.2 m).trans ⟨λ⟨a,b,c⟩=>⟨a,by omega,c⟩,λ⟨a,b,c⟩=>⟨a,?_,c⟩⟩⟩;by_cases e:m = k
 ·subst e;obtain ⟨q,q0,q1,qc⟩:=h;exact absurd qc (c q q0 q1)
 ·omega
theorem Firsts.yes  (x:Firsts k rs sts) (h:¬ ∃ m:Int,0 <= m/\m < k/\Conn rs m k):Firsts (k + 1) rs (sts ++ [(k:Int)]):=by
 refine ⟨?_,λm=>?_⟩
 ·rw [List.pairwise_append];refine ⟨x.1,by simp,λa ha b hb=>?_⟩
  have:=(x.2 a).mp ha
  rw [YAg.mp hb];exact this.2.1
 ·rw [YAr,YAg,x.2 m];constructor
  ·rintro (⟨a,b,c⟩ | rfl)
   ·exact ⟨a,by omega,c⟩
   ·exact ⟨by omega,by omega,λj j0 j1 c=>h ⟨j,j0,j1,c⟩⟩
  ·rintro ⟨a,b,c⟩;by_cases e:m = k
   ·exact .inr e
   ·exact .inl ⟨a,by omega,c⟩
def zfK (K:PySem.W.Frag):Sp:=λvs H Q _=>∃ (n:Nat) (a s:Addr) (rs:List Run) (hs:List Int),vs = [.int n,.ref a,.ref s]/\SqL K H a (rs.map runV)/\Runs K H rs/\zaD n rs/\SqL K H s (hs.map V.int)/\n <= 1000/\rs.length <= 1000 /\
 ∀ (lt:Addr) (ts:List TR) H',Same H H'->H lt = none->H' lt = some (.lst (ts.map trV))->(∀ t ∈ ts,TreeAt K H' n rs hs t)->Firsts n (usable hs rs) (ts.map TR.st)->ts.length <= n->(∀ t ∈ ts,H t.d = none)->(ts.map TR.d).Nodup->Q (.ref lt) H'
theorem zgg (rs:List Run):usable [] rs = rs:=by unfold usable;exact List.filter_eq_self.mpr λr _=>rfl
theorem zhn {rs:List Run} {f:Int->Int} (hf:∀ r ∈ rs,f r.other - f r.one = r.rise):∀ {here h:Int} {line:List Int} {e t:Int},walkF rs here h line = some (e,t)->t - h = f e - f here
 | here,h,[],e,t,q=>by
  have:(here,h) = (e,t):=Option.some.inj q
  injection this with a b
  subst a b;omega
 | here,h,n :: rest,e,t,q=>by
  have hin:=zeX q n YAh;have q':(if 0 <= n/\n < (rs.length:Int) then (match stepR (runAt rs n) here with | some (e,d)=>walkF rs e (h + d) rest | none=>none) else none) = some (e,t):=q;rw [if_pos hin] at q';have hr:=hf _ (zdJ hin.1 hin.2).2.2;cases hs':stepR (runAt rs n) here with
  | none=>rw [hs'] at q';cases q'
  | some ed=>
   rw [hs'] at q';have ih:=zhn hf q';unfold stepR at hs';by_cases c1:here = (runAt rs n).one
   ·rw [if_pos c1] at hs';cases hs';rw [c1];show t - h = _
    have:t - (h + (runAt rs n).rise) = f e - f (runAt rs n).other:=ih
    omega
   ·rw [if_neg c1] at hs';by_cases c2:here = (runAt rs n).other
    ·rw [if_pos c2] at hs';cases hs';rw [c2]
     have:t - (h + -(runAt rs n).rise) = f e - f (runAt rs n).one:=ih
     omega
    ·rw [if_neg c2] at hs';cases hs'
theorem zmQ    (X:TreeAt K H n rs hs t) (hx:x ∈ t.ns) (e:x.m = t.st):x.h = 0:=by
 obtain ⟨k,hk⟩:=X.is;obtain ⟨rest,hr⟩:=zjI (stepsF rs hs rs.length) t.st k;rw [hk] at hr;have hr':t.ns.map za5 = (t.st,0,[]) :: rest:=hr;have e1:=zfk X.tok.nod hx e;rw [hr'] at e1;have e2:zbF ((t.st,0,[]) :: rest) t.st = (t.st,0,[]):=by unfold zbF;rw [YBE];simp
 rw [e2] at e1;unfold za5 at e1;injection e1 with _ e1
 exact (Prod.mk.inj e1).1
theorem znG  : ∀ (i:Nat) (j:Int),(i:Int) < k->Conn rs i j->∃ m:Int,0 <= m/\m <= i/\Conn rs m j/\∀ q,0 <= q->q < m->¬ Conn rs q m:=by
 intro i
 induction i using Nat.strongRecOn with
 | _ i ih=>
  intro j hi hc;by_cases h:∃ q:Nat,q < i/\Conn rs q i
  ·obtain ⟨q,hq,qc⟩:=h;obtain ⟨m,m0,m1,mc,mf⟩:=ih q hq j (by omega) (qc.trans hc);exact ⟨m,m0,by omega,mc,mf⟩
  ·refine ⟨i,by omega,by omega,hc,λq q0 q1 qc=>h ⟨q.toNat,by omega,?_⟩⟩;rw [YBq q0];exact qc
theorem zdz {K:PySem.W.Frag} {H:Hp} {n:Nat} {rs:List Run} {hs:List Int} {ts:List TR} (ht:∀ t ∈ ts,TreeAt K H n rs hs t) (hF:Firsts n (usable hs rs) (ts.map TR.st)) {i:Int} (h0:0 <= i) (h1:i < n):∃ t ∈ ts,∃ x ∈ t.ns,x.m = i:=by
 have hi:((i.toNat:Nat):Int) = i:=by omega
 obtain ⟨m,m0,m1,mc,mf⟩:=znG (rs:=usable hs rs) (k:=n) i.toNat i (by omega) (by rw [hi];exact .refl _);have hm:=(hF.2 m).mpr ⟨m0,by omega,mf⟩;obtain ⟨t,htm,e⟩:=YAD.mp hm;have hk:=((ht t htm).keys i).mpr (by rw [e];exact mc);obtain ⟨x,hx,ex⟩:=mem_keys.mp hk;exact ⟨t,htm,x,hx,ex⟩
theorem zmC {K:PySem.W.Frag} {H:Hp} {n:Nat} {rs:List Run} {hs:List Int} {ts:List TR} (ht:∀ t ∈ ts,TreeAt K H n rs hs t) (hF:Firsts n (usable hs rs) (ts.map TR.st)) {t u:TR} (a:t ∈ ts) (b:u ∈ ts) {x y:Nd} (hx:x ∈ t.ns) (hy:y ∈ u.ns) (e:x.m = y.m):x.h = y.h:=by
 have T:=ht t a;have U:=ht u b;have c1:=(T.keys x.m).mp (mem_keys.mpr ⟨x,hx,rfl⟩);have c2:=(U.keys y.m).mp (mem_keys.mpr ⟨y,hy,rfl⟩);rw [e] at c1;have c:=c1.trans c2.symm;have f1:=(hF.2 t.st).mp (YAW a);have f2:=(hF.2 u.st).mp (YAW b);have es:t.st = u.st:=by
  rcases Int.lt_trichotomy t.st u.st with q | q | q
  ·exact absurd c (f2.2.2 _ f1.1 q)
  ·exact q
  ·exact absurd c.symm (f1.2.2 _ f2.1 q)
 have ei:=T.is;rw [es] at ei;have en:=ei.uniq U.is;have e1:za5 x = za5 y:=by rw [zfk T.tok.nod hx e,zfk U.tok.nod hy rfl,en]
 unfold za5 at e1;injection e1 with _ e1
 exact (Prod.mk.inj e1).1
def ze7 (n:Nat) (rs:List Run) (hts:List Int):Prop:=hts.length = n/\HtOk rs hts/\∀ m:Int,0 <= m->m < n->(∀ j,0 <= j->j < m->¬ Conn rs j m)->gI hts m = 0
def zqh (K:PySem.W.Frag):Sp:=λvs H Q _=>∃ (n:Nat) (a:Addr) (rs:List Run),vs = [.int n,.ref a]/\SqL K H a (rs.map runV)/\Runs K H rs/\zaD n rs/\n <= 1000/\rs.length <= 1000 /\
 (∀ H',Same H H'->zfZ rs->Q .non H')/\∀ (l:Addr) (hts:List Int) H',Same H H'->H l = none->H' l = some (.lst (hts.map V.int))->ze7 n rs hts->Q (.ref l) H'
theorem holds_iff  : (rs.map (zk8 hts)).all id = true ↔ HtOk rs hts:=by
 rw [YBi];constructor
 ·intro h r hr
  have:=h _ (YAW hr)
  exact YAM this
 ·intro h b hb;obtain ⟨r,hr,rfl⟩:=YAD.mp hb;exact YAl (h r hr)
def comm:List Int->List Int->Nat
 | a :: as,b :: bs=>if a = b then comm as bs + 1 else 0
 | _,_=>0
theorem zjm:∀ {A B:List Int} {k:Nat},k <= A.length->k <= B.length->A.take k = B.take k->(k = A.length\/k = B.length\/A[k]? ≠ B[k]?)->k = comm A B
 | [],B,k,h1,_,_,_=>by
  have:k = 0:=by simpa using h1
  subst this;cases B <;> rfl
 | a :: as,[],k,_,h2,_,_=>by
  have:k = 0:=by simpa using h2
  subst this;rfl
 | a :: as,b :: bs,0,_,_,_,h=>by
  have:a ≠ b:=by
   rcases h with h | h | h
   ·simp at h
   ·simp at h
   ·intro z;exact h (by simp [z])
  unfold comm;rw [if_neg this]
 | a :: as,b :: bs,k + 1,h1,h2,h3,h=>by
  rw [List.take_succ_cons,List.take_succ_cons] at h3;injection h3 with e1 e2
  unfold comm;rw [if_pos e1,<- zjm (k:=k) (by simpa using h1) (by simpa using h2) e2 (by simpa using h)]
theorem zeg:∀ (A B:List Int),comm A B <= A.length/\comm A B <= B.length/\A.take (comm A B) = B.take (comm A B)/\(∀ a b,A[comm A B]? = some a->B[comm A B]? = some b->a ≠ b)
 | [],B=>by cases B <;> simp [comm]
 | a :: as,[]=>by simp [comm]
 | a :: as,b :: bs=>by
  unfold comm;by_cases e:a = b
  ·rw [if_pos e];obtain ⟨h1,h2,h3,h4⟩:=zeg as bs;refine ⟨by simpa using h1,by simpa using h2,by rw [List.take_succ_cons,List.take_succ_cons,e,h3],λx y hx hy=>h4 x y (by simpa using hx) (by simpa using hy)⟩
  ·rw [if_neg e];exact ⟨YAF _,YAF _,rfl,λx y hx hy=>by simp at hx hy;rw [<- hx,<- hy];exact e⟩
def zba (A B:List Int):List Int:=(A.drop (comm A B)).reverse ++ B.drop (comm A B)
theorem zfn:∀ {here h:Int} {l1 l2:List Int} {e t:Int},walkF rs here h l1 = some (e,t)->walkF rs here h (l1 ++ l2) = walkF rs e t l2
 | here,h,[],l2,e,t,q=>by
  have:(here,h) = (e,t):=Option.some.inj q
  injection this with a b
  subst a b;rfl
 | here,h,n :: rest,l2,e,t,q=>by
  rw [List.cons_append];show (if 0 <= n/\n < (rs.length:Int) then _ else _) = _;have q':(if 0 <= n/\n < (rs.length:Int) then (match stepR (runAt rs n) here with | some (e,d)=>walkF rs e (h + d) rest | none=>none) else none) = some (e,t):=q;by_cases c:0 <= n/\n < (rs.length:Int)
  ·rw [if_pos c] at q' ⊢;cases hs:stepR (runAt rs n) here with
   | none=>rw [hs] at q';cases q'
   | some ed=>rw [hs] at q';exact zfn q'
  ·rw [if_neg c] at q';cases q'
theorem zfy:∀ {l1:List Int} {here h:Int} {l2:List Int} {r:Int × Int},walkF rs here h (l1 ++ l2) = some r->∃ e t,walkF rs here h l1 = some (e,t)/\walkF rs e t l2 = some r
 | [],here,h,l2,r,q=>⟨here,h,rfl,q⟩
 | n :: rest,here,h,l2,r,q=>by
  rw [List.cons_append] at q;have q':(if 0 <= n/\n < (rs.length:Int) then (match stepR (runAt rs n) here with | some (e,d)=>walkF rs e (h + d) (rest ++ l2) | none=>none) else none) = some r:=q;by_cases c:0 <= n/\n < (rs.length:Int)
  ·rw [if_pos c] at q';cases hs:stepR (runAt rs n) here with
   | none=>rw [hs] at q';cases q'
   | some ed=>
    rw [hs] at q';obtain ⟨e,t,h1,h2⟩:=zfy q';exact ⟨e,t,by rw [zd7 c.1 c.2 (show stepR (runAt rs n) here = some (ed.1,ed.2) from hs)];exact h1,h2⟩
  ·rw [if_neg c] at q';cases q'
theorem zfB (d:Int):∀ {l:List Int} {here h e t:Int},walkF rs here h l = some (e,t)->walkF rs here (h + d) l = some (e,t + d)
 | [],here,h,e,t,q=>by
  have:(here,h) = (e,t):=Option.some.inj q
  injection this with a b
  subst a b;rfl
 | n :: rest,here,h,e,t,q=>by
  have q':(if 0 <= n/\n < (rs.length:Int) then (match stepR (runAt rs n) here with | some (e,d)=>walkF rs e (h + d) rest | none=>none) else none) = some (e,t):=q;by_cases c:0 <= n/\n < (rs.length:Int)
  ·rw [if_pos c] at q';cases hs:stepR (runAt rs n) here with
   | none=>rw [hs] at q';cases q'
   | some ed=>
    rw [hs] at q';rw [zd7 c.1 c.2 (show stepR (runAt rs n) here = some (ed.1,ed.2) from hs),show h + d + ed.2 = h + ed.2 + d by omega];exact zfB d q'
  ·rw [if_neg c] at q';cases q'
theorem zkK (hu:r.one ≠ r.other) (h:stepR r here = some (e,d)):stepR r e = some (here,-d):=by
 unfold stepR at h ⊢;by_cases c:here = r.one
 ·rw [if_pos c] at h;injection h with h;injection h with h1 h2
  rw [<- h1,<- h2,if_neg (Ne.symm hu),if_pos rfl,c]
 ·rw [if_neg c] at h;by_cases c2:here = r.other
  ·rw [if_pos c2] at h;injection h with h;injection h with h1 h2
   rw [<- h1,<- h2,if_pos rfl,c2,Int.neg_neg]
  ·rw [if_neg c2] at h;cases h
theorem zhS (hu:∀ r ∈ rs,r.one ≠ r.other):∀ {l:List Int} {here h e t:Int},walkF rs here h l = some (e,t)->walkF rs e t l.reverse = some (here,h)
 | [],here,h,e,t,q=>by
  have:(here,h) = (e,t):=Option.some.inj q
  injection this with a b
  subst a b;rfl
 | n :: rest,here,h,e,t,q=>by
  have q':(if 0 <= n/\n < (rs.length:Int) then (match stepR (runAt rs n) here with | some (e,d)=>walkF rs e (h + d) rest | none=>none) else none) = some (e,t):=q;by_cases c:0 <= n/\n < (rs.length:Int)
  ·rw [if_pos c] at q';cases hs:stepR (runAt rs n) here with
   | none=>rw [hs] at q';cases q'
   | some ed=>
    rw [hs] at q';rw [List.reverse_cons,zfn (zhS hu q'),zd7 c.1 c.2 (zkK (hu _ (zdJ c.1 c.2).2.2) (show stepR (runAt rs n) here = some (ed.1,ed.2) from hs))];show some (here,h + ed.2 + -ed.2) = _;rw [show h + ed.2 + -ed.2 = h by omega]
  ·rw [if_neg c] at q';cases q'
theorem zjp {rs:List Run} (hu:∀ r ∈ rs,r.one ≠ r.other) {start:Int} {A B:List Int} {a ha b hb:Int} (h1:walkF rs start 0 A = some (a,ha)) (h2:walkF rs start 0 B = some (b,hb)):walkF rs a ha (zba A B) = some (b,hb):=by
 obtain ⟨_,_,e,_⟩:=zeg A B;rw [<- List.take_append_drop (comm A B) A] at h1;rw [<- List.take_append_drop (comm A B) B] at h2;obtain ⟨p,hp,q1,q2⟩:=zfy h1;obtain ⟨p',hp',q3,q4⟩:=zfy h2;rw [<- e,q1] at q3;injection q3 with q3;injection q3 with z1 z2
 subst z1 z2;unfold zba;rw [zfn (zhS hu q2)];exact q4
theorem zgi  (h:z ∈ zba A B):z ∈ A\/z ∈ B:=by
 unfold zba at h;rcases YAr.mp h with h | h
 ·exact .inl (List.mem_of_mem_drop (List.mem_reverse.mp h))
 ·exact .inr (List.mem_of_mem_drop h)
theorem zga (A B:List Int):(zba A B).length <= A.length + B.length:=by
 unfold zba;rw [YAs,List.length_reverse,List.length_drop,List.length_drop];omega
theorem TreeOk.acrossNodup {rs:List Run} {hs:List Int} {start:Int} {n:Nat} {ns:List Nd} (X:TreeOk rs hs start n ns) {x y:Nd} (hx:x ∈ ns) (hy:y ∈ ns):(zba x.line y.line).Nodup:=by
 obtain ⟨c1,c2,c3,c4⟩:=zeg x.line y.line;unfold zba;rw [YBw];refine ⟨List.pairwise_reverse.mpr (((X.lineNodup hx).sublist (List.drop_sublist _ _)).imp λh=>Ne.symm h),(X.lineNodup hy).sublist (List.drop_sublist _ _),λa ha b hb e=>?_⟩;subst e;obtain ⟨i,hi⟩:=List.getElem?_of_mem (List.mem_reverse.mp ha);obtain ⟨j,hj⟩:=List.getElem?_of_mem hb;rw [List.getElem?_drop] at hi hj;have h:=X.uniq x hx y hy _ _ a hi hj;have li:=(YAi.mp hi).1;have lj:=(YAi.mp hj).1;have hl:=congrArg List.length h;rw [YBv,YBv] at hl;have ij:i = j:=by omega
 subst ij;have p1:x.line[comm x.line y.line]? = some (x.line[comm x.line y.line]'(by omega)):=YAe (by omega);have p2:y.line[comm x.line y.line]? = some (y.line[comm x.line y.line]'(by omega)):=YAe (by omega);refine c4 _ _ p1 p2 ?_;have q1:(x.line.take (comm x.line y.line + i + 1))[comm x.line y.line]? = (y.line.take (comm x.line y.line + i + 1))[comm x.line y.line]?:=by rw [h]
 rw [List.getElem?_take_of_lt (by omega),List.getElem?_take_of_lt (by omega),p1,p2] at q1;exact Option.some.inj q1
def zgE (K:PySem.W.Frag):Sp:=λvs H Q _=>∃ (a b:Addr) (A B:List Int),vs = [.ref a,.ref b]/\SqT K H a (A.map V.int)/\SqT K H b (B.map V.int)/\A.length <= 100/\B.length <= 100/\∀ p H',Same H H'->SqT K H' p ((zba A B).map V.int)->Q (.ref p) H'
theorem zjA {A:List Int} {k:Nat} (h:k <= A.length):cutV (A.map V.int) (some (k:Int)) none = (A.drop k).map V.int:=by
 unfold cutV;rw [HT.sIx_nat,HT.sIx_none,YAd,Nat.min_eq_left h,List.map_drop];exact List.take_of_length_le (by simp)
theorem zmX {A B:List Int} {k:Nat} (h:A.take k = B.take k) (ha:k < A.length) (hb:k < B.length) (e:gI A k = gI B k):A.take (k + 1) = B.take (k + 1):=by
 have g:∀ L:List Int,k < L.length->L.take (k + 1) = L.take k ++ [gI L k]:=λL hl=>by
  rw [List.take_add_one,YAe hl];unfold gI;rw [YAC,YAt,YAe hl];rfl
 rw [g A ha,g B hb,h,e]
def ringF (cs:List PN) (hs:List Int):Nat->List Run->Option (Int × List Int)
 | _,[]=>none
 | i,r :: rest=>if hs.contains r.hand = false/\(zbF cs r.other).2.1 - (zbF cs r.one).2.1 ≠ r.rise then some (r.one,(i:Int) :: zba (zbF cs r.other).2.2 (zbF cs r.one).2.2) else ringF cs hs (i + 1) rest
theorem zeA {cs:List PN} {hs:List Int} {i:Nat} {r:Run} {rest:List Run}:ringF cs hs i (r :: rest) = if hs.contains r.hand = false/\(zbF cs r.other).2.1 - (zbF cs r.one).2.1 ≠ r.rise then some (r.one,(i:Int) :: zba (zbF cs r.other).2.2 (zbF cs r.one).2.2) else ringF cs hs (i + 1) rest:=rfl
theorem zgo  : ∀ {l:List Run} {i:Nat} {m:Int} {line:List Int},ringF cs hs i l = some (m,line)->∃ (j:Nat) (r:Run),l[j]? = some r/\hs.contains r.hand = false/\(zbF cs r.other).2.1 - (zbF cs r.one).2.1 ≠ r.rise/\m = r.one/\line = ((i + j:Nat):Int) :: zba (zbF cs r.other).2.2 (zbF cs r.one).2.2
 | [],i,m,line,h=>by cases h
 | r :: rest,i,m,line,h=>by
  unfold ringF at h;by_cases c:hs.contains r.hand = false/\(zbF cs r.other).2.1 - (zbF cs r.one).2.1 ≠ r.rise
  ·rw [if_pos c] at h;injection h with h;injection h with h1 h2
   exact ⟨0,r,rfl,c.1,c.2,h1.symm,h2.symm⟩
  ·rw [if_neg c] at h;obtain ⟨j,r',a1,a2,a3,a4,a5⟩:=zgo h;refine ⟨j + 1,r',by simpa using a1,a2,a3,a4,?_⟩;rw [a5,show i + 1 + j = i + (j + 1) by omega]
theorem zgw  : ∀ {l:List Run} {i:Nat},ringF cs hs i l = none->∀ r ∈ l,hs.contains r.hand = false->(zbF cs r.other).2.1 - (zbF cs r.one).2.1 = r.rise
 | [],i,h,r,hr,_=>by cases hr
 | q :: rest,i,h,r,hr,hc=>by
  unfold ringF at h;by_cases c:hs.contains q.hand = false/\(zbF cs q.other).2.1 - (zbF cs q.one).2.1 ≠ q.rise
  ·rw [if_pos c] at h;cases h
  ·rw [if_neg c] at h;rcases YAk.mp hr with rfl | hr
   ·by_cases e:(zbF cs r.other).2.1 - (zbF cs r.one).2.1 = r.rise
    ·exact e
    ·exact absurd ⟨hc,e⟩ c
   ·exact zgw h r hr hc
def za6 (ts:List TR):List Nd:=ts.flatMap TR.ns
def zoS (K:PySem.W.Frag) (H:Hp) (r:Option (Int × List Int)) (v:V):Prop:=match r with
 | none=>v = .non
 | some ml=>∃ p lt,v = .ref p/\H p = some (.tup [.int ml.1,.ref lt])/\SqT K H lt (ml.2.map V.int)
structure Reach (K:PySem.W.Frag) (H:Hp) (n:Nat) (rs:List Run) (hs:List Int) (ts:List TR):Prop where
 trees:∀ t ∈ ts,TreeAt K H n rs hs t
 firsts:Firsts n (usable hs rs) (ts.map TR.st)
 nod:(zau (za6 ts)).Nodup
theorem Reach.same    (x:Reach K H n rs hs ts) (S:Same H H'):Reach K H' n rs hs ts:=⟨λt ht=>(x.trees t ht).same S,x.firsts,x.nod⟩
theorem mem_reach  : x ∈ za6 ts ↔ ∃ t ∈ ts,x ∈ t.ns:=List.mem_flatMap
theorem zjg {K:PySem.W.Frag} {H:Hp} {n:Nat} {rs:List Run} {hs:List Int} {ts:List TR} (ht:∀ t ∈ ts,TreeAt K H n rs hs t) (hF:Firsts n (usable hs rs) (ts.map TR.st)) {i j:Nat} {t u:TR} (hi:ts[i]? = some t) (hj:ts[j]? = some u) (ij:i < j) {k:Int} (h1:k ∈ zau t.ns) (h2:k ∈ zau u.ns):False:=by
 have c1:=((ht t (YAA hi)).keys k).mp h1;have c2:=((ht u (YAA hj)).keys k).mp h2;have li:=(YAi.mp hi).1;have lj:=(YAi.mp hj).1;have lt:=YAZ.mp hF.1 i j (by rw [YAd];exact li) (by rw [YAd];exact lj) ij;rw [List.getElem_map,List.getElem_map,(YAi.mp hi).2,(YAi.mp hj).2] at lt;have hu:=(hF.2 u.st).mp (YAW (YAA hj));exact hu.2.2 t.st (ht t (YAA hi)).b0 lt (c1.trans c2.symm)
def zqD (K:PySem.W.Frag):Sp:=λvs H Q _=>∃ (n:Nat) (a s:Addr) (rs:List Run) (hs:List Int),vs = [.int n,.ref a,.ref s]/\SqL K H a (rs.map runV)/\Runs K H rs/\zaD n rs/\SqL K H s (hs.map V.int)/\n <= 40/\rs.length <= 1000 /\
 ∀ (v:V) (ts:List TR) H',Same H H'->Reach K H' n rs hs ts->zoS K H' (ringF ((za6 ts).map za5) hs 0 rs) v->Q v H'
abbrev Nr:List Str:=["size","runs","struck","reached","tree","number","one","other","rise","hand","low","to_one","high","to_other"]
theorem zin (hn:(zau ns).Nodup) (hx:x ∈ ns) (hu:u ∈ ns) (e:x.m = u.m):x.h = u.h:=by
 have a:=zbS hn hx;have b:=zbS hn hu;rw [e,b] at a;unfold za5 at a;injection a with _ a
 exact (Prod.mk.inj a).1.symm
theorem zo3 {K:PySem.W.Frag} {H:Hp} {n:Nat} {rs:List Run} {hs:List Int} {ts:List TR} (X:Reach K H n rs hs ts) (VM:zaD n rs) (hn:n <= 40) (hu:∀ r ∈ rs,r.one ≠ r.other) {m:Int} {line:List Int} (h:ringF ((za6 ts).map za5) hs 0 rs = some (m,line)) :
  0 <= m/\m < n/\line ≠ []/\line.length <= 90/\line.Nodup/\(∀ z ∈ line,0 <= z/\z < (rs.length:Int)/\hs.contains (runAt rs z).hand = false)/\∃ t,walkF rs m 0 line = some (m,t)/\t ≠ 0:=by
 obtain ⟨j,r,hr,hc,hd,rfl,rfl⟩:=zgo h;rw [Nat.zero_add];have hrm:=YAA hr;have V0:=VM r hrm;have hjl:j < rs.length:=(YAi.mp hr).1;have era:runAt rs (j:Int) = r:=by
  have:=(zdJ (rs:=rs) (i:=(j:Int)) (by omega) (by omega)).1
  rw [YAC,hr] at this;exact (Option.some.inj this).symm
 have hus:r ∈ usable hs rs:=by unfold usable;exact YA9.mpr ⟨hrm,by rw [hc];rfl⟩
 obtain ⟨t,ht,x,hx,ex⟩:=zdz X.trees X.firsts V0.1 V0.2.1;have Tt:=X.trees t ht;have ho:r.other ∈ zau t.ns:=(Tt.keys _).mpr (((Tt.keys _).mp (mem_keys.mpr ⟨x,hx,ex⟩)).trans (Conn.edge hus));obtain ⟨y,hy,ey⟩:=mem_keys.mp ho;have lx:=zbS X.nod (mem_reach.mpr ⟨t,ht,hx⟩);have ly:=zbS X.nod (mem_reach.mpr ⟨t,ht,hy⟩);rw [ex] at lx;rw [ey] at ly;rw [lx,ly] at hd ⊢;have hd':y.h - x.h ≠ r.rise:=hd;show 0 <= r.one/\r.one < (n:Int)/\(j:Int) :: zba y.line x.line ≠ []/\((j:Int) :: zba y.line x.line).length <= 90/\((j:Int) :: zba y.line x.line).Nodup/\(∀ z ∈ (j:Int) :: zba y.line x.line,_)/\∃ t,walkF rs r.one 0 ((j:Int) :: zba y.line x.line) = some (r.one,t)/\t ≠ 0;have few1:=Tt.tok.few x hx;have few2:=Tt.tok.few y hy;have tl:=Tt.tok.len;have al:=zga y.line x.line;have nokeep:∀ q:Nd,q ∈ t.ns->(j:Int) ∉ q.line:=λq hq hz=>by
  obtain ⟨u,hu1,v,hv1,e1,e2,e3⟩:=Tt.tok.keep q hq _ hz;rw [era] at e1 e2 e3;have h1:=zin Tt.tok.nod hx hu1 (ex.trans e1.symm);have h2:=zin Tt.tok.nod hy hv1 (ey.trans e2.symm);omega
 refine ⟨V0.1,V0.2.1,List.cons_ne_nil _ _,by rw [YAE];omega,YBf.mpr ⟨λhz=>?_,Tt.tok.acrossNodup hy hx⟩,λz hz=>?_,?_⟩
 ·rcases zgi hz with q | q
  ·exact nokeep y hy q
  ·exact nokeep x hx q
 ·rcases YAk.mp hz with rfl | hz
  ·rw [era];exact ⟨by omega,by omega,hc⟩
  ·rcases zgi hz with q | q
   ·obtain ⟨a,b,c,_⟩:=Tt.tok.runs y hy z q;exact ⟨a,b,c⟩
   ·obtain ⟨a,b,c,_⟩:=Tt.tok.runs x hx z q;exact ⟨a,b,c⟩
 ·have st:stepR (runAt rs (j:Int)) r.one = some (r.other,r.rise):=by rw [era];unfold stepR;rw [if_pos rfl]
  have w1:=zjp hu (Tt.tok.walk y hy) (Tt.tok.walk x hx);rw [ey,ex] at w1;have w2:=zfB (r.rise - y.h) w1;refine ⟨x.h + (r.rise - y.h),?_,by omega⟩;rw [zd7 (by omega) (by omega) st,show (0:Int) + r.rise = y.h + (r.rise - y.h) by omega];exact w2
end Fen
namespace Fd
open PySem L2
theorem zaT  (h:F ds P) (k:∀ d,P d->Q d):up F ds Q:=⟨P,h,k⟩
def zkL (t:Tg) (C:WT) (E:WE) (ρc:Env) (x:D) (o:Option D):Prop:=∀ (Y:D->Prop) (N:Prop),(match o with | some d=>Y d | none=>N)->gD t x ρc λρ2=>C ρ2 λb=>if b = true then E ρ2 Y else N
theorem zcD {α:Type}   (emb:α->D) (g:α->Option D):∀ (xs:List α) (acc:List D),(∀ x ∈ xs,zkL t C E ρc (emb x) (g x))->Q (acc ++ xs.filterMap g)->zbg t C E ρc Q (xs.map emb) acc
 | [],acc,_,q=>by simpa [zbg] using q
 | x :: xs,acc,h,q=>by
  show gD t (emb x) ρc λρ2=>C ρ2 λb=>if b = true then E ρ2 λd=>zbg t C E ρc Q (xs.map emb) (acc ++ [d]) else zbg t C E ρc Q (xs.map emb) acc;refine h x YAh _ _ ?_;cases e:g x with
  | none=>
   refine zcD emb g xs acc (λy hy=>h y (YAj _ hy)) ?_;rw [YAU,e] at q;exact q
  | some d=>
   refine zcD emb g xs (acc ++ [d]) (λy hy=>h y (YAj _ hy)) ?_;rw [YAU,e] at q;rw [YA1];exact q
theorem zee {α β:Type}   (emb:α->D) (out:β->D) (R:α->β->Prop):∀ (xs:List α) (ys:List β),(∀ x ∈ xs,∀ Y:D->Prop,(∀ y,R x y->Y (out y))->gD t (emb x) ρc λρ2=>C ρ2 λb=>b = true/\E ρ2 Y) ->
  zdC C->(∀ zs:List β,zs.length = xs.length->(∀ z ∈ zs,∃ x ∈ xs,R x z)->Q ((ys ++ zs).map out))->zbg t C E ρc Q (xs.map emb) (ys.map out)
 | [],ys,_,_,q=>by simpa [zbg] using q [] rfl (λz h=>by cases h)
 | x :: xs,ys,h,mC,q=>by
  show gD t (emb x) ρc λρ2=>C ρ2 λb=>if b = true then E ρ2 λd=>zbg t C E ρc Q (xs.map emb) (ys.map out ++ [d]) else zbg t C E ρc Q (xs.map emb) (ys.map out);refine zbj t (emb x) ρc (λρ2 z=>mC ρ2 _ _ (λb z=>?_) z) (h x YAh (λd=>zbg t C E ρc Q (xs.map emb) (ys.map out ++ [d])) λy hy=>?_)
  ·rw [z.1,if_pos rfl];exact z.2
  ·have:=zee (t:=t) (C:=C) (E:=E) (ρc:=ρc) (Q:=Q) emb out R xs (ys ++ [y]) (λx' hx'=>h x' (YAj _ hx')) mC (λzs hl hz=>by
    have:=q (y :: zs) (by simp [hl]) (λz hz'=>by
     rcases YAk.mp hz' with e | e
     ·exact ⟨x,YAh,e ▸ hy⟩
     ·obtain ⟨x',h1,h2⟩:=hz z e;exact ⟨x',YAj _ h1,h2⟩)
    simpa using this)
   simpa using this
theorem zd9:zdC noIf:=λρ Q Q' k q=>k _ q
theorem zbb  (I:List D->Env->Prop)
  (hs:∀ x rest ρ (E':En),(∀ ρ,I rest ρ->E'.nx ρ)->(∀ ρ,I rest ρ->E'.ct ρ)->(∀ d,E.rt d->E'.rt d)->(∀ ρ,E.nx ρ->E'.bk ρ)->I (x :: rest) ρ->gD t x ρ λρ'=>B E' ρ') (hd:∀ ρ,I [] ρ->E.nx ρ) :
  ∀ (xs:List D) (ρ:Env),I xs ρ->zbO t B E xs ρ
 | [],ρ,h=>hd ρ h
 | x :: xs,ρ,h=>hs x xs ρ { nx:=zbO t B E xs,ct:=zbO t B E xs,bk:=E.nx,rt:=E.rt } (zbb I hs hd xs) (zbb I hs hd xs) (λd z=>z) (λρ z=>z) h
theorem zfC  (P:D->Prop) (I:List D->Env->Prop)
  (hs:∀ x rest ρ (E':En),P x->(∀ ρ,I rest ρ->E'.nx ρ)->(∀ ρ,I rest ρ->E'.ct ρ)->(∀ d,E.rt d->E'.rt d)->(∀ ρ,E.nx ρ->E'.bk ρ)->I (x :: rest) ρ->gD t x ρ λρ'=>B E' ρ') (hd:∀ ρ,I [] ρ->E.nx ρ) :
  ∀ (xs:List D) (ρ:Env),(∀ d ∈ xs,P d)->I xs ρ->zbO t B E xs ρ
 | [],ρ,_,h=>hd ρ h
 | x :: xs,ρ,hp,h=>hs x xs ρ { nx:=zbO t B E xs,ct:=zbO t B E xs,bk:=E.nx,rt:=E.rt } (hp x YAh) (λρ=>zfC P I hs hd xs ρ λd hd=>hp d (YAj _ hd)) (λρ=>zfC P I hs hd xs ρ λd hd=>hp d (YAj _ hd)) (λd z=>z) (λρ z=>z) h
theorem zns  (h:d ∈ rngL m n):∃ k:Int,d = .int k/\m <= k/\k < m + n:=by
 unfold rngL at h;obtain ⟨k,hk,rfl⟩:=YAD.mp h;exact ⟨_,rfl,by omega,by have:=YA4.mp hk;omega⟩
theorem zfe {α:Type}   (emb:α->D) (g:α->Option Int):∀ (xs:List α) (acc:List Int),(∀ x ∈ xs,zkL t C E ρc (emb x) ((g x).map D.int))->(∀ ns:List Int,(∀ k,k ∈ ns ↔ k ∈ acc\/k ∈ xs.filterMap g)->Q ns)->zc9 t C E ρc Q (xs.map emb) acc
 | [],acc,_,q=>by simpa [zc9] using q acc (λk=>by simp)
 | x :: xs,acc,h,q=>by
  show gD t (emb x) ρc λρ2=>C ρ2 λb=>if b = true then E ρ2 λd=>intD d λk=>zc9 t C E ρc Q (xs.map emb) (k :: acc) else zc9 t C E ρc Q (xs.map emb) acc;refine h x YAh _ _ ?_;cases e:g x with
  | none=>
   refine zfe emb g xs acc (λy hy=>h y (YAj _ hy)) λns hn=>q ns λk=>?_;rw [YAU,e];exact hn k
  | some d=>
   refine zfe emb g xs (d :: acc) (λy hy=>h y (YAj _ hy)) λns hn=>q ns λk=>?_;rw [YAU,e,hn k,YAk,YAk];constructor
   ·rintro ((h | h) | h)
    ·exact .inr (.inl h)
    ·exact .inl h
    ·exact .inr (.inr h)
   ·rintro (h | h | h)
    ·exact .inl (.inr h)
    ·exact .inl (.inl h)
    ·exact .inr h
theorem zaq (i:Int):D.old (.int i) = .int i:=by unfold D.old;rfl
theorem zcM (a:Bool) (ns:List Int):D.old (.lst a (ns.map D.int)) = .lst false (ns.map D.int):=by
 unfold D.old;congr 1;rw [YAH];exact YA7 λi _=>zaq i
theorem zcu (ns:List Int):D.old (.tup (ns.map D.int)) = .tup (ns.map D.int):=by
 unfold D.old;congr 1;rw [YAH];exact YA7 λi _=>zaq i
abbrev Rn:=Fen.Run
def runD (r:Fen.Run):D:=.tup [.int r.one,.int r.other,.int r.rise,.int r.hand]
theorem zlN (r:Rn):(runD r).old = runD r:=by unfold runD;simp [D.old]
theorem zaS (a:Bool) (rs:List Rn):D.old (.lst a (rs.map runD)) = .lst false (rs.map runD):=by
 unfold D.old;congr 1;rw [YAH];exact YA7 λr _=>zlN r
theorem zde (x:Int):∀ hs:List Int,inB (.int x) (hs.map D.int) = hs.contains x
 | []=>rfl
 | y :: hs=>by
  have:=zde x hs
  unfold inB at this ⊢;rw [YAb,zbN,YBL,this,List.contains_cons];congr 1;show (y == x) = (x == y);exact Bool.beq_comm
theorem zcc:∀ hs:List Int,zcr (hs.map D.int) = true
 | []=>rfl
 | y :: hs=>by rw [YAb,zcr,zcc hs];rfl
theorem zdk:∀ hs:List Int,PyData.depthAll (zbN (hs.map D.int)) = 0
 | []=>rfl
 | y :: hs=>by rw [YAb,zbN,PyData.depthAll,zdk hs];rfl
theorem zc5 (x:Int) (hs:List Int):inOk (.int x) (hs.map D.int):=⟨rfl,zcc hs,by rw [zdk];exact YAK (Nat.min_le_left _ _) (by decide)⟩
theorem zaJ (x y:Int):eqOk (.int x) (.int y):=⟨rfl,rfl,by show min 0 0 <= 50;decide⟩
theorem zbl (x y:Int):eqB (.int x) (.int y) = decide (x = y):=by
 show (x == y) = _;by_cases h:x = y <;> simp [h]
theorem zbd (x y:Bool):eqOk (.bl x) (.bl y):=⟨rfl,rfl,by show min 0 0 <= 50;decide⟩
theorem zkm (x y:Bool):eqB (.bl x) (.bl y) = (x == y):=rfl
theorem zlE {x:Int} {hs:List Int} {n:Bool} {Q:D->Prop} (q:Q (.bl (hs.contains x))):inD false (.int x) (.lst n (hs.map D.int)) Q:=⟨zc5 _ _,by
 have:(if false = true then !inB (.int x) (hs.map D.int) else inB (.int x) (hs.map D.int)) = hs.contains x:=zde x hs
 rw [this];exact q⟩
def zbf (rs:List Rn) (hs:List Int):List Rn:=rs.filter λr=>!hs.contains r.hand
def zav (rs:List Rn):List Int:=zbt (rs.map Fen.Run.hand)
def gI (hs:List Int) (i:Int):Int:=hs.getD i.toNat 0
def InM (n:Int) (rs:List Rn):Prop:=∀ r ∈ rs,0 <= r.one/\r.one < n/\0 <= r.other/\r.other < n
theorem zmf (h:∀ k,k ∈ xs ↔ k ∈ ys):zbt xs = zbt ys:=zlM (zbc _) (zbc _) λk=>((zaK xs k).trans (h k)).trans (zaK ys k).symm
theorem zeI (a:Bool) (rs:List Rn) (hl:rs.length < 64):zbC [.lst a (rs.map runD)] (· = .lst true ((zav rs).map D.int)):=by
 unfold zbC fnW zaH;rw [YAb,zaS];refine ⟨by simpa using hl,zfe runD (λr=>some r.hand) rs [] (λr hr Y N y=>⟨rfl,y⟩) λns hn=>?_⟩;show D.lst true ((zbt ns).map D.int) = _;rw [zav,zmf (ys:=rs.map Fen.Run.hand)];intro k;rw [hn k,List.filterMap_eq_map']
 simp
theorem znl (a b:Bool) (rs:List Rn) (hs:List Int) (hl:rs.length <= 1000):zhL [.lst a (rs.map runD),.lst b (hs.map D.int)] (· = .lst true ((zbf rs hs).map runD)):=by
 unfold zhL fnW zaH;rw [YAb,YAb,zaS,zcM];refine ⟨by simp;omega,zcD runD (λr=>if hs.contains r.hand then none else some (runD r)) rs [] (λr hr Y N y=>⟨rfl,zc5 _ _,?_⟩) ?_⟩
 ·show if (if true = true then !inB (.int r.hand) (hs.map D.int) else _) = true then _ else _;rw [if_pos rfl,zde];revert y;cases hs.contains r.hand with
  | true=>exact λy=>y
  | false=>exact λy=>⟨by show 4 <= 100000;decide,y⟩
 ·show D.lst true _ = _;congr 1;unfold zbf;rw [YBh]
  induction rs with
  | nil=>rfl
  | cons r rs ih=>
   rw [YAU,YBj];cases hs.contains r.hand with
   | true=>exact ih (by simp at hl;omega)
   | false=>simp only [Bool.not_false,if_true,YAb,YA2,YBM];rw [ih (by simp at hl;omega)]
theorem zdH {hs:List Int} {i:Int} (h0:0 <= i) (h1:i < hs.length):atI (hs.map D.int) i = some (.int (gI hs i)):=by
 unfold atI ixN gI;have hn:i.toNat < hs.length:=by omega
 rw [if_pos h0,YAd,if_pos h1,Option.bind_some,YAu,YAe hn,YAt,YAe hn];rfl
theorem zcC {hs:List Int} {i:Int} {Q:D->Prop} (h0:0 <= i) (h1:i < hs.length) (q:Q (.int (gI hs i))):itD (hs.map D.int) (.int i) Q:=by
 show (match atI (hs.map D.int) i with | some d=>Q d | none=>False);rw [zdH h0 h1];exact q
theorem zow {α:Type} (f:α->Bool) (xs:List α):(xs.map λx=>D.bl (f x)) = (xs.map f).map D.bl:=by rw [YAH];rfl
theorem zdU {α:Type} {f:α->Bool} {xs:List α} {n:Bool} {Q:D->Prop} (q:Q (.bl (xs.all f))):allF [.lst n (xs.map λx=>D.bl (f x))] Q:=
 ⟨xs.map f,zow f xs,by rw [List.all_map];exact q⟩
theorem zkc {α:Type} {f:α->Bool} {xs:List α} {n:Bool} {Q:D->Prop} (q:Q (.bl (xs.any f))):anyF [.lst n (xs.map λx=>D.bl (f x))] Q:=
 ⟨xs.map f,zow f xs,by rw [List.any_map];exact q⟩
theorem zfU {α β:Type} (f:α->β) (xs:List α):xs.filterMap (λx=>some (f x)) = xs.map f:=by rw [List.filterMap_eq_map']
theorem zaU {α:Type}   (emb:α->D) (g:α->D) (xs:List α) (h:∀ x ∈ xs,zkL t C E ρc (emb x) (some (g x))) (q:Q (xs.map g)):zbg t C E ρc Q (xs.map emb) []:=
 zcD emb (λx=>some (g x)) xs [] h (by rw [zfU];exact q)
theorem zlu (rs:List Rn) (hs:List Int):(zbf rs hs).length <= rs.length:=List.length_filter_le ..
theorem zn9  (h:InM n rs) (hs:List Int):InM n (zbf rs hs):=λr hr=>h r (YA9.mp hr).1
theorem zgD (x y:D):D.old (.tup [x,y]) = .tup [x.old,y.old]:=by rw [D.old];rfl
theorem zi0:D.old .box = .box:=by rw [D.old]
theorem zfw (x:Str):D.old (.str x) = .str x:=by rw [D.old]
theorem zaN  (h0:0 < m) (h1:m < 2 ^ 64) (k:∀ x:Int,0 <= x->x < m->Q (.int x)):up zam [.box,.int m] Q:=⟨Q,⟨⟨h0,h1⟩,k⟩,λd z=>z⟩
theorem zix (m:Int) (n:Nat):rngL m (n + 1) = .int m :: rngL (m + 1) n:=by
 unfold rngL;rw [List.range_succ_eq_map,YAb,YAH];congr 1
 ·simp
 ·refine YA7 λk _=>?_;simp only [Function.comp_apply,Nat.succ_eq_add_one];congr 1;omega
theorem zhr (n:Nat):rngL 0 n = (List.range n).map λ(k:Nat)=>D.int (k:Int):=by
 unfold rngL;refine YA7 λk _=>?_;simp
theorem zbo (m:Int) (n:Nat):(rngL m n).length = n:=by unfold rngL;simp
theorem ziz:zbr [.box] (λd=>∃ x:Int,d = .int x/\0 <= x):=by
 unfold zbr fnW zaH;rw [YAb,zi0];refine ⟨rfl,zaN (by decide) (by decide) λx x0 x1=>?_⟩;refine ⟨zaJ _ _,ite2 (λh=>?_) (λh=>?_)⟩
 ·exact ⟨rfl,zaN (by decide) (by decide) λy y0 y1=>⟨y,rfl,y0⟩⟩
 refine ⟨zaJ _ _,ite2 (λh=>?_) (λh=>?_)⟩
 ·exact ⟨rfl,zaN (by decide) (by decide) λy y0 y1=>⟨y,rfl,y0⟩⟩
 refine ⟨⟨by decide,by decide⟩,?_⟩;refine zbb (λ_ ρ=>∃ (z:Int) (s:Sl),ρ = [.val .box,.val (.int x),.val (.int z),s]/\0 <= z) ?_ ?_ _ _ ⟨0,.un,rfl,Int.le_refl _⟩
 ·rintro k rest ρ E' hn hc hr hb ⟨z,s,rfl,z0⟩;refine ⟨.inr ⟨by decide,by decide⟩,rfl,zaN (by decide) (by decide) λy y0 y1=>hn _ ⟨z * 1000000 + y,.val k,rfl,by omega⟩⟩
 ·rintro ρ ⟨z,s,rfl,z0⟩;exact ⟨z,rfl,z0⟩
theorem zfY (r:Int):zaY [.box,.int r] (λd=>∃ x:Int,d = .int x):=by
 unfold zaY fnW zaH;rw [YAb,YAb,zi0,zaq];refine ⟨rfl,zaN (by decide) (by decide) λx x0 x1=>⟨rfl,zaT ziz λd ⟨y,hd,y0⟩=>?_⟩⟩;subst hd;refine ⟨rfl,zaT ziz λd ⟨z,hd,z0⟩=>?_⟩;subst hd;refine ⟨by show 5 <= 100000;decide,rfl,zaN (by decide) (by decide) λw w0 w1=>?_⟩;exact zcC (hs:=[1,-1,1 + x,y,-z]) w0 w1 ⟨_,rfl⟩
theorem zgW (a b:Bool) (rs:List Rn) (hs:List Int) (hl:rs.length <= 1000):zb1 [.lst a (rs.map runD),.lst b (hs.map D.int)] (· = .lst true ((zbf rs hs).map runD)):=by
 unfold zb1 fnW zaH;rw [YAb,YAb,zaS,zcM];refine ⟨by simp;omega,zcD runD (λr=>if hs.contains r.hand then none else some (runD r)) rs [] (λr hr Y N y=>⟨zc5 _ _,?_⟩) ?_⟩
 ·show if (if true = true then !inB (.int r.hand) (hs.map D.int) else _) = true then _ else _;rw [if_pos rfl,zde];revert y;cases hs.contains r.hand with
  | true=>exact λy=>y
  | false=>exact λy=>y
 ·show D.lst true _ = _;congr 1;unfold zbf;rw [YBh]
  induction rs with
  | nil=>rfl
  | cons r rs ih=>
   rw [YAU,YBj];cases hs.contains r.hand with
   | true=>exact ih (by simp at hl;omega)
   | false=>simp only [Bool.not_false,if_true,YAb,YA2,YBM];rw [ih (by simp at hl;omega)]
theorem zdr (a:Bool) (rs:List Rn) (hl:rs.length < 64):za3 [.lst a (rs.map runD)] (· = .lst true ((zav rs).map D.int)):=by
 unfold za3 fnW zaH;rw [YAb,zaS];refine ⟨by simp;omega,zaU runD (λr=>.int r.hand) rs (λr hr Y N y=>y) ?_⟩;exact ⟨rs.map Fen.Run.hand,by rw [YAH];rfl,by simpa using hl,rfl⟩
mutual
def zaL:D->Nat->Bool
 | .non,_=>true
 | .bl _,_=>true
 | .int _,_=>true
 | .str x,_=>PyData.canLay0 (.str x)
 | .box,_=>false
 | .tup xs,n + 1=>decide (xs.length <= 1000) && zbE xs n
 | .lst _ xs,n + 1=>decide (xs.length <= 1000) && zbE xs n
 | .tup _,0=>false
 | .lst _ _,0=>false
def zbE:List D->Nat->Bool
 | [],_=>true
 | x :: xs,n=>zaL x n && zbE xs n
end
theorem zdw:∀ {xs:List D} {n:Nat} {x:D},zbE xs n = true->x ∈ xs->zaL x n = true
 | y :: ys,n,x,h,hx=>by
  rw [zbE,YAL] at h;rcases YAk.mp hx with e | e
  ·rw [e];exact h.1
  ·exact zdw h.2 e
theorem zfu:∀ xs:List D,zipL xs xs = xs.map λx=>.tup [x,x]
 | []=>rfl
 | x :: xs=>by rw [zipL,zfu xs];rfl
mutual
theorem zmm:∀ d:D,d.old.old = d.old
 | .non=>by simp [D.old]
 | .bl _=>by simp [D.old]
 | .int _=>by simp [D.old]
 | .str _=>by simp [D.old]
 | .box=>by simp [D.old]
 | .tup xs=>by rw [D.old,D.old,YAH];congr 1;exact zhq xs
 | .lst _ xs=>by rw [D.old,D.old,YAH];congr 1;exact zhq xs
theorem zhq:∀ xs:List D,xs.map (D.old ∘ D.old) = xs.map D.old
 | []=>rfl
 | x :: xs=>by rw [YAb,YAb,zhq xs,Function.comp_apply,zmm x]
end
mutual
theorem zgv:∀ (d:D) (n:Nat),zaL d.old n = zaL d n
 | .non,_=>by rw [D.old]
 | .bl _,_=>by rw [D.old]
 | .int _,_=>by rw [D.old]
 | .str _,_=>by rw [D.old]
 | .box,_=>by rw [D.old]
 | .tup xs,n + 1=>by rw [D.old,zaL,zaL,YAd,zdv xs n]
 | .lst _ xs,n + 1=>by rw [D.old,zaL,zaL,YAd,zdv xs n]
 | .tup xs,0=>by rw [D.old,zaL,zaL]
 | .lst _ xs,0=>by rw [D.old,zaL,zaL]
theorem zdv:∀ (xs:List D) (n:Nat),zbE (xs.map D.old) n = zbE xs n
 | [],_=>rfl
 | x :: xs,n=>by rw [YAb,zbE,zbE,zgv x n,zdv xs n]
end
theorem lay_sc:∀ {d:D} {n:Nat},zaL d n = true->(∀ xs,d ≠ .tup xs)->(∀ b xs,d ≠ .lst b xs)->layD d = true
 | .non,_,_,_,_=>rfl
 | .bl _,_,_,_,_=>rfl
 | .int _,_,_,_,_=>rfl
 | .str x,_,h,_,_=>by rw [zaL] at h;rw [layD];exact h
 | .box,_,h,_,_=>by rw [zaL] at h;cases h
 | .tup xs,_,_,h,_=>absurd rfl (h xs)
 | .lst b xs,_,_,_,h=>absurd rfl (h b xs)
theorem zda:∀ (n:Nat) (d e:D),d.old = e.old->zaL d n = true->zbh (n + 1) [d,e] (· = .bl true)
 | n,d,e,he,h=>by
  have ho:=h;rw [<- zgv] at ho;unfold zbh fnW zaH;rw [YAb,YAb,<- he];have hoo:d.old.old = d.old:=zmm d;revert ho hoo;generalize d.old = x;intro ho hoo;cases x with
  | non=>rfl
  | bl b=>exact ⟨zbd _ _,zbd _ _,zbd _ _,⟨rfl,rfl,by show min 0 0 <= 50;decide⟩,by show D.bl (b == b) = _;simp⟩
  | int i=>exact ⟨zbd _ _,zbd _ _,zbd _ _,zaJ _ _,by show D.bl (i == i) = _;simp⟩
  | str z=>exact ⟨zbd _ _,zbd _ _,zbd _ _,⟨lay_sc ho (λ_ h=>by cases h) (λ_ _ h=>by cases h),lay_sc ho (λ_ h=>by cases h) (λ_ _ h=>by cases h),by show min 0 0 <= 50;decide⟩,by show D.bl (z == z) = _;simp⟩
  | box=>rw [zaL] at ho;cases ho
  | tup xs=>
   cases n with
   | zero=>rw [zaL] at ho;cases ho
   | succ n=>
    rw [zaL,YAL] at ho;have hl:=YAM ho.1;refine ⟨zbd _ _,zbd _ _,zaJ _ _,?_⟩;show blD (.bl (eqB (.int (xs.length:Int)) (.int (xs.length:Int)))) _;rw [zbl,YAl rfl];show _/\zbg _ _ _ _ _ (zipL xs xs) [];rw [zfu];refine ⟨by rw [YAd];omega,zaU (λx=>.tup [x,x]) (λ_=>.bl true) xs (λx hx Y N y=>⟨rfl,rfl,zaT (zda n x x rfl (zdw ho.2 hx)) λd hd=>by subst hd;exact y⟩) ?_⟩;exact zdU (f:=λ_=>true) (xs:=xs) (n:=true) (by show D.bl _ = _;congr 1;simp)
  | lst b xs=>
   cases n with
   | zero=>rw [zaL] at ho;cases ho
   | succ n=>
    rw [zaL,YAL] at ho;have hl:=YAM ho.1;refine ⟨zbd _ _,zbd _ _,zaJ _ _,?_⟩;show blD (.bl (eqB (.int (xs.length:Int)) (.int (xs.length:Int)))) _;rw [zbl,YAl rfl];show _/\zbg _ _ _ _ _ (zipL xs xs) [];rw [zfu];refine ⟨by rw [YAd];omega,zaU (λx=>.tup [x,x]) (λ_=>.bl true) xs (λx hx Y N y=>⟨rfl,rfl,zaT (zda n x x rfl (zdw ho.2 hx)) λd hd=>by subst hd;exact y⟩) ?_⟩;exact zdU (f:=λ_=>true) (xs:=xs) (n:=true) (by show D.bl _ = _;congr 1;simp)
structure Wd (mm mh mr size:Int) (rs:List Rn) (hts fs:List Int):Prop where
 s1:1 <= size
 s2:size <= mm
 few:(rs.length:Int) <= mr
 marks:InM size rs
 apart:∀ r ∈ rs,r.one ≠ r.other
 hand:∀ r ∈ rs,0 <= r.hand/\r.hand < 10
 names:∃ nm:List Int,(nm.length:Int) <= mh/\∀ r ∈ rs,r.hand ∈ nm
 hl:(hts.length:Int) = size
 h0:∀ h ∈ hts,0 <= h
 up:fs.Pairwise (· < ·)
 fl:fs.length <= 3
 fr:∀ h ∈ fs,0 <= h/\h < 10
 truth:∀ r ∈ rs,r.hand ∉ fs->r.rise = gI hts r.other - gI hts r.one
theorem zcZ:∀ ns:List Int,(zbt ns).length <= ns.length
 | []=>YAm _
 | x :: xs=>by
  have h:=zcZ xs;unfold zbt
  have:∀ ys:List Int,(insU x ys).length <= ys.length + 1:=λys=>by
   induction ys with
   | nil=>simp [insU]
   | cons y ys ih=>
    unfold insU;split
    ·simp
    ·split
     ·simp
     ·simp;exact ih
  have:=this (zbt xs)
  simp;omega
theorem zlj  (h0:0 <= i) (h1:i < hs.length):gI hs i ∈ hs:=by
 unfold gI;have hn:i.toNat < hs.length:=by omega
 rw [YAt,YAe hn];exact YBI hn
theorem zlB (mm mh mr:Int) (a1:1 <= mm) (a2:mm <= 12) (b1:1 <= mh) (b2:mh <= 10) (c1:0 <= mr) (c2:mr <= 40) :
  zbL [.box,.int mm,.int mh,.int mr] (λd=>∃ size rs hts fs,d = .tup [.int size,.lst true (rs.map runD),.lst true (hts.map D.int),.lst true (fs.map D.int)]/\Wd mm mh mr size rs hts fs):=by
 unfold zbL fnW zaH;rw [YAb,YAb,YAb,YAb,zi0,zaq,zaq,zaq];refine ⟨rfl,zaN (by omega) (by omega) λx x0 x1=>?_⟩;refine ⟨rfl,zaN (by omega) (by omega) λy y0 y1=>?_⟩;refine ⟨⟨by decide,by decide,by decide⟩,by show 3 <= 100000;decide,rfl,zaN (by decide) (by decide) λz z0 z1=>?_⟩;refine zcC (hs:=[4,1000,10 ^ 12]) z0 z1 ?_;have hw:0 < gI [4,1000,10 ^ 12] z/\gI [4,1000,10 ^ 12] z < 2 ^ 64:=by
  have:=zlj (hs:=[4,1000,10 ^ 12]) z0 z1
  simp only [YAk,YAN,YBG] at this;rcases this with e | e | e <;> rw [e] <;> decide
 generalize gI [4,1000,10 ^ 12] z = wide at hw;refine ⟨⟨by omega,by omega⟩,by rw [zbo];omega,?_⟩;rw [zhr];refine zee (λ(k:Nat)=>D.int (k:Int)) D.int (λ_ h=>0 <= h) _ [] (λk hk Y hy=>⟨rfl,rfl,zaN hw.1 hw.2 λh h0 h1=>hy h h0⟩) zd9 λhts hhl hh0=>?_;rw [YBx] at hhl;rw [YBh];refine ⟨⟨by omega,by omega⟩,by rw [zbo];omega,?_⟩;rw [zhr];refine zee (λ(k:Nat)=>D.int (k:Int)) D.int (λk h=>k < 10/\0 <= h/\h < 10\/10 <= k) _ [] (λk hk Y hy=>⟨rfl,rfl,zaN (by decide) (by decide) λh h0 h1=>⟨zaJ _ _,ite2 (λ_=>?_) (λ_=>?_)⟩⟩) zd9 λnms hnl hn0=>?_
 ·refine ⟨.inl ⟨by decide,by decide⟩,by decide,hy _ ?_⟩;by_cases hk10:k < 10
  ·exact .inl ⟨hk10,by omega,by omega⟩
  ·exact .inr (by omega)
 ·refine hy _ ?_;by_cases hk10:k < 10
  ·exact .inl ⟨hk10,by omega,by omega⟩
  ·exact .inr (by omega)
 rw [YBx] at hnl;rw [YBh];have hnm:∀ h ∈ nms,0 <= h/\h < 10:=λh hh=>by
  obtain ⟨k,hk,q⟩:=hn0 h hh;have hk:=YA4.mp hk;rcases q with q | q
  ·exact q.2
  ·omega
 refine ⟨rfl,zaN (by decide) (by decide) λu u0 u1=>⟨⟨by omega,by omega⟩,by rw [zbo];omega,?_⟩⟩;rw [zhr];refine zee (λ(k:Nat)=>D.int (k:Int)) D.int (λ_ h=>h ∈ nms) _ [] (λk hk Y hy=>⟨rfl,rfl,zaN (by omega) (by omega) λh h0 h1=>zcC (hs:=nms) h0 (by omega) (hy _ (zlj h0 (by omega)))⟩) zd9 λfns hfl hf0=>?_;rw [YBx] at hfl;rw [YBh];refine ⟨fns,rfl,by omega,?_⟩;have hf1:∀ h ∈ zbt fns,h ∈ nms:=λh hh=>by
  obtain ⟨k,_,q⟩:=hf0 h ((zaK fns h).mp hh);exact q
 have hfl3:(zbt fns).length <= 3:=YAK (zcZ fns) (by omega);have hup:=zbc fns;generalize hfs:zbt fns = fs at hf1 hfl3 hup;refine ⟨rfl,zaN (by decide) (by decide) λbad bad0 bad1=>?_⟩;refine ⟨by show 0 <= 100000;decide,rfl,zaN (by omega) (by omega) λv v0 v1=>?_⟩;have hrun:∀ (b:Bool),CMul v (if b then 1 else 0):=λb=>.inl ⟨by omega,by omega⟩;refine ⟨hrun _,⟨by split <;> omega,by split <;> omega⟩,?_⟩;refine zbb (λrest ρ=>∃ (rs:List Rn) (s12 s13 s14 s15 s16:Sl),ρ = [.val .box,.val (.int mm),.val (.int mh),.val (.int mr),.val (.int (1 + x)),.val (.int (1 + y)),.val (.int wide),.val (.lst true (hts.map D.int)),.val (.lst true (nms.map D.int)),.val (.lst true (fs.map D.int)),.val (.int (1 + bad)),.own (rs.map runD),s12,s13,s14,s15,s16] /\
  (rs.length:Int) + rest.length <= mr/\(rest = []\/1 < 1 + x)/\InM (1 + x) rs/\(∀ r ∈ rs,r.one ≠ r.other)/\(∀ r ∈ rs,r.hand ∈ nms)/\∀ r ∈ rs,r.hand ∉ fs->r.rise = gI hts r.other - gI hts r.one) ?_ ?_ _ _ ?_
 ·rintro k rest ρ E' hn hc hr hb ⟨rs,s12,s13,s14,s15,s16,rfl,hlen,hx,hin,hap,hnms,htr⟩;have hx:1 < 1 + x:=hx.elim (λz=>by cases z) id;refine ⟨rfl,zaN (by omega) (by omega) λone o0 o1=>?_⟩;refine ⟨rfl,zaN (by omega) (by omega) λst t0 t1=>⟨by omega,?_⟩⟩;have q0:0 <= (one + 1 + st) % (1 + x):=YBF _ (by omega);have q1:(one + 1 + st) % (1 + x) < 1 + x:=YBu _ (by omega);have qne:one ≠ (one + 1 + st) % (1 + x):=λe=>by
   have e1:=Int.emod_emod_of_dvd (one + 1 + st) (Int.dvd_refl (1 + x));by_cases hlt:one + 1 + st < 1 + x
   ·rw [Int.emod_eq_of_lt (by omega) hlt] at e;omega
   ·have:(one + 1 + st) % (1 + x) = one + 1 + st - (1 + x):=by
     rw [<- Int.sub_emod_right,Int.emod_eq_of_lt (by omega) (by omega)]
    omega
  generalize (one + 1 + st) % (1 + x) = other at q0 q1 qne;refine ⟨rfl,zaN (by omega) (by omega) λhi h0 h1=>zcC (hs:=nms) h0 (by omega) ?_⟩;have hm:=zlj (hs:=nms) h0 (by omega);generalize gI nms hi = hand at hm;refine zcC (hs:=hts) q0 (by omega) (zcC (hs:=hts) o0 (by omega) ?_);have app:∀ (rise:Int) (s16:Sl),(hand ∉ fs->rise = gI hts other - gI hts one)->s16 = .val (.int rise)->appW 11 (tupW (zab (vW 13) (zab (vW 14) (zab (vW 16) (zab (vW 15) nilA))))) E' [.val .box,.val (.int mm),.val (.int mh),.val (.int mr),.val (.int (1 + x)),.val (.int (1 + y)),.val (.int wide),.val (.lst true (hts.map D.int)),.val (.lst true (nms.map D.int)),.val (.lst true (fs.map D.int)),.val (.int (1 + bad)),.own (rs.map runD),.val k,.val (.int one),.val (.int other),.val (.int hand),s16]:=by
   intro rise s16 hrise hs16;subst hs16;have hl:rs.length < 100000:=by omega
   refine ⟨by show 4 <= 100000;decide,by simpa using hl,hn _ ⟨rs ++ [⟨0,one,other,rise,hand⟩],_,_,_,_,_,by rw [YAy];rfl,?_,.inr hx,?_,?_,?_,?_⟩⟩
   ·rw [YAE] at hlen;rw [YAs];simp;omega
   ·intro r hr;rcases YAr.mp hr with e | e
    ·exact hin r e
    ·rw [YAg.mp e];exact ⟨o0,o1,q0,q1⟩
   ·intro r hr;rcases YAr.mp hr with e | e
    ·exact hap r e
    ·rw [YAg.mp e];exact qne
   ·intro r hr;rcases YAr.mp hr with e | e
    ·exact hnms r e
    ·rw [YAg.mp e];exact hm
   ·intro r hr;rcases YAr.mp hr with e | e
    ·exact htr r e
    ·rw [YAg.mp e];exact hrise
  refine ⟨zc5 _ _,?_⟩;show if (if false = true then !inB (.int hand) (fs.map D.int) else inB (.int hand) (fs.map D.int)) = true then _ else _;rw [show (if false = true then !inB (.int hand) (fs.map D.int) else inB (.int hand) (fs.map D.int)) = fs.contains hand from zde _ _];cases hc:fs.contains hand with
  | false=>exact app _ _ (λ_=>rfl) rfl
  | true=>
   have hmem:hand ∈ fs:=by simpa using hc
   refine ⟨rfl,zaN (by decide) (by decide) λdr d0 d1=>ite2 (λ_=>?_) (λ_=>?_)⟩
   ·refine ⟨rfl,zaT (zfY _) λd ⟨rise,hd⟩=>?_⟩;subst hd;exact app rise _ (λz=>absurd hmem z) rfl
   ·exact app _ _ (λz=>absurd hmem z) rfl
 ·rintro ρ ⟨rs,s12,s13,s14,s15,s16,rfl,hlen,hx,hin,hap,hnms,htr⟩;refine ⟨by show 4 <= 100000;decide,1 + x,rs,hts,fs,rfl,by omega,by omega,by simpa using hlen,hin,hap,λr hr=>hnm _ (hnms r hr),⟨nms,by omega,hnms⟩,by omega,λh hh=>?_,hup,hfl3,λh hh=>hnm h (hf1 h hh),htr⟩;obtain ⟨_,_,q⟩:=hh0 h hh;exact q
 ·refine ⟨[],.un,.un,.un,.un,.un,by rw [<- hfs];rfl,?_,?_,(λr h=>by cases h),(λr h=>by cases h),(λr h=>by cases h),(λr h=>by cases h)⟩
  ·rw [zbo];show ((0:Nat):Int) + _ <= _;split <;> omega
  ·by_cases h:(1:Int) < 1 + x
   ·exact .inr h
   ·left;rw [if_neg (by simpa using h)];simp [rngL]
end Fd
namespace Fen
open PySem L2
def Er (rs qs:List Run):Prop:=rs.map zck = qs.map zck
theorem Er.symm (h:Er rs qs):Er qs rs:=Eq.symm h
theorem Er.len (h:Er rs qs):rs.length = qs.length:=by have:=congrArg List.length h;simpa using this
theorem zbG (h:zck r = zck q):r.one = q.one/\r.other = q.other/\r.rise = q.rise/\r.hand = q.hand:=by
 unfold zck at h;simp only [Prod.mk.injEq] at h;exact h
theorem Er.mem (h:Er rs qs) (hr:r ∈ rs):∃ q ∈ qs,zck q = zck r:=by
 have:zck r ∈ qs.map zck:=by rw [<- h];exact YAW hr
 obtain ⟨q,hq,e⟩:=YAD.mp this;exact ⟨q,hq,e⟩
theorem Er.get {rs qs:List Run} (h:Er rs qs) {i:Nat} {r:Run} (hr:rs[i]? = some r):∃ q,qs[i]? = some q/\zck q = zck r:=by
 have e:(qs.map zck)[i]? = some (zck r):=by rw [<- h,YAu,hr];rfl
 rw [YAu] at e;cases z:qs[i]? with
 | none=>rw [z] at e;cases e
 | some q=>rw [z] at e;exact ⟨q,rfl,Option.some.inj e⟩
theorem Er.conn (h:Er rs qs) (c:Conn rs i j):Conn qs i j:=by
 induction c with
 | refl=>exact .refl _
 | go r c m e ih=>
  obtain ⟨q,hq,eq⟩:=h.mem m;obtain ⟨e1,e2,_,_⟩:=zbG eq;exact .go q ih hq (by rw [e1,e2];exact e)
theorem Er.conn_iff (h:Er rs qs) (i j:Int):Conn rs i j ↔ Conn qs i j:=⟨h.conn,h.symm.conn⟩
theorem Er.htOk (h:Er rs qs) (x:HtOk rs hts):HtOk qs hts:=λq hq=>by
 obtain ⟨r,hr,e⟩:=h.symm.mem hq;obtain ⟨e1,e2,e3,_⟩:=zbG e
 have:=x r hr
 rw [e1,e2,e3] at this;exact this
theorem Er.noHts (h:Er rs qs) (x:zfZ rs):zfZ qs:=λf hf=>x f λr hr=>by
 obtain ⟨q,hq,e⟩:=h.mem hr;obtain ⟨e1,e2,e3,_⟩:=zbG e;rw [<- e1,<- e2,<- e3];exact hf q hq
theorem Er.inMarks (h:Er rs qs) (x:zaD n rs):zaD n qs:=λq hq=>by
 obtain ⟨r,hr,e⟩:=h.symm.mem hq;obtain ⟨e1,e2,_,_⟩:=zbG e;rw [<- e1,<- e2];exact x r hr
theorem Er.flatOk (h:Er rs qs)  (x:ze7 n rs hts):ze7 n qs hts:=
 ⟨x.1,h.htOk x.2.1,λm m0 m1 k=>x.2.2 m m0 m1 λj j0 j1 c=>k j j0 j1 (h.conn c)⟩
theorem Er.cons {r q:Run} {rs qs:List Run} (h:Er (r :: rs) (q :: qs)):zck r = zck q/\Er rs qs:=by
 unfold Er at h;rw [YAb,YAb] at h;injection h with h1 h2
 exact ⟨h1,h2⟩
theorem Er.usable:∀ {rs qs:List Run} (hs:List Int),Er rs qs->Er (usable hs rs) (usable hs qs)
 | [],[],_,_=>rfl
 | [],_ :: _,_,h=>by cases h
 | _ :: _,[],_,h=>by cases h
 | r :: rs,q :: qs,hs,h=>by
  obtain ⟨h1,h2⟩:=h.cons;have ih:=Er.usable hs h2;unfold Fen.usable at ih ⊢;obtain ⟨_,_,_,e⟩:=zbG h1;rw [YBj,YBj,e];split
  ·unfold Er;rw [YAb,YAb,h1,ih]
  ·exact ih
theorem Er.runAt {rs qs:List Run} (h:Er rs qs) (i:Int):zck (Fen.runAt rs i) = zck (Fen.runAt qs i):=by
 unfold Fen.runAt;rw [YAt,YAt];cases e:rs[i.toNat]? with
 | none=>
  have:qs[i.toNat]? = none:=by
   rw [List.getElem?_eq_none_iff] at e ⊢;rw [<- h.len];exact e
  rw [this]
 | some r=>
  obtain ⟨q,e2,eq⟩:=h.get e;rw [e2];exact eq.symm
theorem zkQ (h:zck r = zck q) (m:Int):stepR r m = stepR q m:=by
 obtain ⟨e1,e2,e3,_⟩:=zbG h;unfold stepR;rw [e1,e2,e3]
theorem Er.walkF (h:Er rs qs):∀ (here t:Int) (l:List Int),Fen.walkF rs here t l = Fen.walkF qs here t l
 | _,_,[]=>rfl
 | here,t,n :: rest=>by
  unfold Fen.walkF;rw [h.len,zkQ (h.runAt n) here];split
  ·split
   ·exact h.walkF _ _ rest
   ·rfl
  ·rfl
theorem Er.stepsF {rs qs:List Run} (h:Er rs qs) (hs:List Int):∀ (k m:Nat),Fen.stepsF rs hs k m = Fen.stepsF qs hs k m
 | 0,_=>rfl
 | k + 1,m=>by
  unfold Fen.stepsF;rw [h.stepsF hs k m];cases e:rs[k]? with
  | none=>
   have:qs[k]? = none:=by rw [List.getElem?_eq_none_iff] at e ⊢;rw [<- h.len];exact e
   rw [this]
  | some r=>
   obtain ⟨q,e2,eq⟩:=h.get e;obtain ⟨e1,e3,e4,e5⟩:=zbG eq;rw [e2];simp only [e1,e3,e4,e5]
theorem Er.treeOk {rs qs:List Run} (h:Er rs qs) {hs:List Int} {start:Int} {n:Nat} {ns:List Nd} (x:TreeOk rs hs start n ns):TreeOk qs hs start n ns where
 nod:=x.nod
 inm:=x.inm
 walk:=λy hy=>by rw [<- h.walkF];exact x.walk y hy
 runs:=λy hy z hz=>by
  obtain ⟨a,b,c,d,e⟩:=x.runs y hy z hz;obtain ⟨e1,e2,_,e4⟩:=zbG (h.runAt z);rw [<- e4,<- e1,<- e2,<- h.len];exact ⟨a,b,c,d,e⟩
 uniq:=x.uniq
 start:=x.start
 few:=x.few
 keep:=λy hy z hz=>by
  obtain ⟨u,hu,v,hv,a,b,c⟩:=x.keep y hy z hz;obtain ⟨e1,e2,e3,_⟩:=zbG (h.runAt z);exact ⟨u,hu,v,hv,by rw [<- e1];exact a,by rw [<- e2];exact b,by rw [<- e3];exact c⟩
theorem Er.firsts (h:Er rs qs)  (x:Firsts n rs sts):Firsts n qs sts:=
 ⟨x.1,λm=>(x.2 m).trans ⟨λ⟨a,b,c⟩=>⟨a,b,λj j0 j1 z=>c j j0 j1 (h.symm.conn z)⟩,λ⟨a,b,c⟩=>⟨a,b,λj j0 j1 z=>c j j0 j1 (h.conn z)⟩⟩⟩
theorem Er.ringF  : ∀ {rs qs:List Run} (i:Nat),Er rs qs->Fen.ringF cs hs i rs = Fen.ringF cs hs i qs
 | [],[],_,_=>rfl
 | [],_ :: _,_,h=>by cases h
 | _ :: _,[],_,h=>by cases h
 | r :: rs,q :: qs,i,h=>by
  obtain ⟨h1,h2⟩:=h.cons;obtain ⟨e1,e2,e3,e4⟩:=zbG h1;rw [zeA,zeA,e1,e2,e3,e4,Er.ringF (i + 1) h2]
theorem Er.treeAt (h:Er rs qs)   (x:TreeAt K H n rs hs t):TreeAt K H n qs hs t where
 th:=x.th
 tok:=h.treeOk x.tok
 keys:=λj=>(x.keys j).trans ((h.usable hs).conn_iff _ _)
 is:=by
  have e:Fen.stepsF rs hs rs.length = Fen.stepsF qs hs qs.length:=by
   funext m;rw [h.stepsF hs,h.len]
  rw [<- e];exact x.is
 b0:=x.b0
 b1:=x.b1
theorem Er.reach (h:Er rs qs)   (x:Reach K H n rs hs ts):Reach K H n qs hs ts:=
 ⟨λt ht=>h.treeAt (x.trees t ht),(h.usable hs).firsts x.firsts,x.nod⟩
def LineIs (n:Nat) (rs:List Run) (hs:List Int) (one other:Int) (o:Option (List Int)):Prop:=
 ∃ ns:List Nd,TreeOk rs hs one n ns/\TreeIs (stepsF rs hs rs.length) one (ns.map za5)/\(∀ j,j ∈ zau ns ↔ Conn (usable hs rs) one j)/\((o = none/\other ∉ zau ns)\/∃ x ∈ ns,x.m = other/\o = some x.line)
theorem LineIs.uniq   (h1:LineIs n rs hs one other o) (h2:LineIs n rs hs one other p):o = p:=by
 obtain ⟨ns,a1,b1,c1,d1⟩:=h1;obtain ⟨ms,a2,b2,c2,d2⟩:=h2;have e:=b1.uniq b2;rcases d1 with ⟨rfl,k1⟩ | ⟨x,hx,ex,rfl⟩
 ·rcases d2 with ⟨rfl,_⟩ | ⟨y,hy,ey,rfl⟩
  ·rfl
  ·exact absurd ((c1 other).mpr ((c2 other).mp (ey ▸ YAW hy))) k1
 ·rcases d2 with ⟨rfl,k2⟩ | ⟨y,hy,ey,rfl⟩
  ·exact absurd ((c2 other).mpr ((c1 other).mp (ex ▸ YAW hx))) k2
  ·have q1:=zfk a1.nod hx ex;have q2:=zfk a2.nod hy ey;rw [e] at q1
   have:=q1.trans q2.symm
   unfold za5 at this;simp only [Prod.mk.injEq] at this;rw [this.2.2]
theorem LineIs.none_iff   (h:LineIs n rs hs one other o):o = none ↔ ¬ Conn (usable hs rs) one other:=by
 obtain ⟨ns,a,b,c,d⟩:=h;rcases d with ⟨rfl,k⟩ | ⟨x,hx,ex,rfl⟩
 ·exact ⟨λ_ z=>k ((c other).mpr z),λ_=>rfl⟩
 ·refine ⟨(λz=>by cases z),λz=>absurd ((c other).mp (ex ▸ YAW hx)) z⟩
theorem LineIs.some   (h:LineIs n rs hs one other (some l)) :
  (∃ t,walkF rs one 0 l = some (other,t))/\l.Nodup/\(∀ z ∈ l,0 <= z/\z < (rs.length:Int)/\hs.contains (runAt rs z).hand = false)/\l.length <= n:=by
 obtain ⟨ns,a,b,c,d⟩:=h;rcases d with ⟨e,_⟩ | ⟨x,hx,ex,e⟩
 ·cases e
 ·cases e;refine ⟨⟨x.h,by rw [<- ex];exact a.walk x hx⟩,a.lineNodup hx,λz hz=>let ⟨p,q,r,_⟩:=a.runs x hx z hz;⟨p,q,r⟩,?_⟩;have l1:=a.few x hx;have l2:ns.length <= n:=by
   have hk:(zau ns).length = ns.length:=by unfold zau;simp
   have hin:∀ k ∈ zau ns,0 <= k/\k < n:=λk hk=>by
    obtain ⟨y,hy,e⟩:=YAD.mp hk;rw [<- e];exact a.inm y hy
   have hd:∀ k ∈ zau ns,k ∈ (List.range n).map Int.ofNat:=λk hk=>by
    obtain ⟨k0,k1⟩:=hin k hk;refine YAD.mpr ⟨k.toNat,YA4.mpr (by omega),?_⟩;show ((k.toNat:Nat):Int) = k;omega
   have:=zaF (ks:=zau ns) (xs:=(List.range n).map Int.ofNat) a.nod hd
   rw [YAd,YBx] at this;omega
  omega
def RingIs (n:Nat) (rs:List Run) (hs:List Int) (o:Option (Int × List Int)):Prop:=∃ K H ts,Reach K H n rs hs ts/\o = ringF ((za6 ts).map za5) hs 0 rs
theorem ziX    (x:Reach K H n rs hs ts) (y:Reach K' H' n rs hs us):(za6 ts).map za5 = (za6 us).map za5:=by
 have e:=x.firsts.uniq y.firsts;have hl:ts.length = us.length:=by rw [<- YAd TR.st,e,YAd]
 have e2:ts.map (λt=>t.ns.map za5) = us.map (λt=>t.ns.map za5):=by
  apply YBB
  ·rw [YAd,YAd,hl]
  ·intro i h1 h2;rw [YAd] at h1 h2;rw [List.getElem_map,List.getElem_map];have hs1:ts[i].st = us[i].st:=by
    have:(ts.map TR.st)[i]? = (us.map TR.st)[i]?:=by rw [e]
    rw [YAu,YAu,YAe h1,YAe h2] at this;exact Option.some.inj this
   have t1:=(x.trees _ (YBI h1)).is;have t2:=(y.trees _ (YBI h2)).is;rw [<- hs1] at t2;exact t1.uniq t2
 have g:∀ l:List TR,(za6 l).map za5 = (l.map (λt=>t.ns.map za5)).flatten:=λl=>by
  unfold za6;rw [List.map_flatMap,List.flatMap_def]
 rw [g,g,e2]
theorem RingIs.uniq   (h1:RingIs n rs hs o) (h2:RingIs n rs hs p):o = p:=by
 obtain ⟨K,H,ts,a,rfl⟩:=h1;obtain ⟨K',H',us,b,rfl⟩:=h2;rw [ziX a b]
theorem RingIs.some   (h:RingIs n rs hs (some (m,line))) (VM:zaD n rs) (hn:n <= 40) (hu:∀ r ∈ rs,r.one ≠ r.other) :
  0 <= m/\m < n/\line ≠ []/\line.length <= 90/\line.Nodup/\(∀ z ∈ line,0 <= z/\z < (rs.length:Int)/\hs.contains (runAt rs z).hand = false)/\∃ t,walkF rs m 0 line = some (m,t)/\t ≠ 0:=by
 obtain ⟨K,H,ts,a,e⟩:=h;exact zo3 a VM hn hu e.symm
theorem Er.ringIs   (h:Er rs qs) (x:RingIs n rs hs o):RingIs n qs hs o:=by
 obtain ⟨K,H,ts,a,rfl⟩:=x;exact ⟨K,H,ts,h.reach a,Er.ringF 0 h⟩
theorem Er.lineIs   (h:Er rs qs) (x:LineIs n rs hs one other o):LineIs n qs hs one other o:=by
 obtain ⟨ns,a,b,c,d⟩:=x;have e:Fen.stepsF rs hs rs.length = Fen.stepsF qs hs qs.length:=by
  funext m;rw [h.stepsF hs,h.len]
 exact ⟨ns,h.treeOk a,e ▸ b,λj=>(c j).trans ((h.usable hs).conn_iff _ _),d⟩
end Fen
namespace Fd
open PySem L2
def zrg:Option (List Int)->D
 | none=>.non
 | some l=>.tup (l.map D.int)
def zqs:Option (Int × List Int)->D
 | none=>.non
 | some ml=>.tup [.int ml.1,.tup (ml.2.map D.int)]
def zcN:Fn:=λds Q=>∃ (n:Nat) (a b:Bool) (rs:List Rn) (hs:List Int) (one other:Int),ds = [.int n,.lst a (rs.map runD),.lst b (hs.map D.int),.int one,.int other]/\Fen.zaD n rs/\0 <= one/\one < n/\n <= 1000/\rs.length <= 1000/\∀ o,Fen.LineIs n rs hs one other o->Q (zrg o)
def zcK:Fn:=λds Q=>∃ (n:Nat) (a b:Bool) (rs:List Rn) (hs:List Int),ds = [.int n,.lst a (rs.map runD),.lst b (hs.map D.int)]/\Fen.zaD n rs/\n <= 40/\rs.length <= 1000/\∀ o,Fen.RingIs n rs hs o->Q (zqs o)
def zj9:Fn:=λds Q=>∃ (n:Nat) (a:Bool) (rs:List Rn),ds = [.int n,.lst a (rs.map runD)]/\Fen.zaD n rs/\n <= 1000/\rs.length <= 1000/\(Fen.zfZ rs->Q .non)/\∀ hts,Fen.ze7 n rs hts->Q (.lst true (hts.map D.int))
theorem zdS  : ∀ {rs:List Rn} {vs:List V},Reps c G (rs.map runD) vs->∃ rs':List Rn,vs = rs'.map Fen.runV/\Fen.Runs c.K G rs'/\Fen.Er rs' rs
 | [],vs,h=>by cases h;exact ⟨[],rfl,(λr hr=>by cases hr),rfl⟩
 | r :: rs,vs,⟨v,ws,e,h1,h2⟩=>by
  obtain ⟨rs',e1,e2,e3⟩:=zdS h2;obtain ⟨a,us,ea,ha,hu⟩:=h1;obtain ⟨u1,u2,eu,i1,j1⟩:=hu;obtain ⟨u3,u4,eu2,i2,j2⟩:=j1;obtain ⟨u5,u6,eu3,i3,j3⟩:=j2;obtain ⟨u7,u8,eu4,i4,j4⟩:=j3;cases i1;cases i2;cases i3;cases i4;cases j4;subst eu4 eu3 eu2 eu;refine ⟨{ r with p:=a } :: rs',?_,?_,?_⟩
  ·rw [e,ea,e1];rfl
  ·intro q hq;rcases YAk.mp hq with rfl | hq
   ·exact ha
   ·exact e2 q hq
  ·show List.map _ _ = List.map _ _;rw [YAb,YAb,show rs'.map Fen.zck = rs.map Fen.zck from e3];rfl
def zft (G H':Hp) (nl:Addr->Prop) [DecidablePred nl]:Hp:=λa=>match G a with
 | some o=>some o
 | none=>if nl a then H' a else match H' a with
  | some (.tup xs)=>some (.tup xs)
  | some (.frz o b)=>some (.frz o b)
  | _=>none
theorem zec  [DecidablePred nl] (gh:Same G H) (bx:BoxD β H G) (S:Same H H') (hn:∀ a,nl a->H a = none):Stp β H G H' (zft G H' nl) where
 gg:=λa o e=>by unfold zft;rw [e]
 gh:=λa o e=>by
  unfold zft at e;cases z:G a with
  | some u=>rw [z] at e;cases e;exact S _ _ (gh _ _ z)
  | none=>
   rw [z] at e;simp only at e;split at e
   ·exact e
   ·split at e
    ·cases e;assumption
    ·cases e;assumption
    ·cases e
 fr:=λa o _ e=>S a o e
 nw:=λa e=>by
  unfold zft at e;cases z:G a with
  | some u=>exact .inl (λw=>by cases w)
  | none=>
   rw [z] at e;simp only at e;refine .inr ?_;split at e
   ·exact .inl (hn a (by assumption))
   ·cases y:H a with
    | none=>exact .inl rfl
    | some o=>
     have:=S a o y
     rw [this] at e;refine .inr ⟨o,rfl,?_⟩;cases o <;> first | trivial | exact (e rfl)
 bx:=by
  obtain ⟨cc,p,r,d,ns,h,a,b,c,f,g,i⟩:=bx.ex;refine ⟨⟨cc,p,r,d,ns,S _ _ h,a,b,c,f,by unfold zft;rw [g],i⟩,?_⟩;unfold zft;rw [bx.still];simp only;rw [if_neg (λz=>by rw [hn _ z] at h;cases h),S _ _ h];rfl
 b0:=λz=>by obtain ⟨o,h⟩:=bx.at;rw [z] at h;cases h
theorem ze3  [DecidablePred nl]  (gh:Same G H') (h:SqT K H' a vs):SqT K (zft G H' nl) a vs:=by
 rcases h with h | h
 ·rcases h with h | ⟨o,h⟩
  ·refine .inl (.inl ?_);unfold zft;cases z:G a with
   | some u=>simp only;rw [<- h,gh _ _ z]
   | none=>simp only;rw [h];split <;> rfl
  ·refine .inl (.inr ⟨o,?_⟩);unfold zft;cases z:G a with
   | some u=>simp only;rw [<- h,gh _ _ z]
   | none=>simp only;rw [h];split <;> rfl
 ·exact .inr h
theorem zmt  [DecidablePred nl]  (gh:Same G H') (hn:nl a) (h:H' a = some o):zft G H' nl a = some o:=by
 unfold zft;cases z:G a with
 | some u=>simp only;rw [<- h,gh _ _ z]
 | none=>simp only;rw [if_pos hn,h]
theorem zfM   (h:Rep c G (.lst n xs) v):∃ a vs,v = .ref a/\G a = some (.lst vs)/\Reps c G xs vs:=by
 obtain ⟨a,vs,h1,h2,_,h3⟩:=h;exact ⟨a,vs,h1,h2,h3⟩
theorem zim {c:Bk} {G:Hp} {a:Addr} {ns:List Int} (h:SqT c.K G a (ns.map V.int)):Rep c G (.tup (ns.map D.int)) (.ref a):=⟨a,_,rfl,h,reps_ints.mpr rfl⟩
def zbn:Fn:=fnW 11 ((seqW (ownW 2 (zjC (vW 0)))
  (seqW (ownW 3 (mulL (valW (lstW (zab (kW (.int 0)) nilA))) (vW 0)))
  (seqW (forW (seqI (vW 1)) (.tp 4 (.cons (.nm 4) (.cons (.nm 5) (.cons (.nm 6) (.cons (.nm 7) .nil))))) (seqW (asgW (.nm 8) (binW subD (binW addD (ixvW 3 (vW 4)) (vW 6)) (ixvW 3 (vW 5))))
  (ifS (blW (binW eqD (ixvW 2 (vW 4)) (ixvW 2 (vW 5)))) (ifS (blW (binW neD (vW 8) (kW (.int 0)))) (retW (kW .non)) nilS) (seqW (asgW (.nm 9) (valW (lstW (zab (ixvW 2 (vW 4)) (zab (ixvW 2 (vW 5)) nilA)))))
  (forW (zf1 (vW 0)) (.nm 10) (ifS (blW (binW eqD (ixvW 2 (vW 10)) (ixvW 9 (kW (.int 1))))) (seqW (putW 2 (vW 10) (ixvW 9 (kW (.int 0))))
  (zgs 3 (vW 10) (vW 8))) nilS))))))
  (frzW 3 (frzW 2 (retW (tupW (zab (vW 2) (zab (vW 3) nilA))))))))))
theorem zdt:∀ xs ys:List Int,PyData.eqvAll (zbN (xs.map D.int)) (zbN (ys.map D.int)) = decide (xs = ys)
 | [],[]=>rfl
 | [],_ :: _=>by simp [zbN,PyData.eqvAll]
 | _ :: _,[]=>by simp [zbN,PyData.eqvAll]
 | x :: xs,y :: ys=>by
  rw [YAb,YAb,zbN,zbN,PyData.eqvAll,zdt xs ys];show ((x == y) && _) = _;by_cases h:x = y <;> by_cases h2:xs = ys <;> simp [h,h2]
theorem zj3 (a b:Bool) (xs ys:List Int):eqB (.lst a (xs.map D.int)) (.lst b (ys.map D.int)) = decide (xs = ys):=by
 unfold eqB toPy;rw [PyData.eqv];exact zdt xs ys
theorem zfx (a b:Bool) (xs ys:List Int):eqOk (.lst a (xs.map D.int)) (.lst b (ys.map D.int)):=by
 refine ⟨by unfold layD;exact zcc xs,by unfold layD;exact zcc ys,?_⟩;unfold toPy PyData.depth;rw [zdk,zdk];decide
mutual
theorem znY:∀ d:D,PyData.eqv (toPy d) (toPy d) = true
 | .non=>by unfold toPy;rfl
 | .bl b=>by unfold toPy;rw [PyData.eqv];simp
 | .int b=>by unfold toPy;rw [PyData.eqv];simp
 | .str b=>by unfold toPy;rw [PyData.eqv];simp
 | .box=>by unfold toPy;rfl
 | .tup xs=>by unfold toPy;rw [PyData.eqv];exact zd3 xs
 | .lst _ xs=>by unfold toPy;rw [PyData.eqv];exact zd3 xs
theorem zd3:∀ xs:List D,PyData.eqvAll (zbN xs) (zbN xs) = true
 | []=>rfl
 | x :: xs=>by rw [zbN,PyData.eqvAll,znY x,zd3 xs];rfl
end
theorem znj (r:Rn):toPy (runD r) = .tuple [.int r.one,.int r.other,.int r.rise,.int r.hand]:=rfl
theorem zhB:∀ rs:List Rn,zcr (rs.map runD) = true
 | []=>rfl
 | r :: rs=>by rw [YAb,zcr,zhB rs];rfl
theorem zjS:∀ rs:List Rn,PyData.depthAll (zbN (rs.map runD)) <= 1
 | []=>by simp [zbN,PyData.depthAll]
 | r :: rs=>by
  rw [YAb,zbN,PyData.depthAll,znj]
  have:=zjS rs
  simp only [PyData.depth,PyData.depthAll];omega
theorem zhN (a b:Bool) (rs ss:List Rn):eqOk (.lst a (rs.map runD)) (.lst b (ss.map runD)):=by
 refine ⟨by unfold layD;exact zhB rs,by unfold layD;exact zhB ss,?_⟩
 have:=zjS rs
 unfold toPy PyData.depth;omega
theorem zjP (a b:Bool) (rs:List Rn):eqB (.lst a (rs.map runD)) (.lst b (rs.map runD)) = true:=by unfold eqB toPy;rw [PyData.eqv];exact zd3 _
theorem zeC {α β:Type} (p:α->Bool) (f:α->β):∀ xs:List α,xs.filterMap (λx=>if p x = true then some (f x) else none) = (xs.filter p).map f
 | []=>rfl
 | x :: xs=>by
  rw [YAU,YBj,zeC p f xs];cases p x <;> rfl
theorem znP {hs:List Int} {i:Int} {Q:Nat->Prop} (h0:0 <= i) (h1:i < hs.length) (q:Q i.toNat):ixS (hs.map D.int) (.int i) Q:=by
 show (match ixN (hs.map D.int).length i with | some m=>Q m | none=>False);unfold ixN;rw [if_pos h0,YAd,if_pos h1];exact q
theorem zmh  (h0:0 <= i) (h1:i < hs.length) (q:Q i.toNat (Fen.gI hs i)):getI (hs.map D.int) (.int i) Q:=by
 show (match (hs.map D.int)[i.toNat]? with | some (.int a)=>0 <= i/\Q i.toNat a | _=>False);have hn:i.toNat < hs.length:=by omega
 have e:Fen.gI hs i = hs[i.toNat]:=by unfold Fen.gI;rw [YAt,YAe hn];rfl
 rw [YAu,YAe hn];rw [e] at q;exact ⟨h0,q⟩
theorem zjV (hs:List Int) (m:Nat) (v:Int):(hs.map D.int).set m (.int v) = (hs.set m v).map D.int:=by rw [List.map_set]
theorem zb3  (h0:0 <= i) (h1:i < hs.length) (q:Q (.int (Fen.gI hs i))):itD (hs.map D.int) (.int i) Q:=zcC h0 h1 q
theorem zoX {i:Nat} {I A:WE} {E:En} {ρ:Env} {hs:List Int} {k b:Int} (h:ρ[i]? = some (.own (hs.map D.int))) (hI:∀ Q:D->Prop,Q (.int k)->I ρ Q) (hA:∀ Q:D->Prop,Q (.int b)->A ρ Q) (k0:0 <= k) (k1:k < hs.length)
  (q:E.nx (ρ.set i (.own ((hs.set k.toNat (Fen.gI hs k + b)).map D.int)))):zgs i I A E ρ:=by
 unfold zgs;rw [h];refine hI _ (zmh k0 k1 (hA _ ?_));show E.nx _;rw [zjV];exact q
theorem zeQ (a:Bool) (n:Nat) (rs:List Rn) (hn:n <= 1000) (hm:Fen.zaD n rs) :
  zbn [.int n,.lst a (rs.map runD)] (λd=>(d = .non/\Fen.zfZ rs)\/∃ lab hts:List Int,d = .tup [.lst true (lab.map D.int),.lst true (hts.map D.int)]/\lab.length = n/\hts.length = n/\Fen.zf4 n rs lab/\Fen.HtOk rs hts):=by
 unfold zbn fnW zaH;rw [YAb,YAb,zaS,zaq];refine ⟨⟨by omega,by omega⟩,by show 1 <= 100000;decide,⟨by omega,by omega,by show 1 <= 1000;decide⟩,?_⟩;have e1:((List.range (n:Int).toNat).map λ(k:Nat)=>D.int (k:Int)) = ((List.range n).map Int.ofNat).map D.int:=by rw [YAH,YAC];rfl
 have e2:(List.replicate (n:Int).toNat [D.int 0]).flatten = (List.replicate n (0:Int)).map D.int:=by
  rw [YAC,List.map_replicate];clear hn hm e1
  induction n with
  | zero=>rfl
  | succ n ih=>rw [YAS,YBk,ih,YAS];rfl
 refine zbb (λrest ρ=>∃ (done todo:List Rn) (lab hts:List Int) (s4 s5 s6 s7 s8 s9 s10:Sl),ρ = [.val (.int n),.val (.lst false (rs.map runD)),.own (lab.map D.int),.own (hts.map D.int),s4,s5,s6,s7,s8,s9,s10] /\
  rest = todo.map runD/\rs = done ++ todo/\lab.length = n/\hts.length = n/\Fen.zf4 n done lab/\Fen.HtOk done hts) ?_ ?_ _ _ ⟨[],rs,(List.range n).map Int.ofNat,List.replicate n 0,.un,.un,.un,.un,.un,.un,.un,by rw [<- e1,<- e2];rfl,rfl,rfl,by simp,by simp,(Fen.zhQ n).1,(Fen.zhQ n).2⟩
 ·rintro x rest ρ E' hn' hc hr hb ⟨done,todo,lab,hts,s4,s5,s6,s7,s8,s9,s10,rfl,er,ers,ll,lh,LO,HO⟩;cases todo with
  | nil=>cases er
  | cons r todo=>
   rw [YAb] at er;injection er with er1 er2
   subst er1;have V0:=hm r (by rw [ers];exact YAo _ YAh);have VD:Fen.zaD n done:=λq hq=>hm q (by rw [ers];exact YAB _ hq);have esplit:rs = (done ++ [r]) ++ todo:=by rw [ers,YA1];rfl
   refine ⟨rfl,zb3 V0.1 (by omega) (zb3 V0.2.2.1 (by omega) ?_)⟩;refine zb3 V0.1 (by omega) (zb3 V0.2.2.1 (by omega) ⟨zaJ _ _,?_⟩);rw [zbl];by_cases hlab:Fen.gI lab r.one = Fen.gI lab r.other
   ·rw [YAl hlab];refine ⟨zaJ _ _,?_⟩;rw [zbl];by_cases hb0:Fen.gI hts r.one + r.rise - Fen.gI hts r.other = 0
    ·rw [YAl hb0];obtain ⟨a1,a2⟩:=Fen.znB V0 LO HO hlab hb0;exact hn' _ ⟨done ++ [r],todo,lab,hts,_,_,_,_,_,_,_,rfl,er2,esplit,ll,lh,a1,a2⟩
    ·rw [YAz hb0];refine hr _ (.inl ⟨rfl,?_⟩);rw [ers];exact Fen.zoh V0 LO HO hlab hb0
   ·rw [YAz hlab];refine zb3 V0.1 (by omega) (zb3 V0.2.2.1 (by omega) ⟨by show 2 <= 100000;decide,⟨by omega,by omega⟩,?_⟩);rw [YAC];refine zbb (λrest ρ=>∃ (k:Nat) (lab' hts':List Int) (s10:Sl),ρ = [.val (.int n),.val (.lst false (rs.map runD)),.own (lab'.map D.int),.own (hts'.map D.int),.val (.int r.one),.val (.int r.other),.val (.int r.rise),.val (.int r.hand),.val (.int (Fen.gI hts r.one + r.rise - Fen.gI hts r.other)),.val (.lst true ([Fen.gI lab r.one,Fen.gI lab r.other].map D.int)),s10] /\
     k <= n/\rest = rngL k (n - k)/\lab'.length = n/\hts'.length = n/\(∀ i:Int,0 <= i->i < n->Fen.gI lab' i = if i < k/\Fen.gI lab i = Fen.gI lab r.other then Fen.gI lab r.one else Fen.gI lab i) /\
     ∀ i:Int,0 <= i->i < n->Fen.gI hts' i = if i < k/\Fen.gI lab i = Fen.gI lab r.other then Fen.gI hts i + (Fen.gI hts r.one + r.rise - Fen.gI hts r.other) else Fen.gI hts i) ?_ ?_ _ _ ⟨0,lab,hts,s10,rfl,by omega,rfl,ll,lh,λi i0 i1=>by rw [if_neg (by omega)],λi i0 i1=>by rw [if_neg (by omega)]⟩
    ·rintro x2 rest2 ρ E2 hn2 hc2 hr2 hb2 ⟨k,lab',hts',s10,rfl,hk,er3,ll2,lh2,q1,q2⟩;have hk2:k < n:=by
      rcases YBT k n with h | h
      ·exact h
      ·rw [Nat.sub_eq_zero_of_le h] at er3;cases er3
     obtain ⟨m,hm2⟩:∃ m,n - k = m + 1:=⟨n - k - 1,by omega⟩;rw [hm2,zix] at er3;injection er3 with er4 er5
     subst er4;have er6:rest2 = rngL ((k + 1:Nat):Int) (n - (k + 1)):=by rw [er5,show n - (k + 1) = m by omega];rfl
     refine zb3 (by omega) (by omega) ⟨zaJ _ _,?_⟩;rw [zbl];have qk:=q1 k (by omega) (by omega);rw [if_neg (by omega)] at qk;show if decide (Fen.gI lab' k = Fen.gI lab r.other) = true then _ else _;by_cases hc3:Fen.gI lab k = Fen.gI lab r.other
     ·rw [YAl (qk.trans hc3)];refine znP (by omega) (by omega) ?_;dsimp only;refine zoX (hs:=hts') (k:=k) (b:=Fen.gI hts r.one + r.rise - Fen.gI hts r.other) rfl (λQ q=>q) (λQ q=>q) (by omega) (by omega) ?_;refine hn2 _ ⟨k + 1,lab'.set k (Fen.gI lab r.one),hts'.set k (Fen.gI hts' k + (Fen.gI hts r.one + r.rise - Fen.gI hts r.other)),.val (.int k),by rw [<- zjV lab',YAC];rfl,by omega,er6,by simpa using ll2,by simpa using lh2,λi i0 i1=>?_,λi i0 i1=>?_⟩
      ·rw [Fen.zjO (by omega) i0];by_cases e:i = (k:Int)
       ·rw [if_pos e,if_pos ⟨by omega,by rw [e];exact hc3⟩]
       ·rw [if_neg e,q1 i i0 i1];by_cases z:i < (k:Int)/\Fen.gI lab i = Fen.gI lab r.other
        ·rw [if_pos z,if_pos ⟨by omega,z.2⟩]
        ·rw [if_neg z,if_neg (λy=>z ⟨by omega,y.2⟩)]
      ·rw [Fen.zjO (by omega) i0];by_cases e:i = (k:Int)
       ·rw [if_pos e,if_pos ⟨by omega,by rw [e];exact hc3⟩,e,q2 k (by omega) (by omega),if_neg (by omega)]
       ·rw [if_neg e,q2 i i0 i1];by_cases z:i < (k:Int)/\Fen.gI lab i = Fen.gI lab r.other
        ·rw [if_pos z,if_pos ⟨by omega,z.2⟩]
        ·rw [if_neg z,if_neg (λy=>z ⟨by omega,y.2⟩)]
     ·rw [YAz (λz=>hc3 (qk.symm.trans z))];refine hn2 _ ⟨k + 1,lab',hts',.val (.int k),rfl,by omega,er6,ll2,lh2,λi i0 i1=>?_,λi i0 i1=>?_⟩
      ·rw [q1 i i0 i1];by_cases z:i < (k:Int)/\Fen.gI lab i = Fen.gI lab r.other
       ·rw [if_pos z,if_pos ⟨by omega,z.2⟩]
       ·rw [if_neg z,if_neg (λy=>z ⟨by
         have:i ≠ (k:Int):=λe=>hc3 (e ▸ y.2)
         omega,y.2⟩)]
      ·rw [q2 i i0 i1];by_cases z:i < (k:Int)/\Fen.gI lab i = Fen.gI lab r.other
       ·rw [if_pos z,if_pos ⟨by omega,z.2⟩]
       ·rw [if_neg z,if_neg (λy=>z ⟨by
         have:i ≠ (k:Int):=λe=>hc3 (e ▸ y.2)
         omega,y.2⟩)]
    ·rintro ρ ⟨k,lab',hts',s10,rfl,hk,er3,ll2,lh2,q1,q2⟩;have hkn:n - k = 0:=by
      have:=congrArg List.length er3
      rw [zbo] at this;simpa using this.symm
     have hkn:k = n:=by omega
     subst hkn;obtain ⟨a1,a2⟩:=Fen.znw VD V0 LO HO hlab (λi i0 i1=>by
      rw [q1 i i0 i1];by_cases z:Fen.gI lab i = Fen.gI lab r.other
      ·rw [if_pos ⟨i1,z⟩,if_pos z]
      ·rw [if_neg (λy=>z y.2),if_neg z]) (λi i0 i1=>by
      rw [q2 i i0 i1];by_cases z:Fen.gI lab i = Fen.gI lab r.other
      ·rw [if_pos ⟨i1,z⟩,if_pos z]
      ·rw [if_neg (λy=>z y.2),if_neg z])
     exact hn' _ ⟨done ++ [r],todo,lab',hts',_,_,_,_,_,_,_,rfl,er2,esplit,ll2,lh2,a1,a2⟩
 ·rintro ρ ⟨done,todo,lab,hts,s4,s5,s6,s7,s8,s9,s10,rfl,er,ers,ll,lh,LO,HO⟩;cases todo with
  | cons r todo=>cases er
  | nil=>
   rw [YA3] at ers;subst ers;exact ⟨by show 2 <= 100000;decide,.inr ⟨lab,hts,rfl,ll,lh,LO,HO⟩⟩
theorem zit (rs:List Rn) (hs:List Int):zbf rs hs = Fen.usable hs rs:=by
 unfold zbf Fen.usable;rfl
def zcs:Fn:=fnW 4 ((seqW (asgW (.nm 2) (valW (lstW (zab (valW (lstW nilA)) nilA))))
  (seqW (forW (zf1 (vW 1)) (.nm 3) (asgW (.nm 2) (valW (zfz [none,none,some 0] (seqI (vW 2)) (.nm 0) (seqI (vW 2)) (.nm 1) (orT (notT (truW (vW 0))) (blW (binW ltD (ixvW 0 (unW negD (kW (.int 1)))) (vW 1)))) (binW addD (vW 0) (valW (lstW (zab (vW 1) nilA))))))))
  (retW (vW 2)))))
def zb5:Fn:=fnW 7 ((seqW (asgW (.nm 3) (zaw 1 zbC (zab (vW 1) nilA)))
  (seqW (forW (zf1 (binW addD (cbW minF (zab (vW 2) (zab (zeb 3) nilA))) (kW (.int 1)))) (.nm 4) (forW (seqI (zaw 2 zcs (zab (vW 3) (zab (vW 4) nilA)))) (.nm 5) (seqW (asgW (.nm 6) (zaw 2 zj9 (zab (vW 0) (zab (zaw 2 zhL (zab (vW 1) (zab (vW 5) nilA))) nilA))))
  (ifS (blW (zky (vW 6))) (retW (tupW (zab (vW 5) (zab (vW 6) nilA)))) nilS))))
  (retW (kW .non)))))
def za4:Fn:=fnW 2 ((retW (zaw 1 zbC (zab (valW (zaE [none,some 0] (seqI (vW 1)) (.nm 0) noIf (ixvW 1 (vW 0)))) nilA))))
def zaB:Nat->Fn
 | 0=>λ_ _=>False
 | n + 1=>fnW 13 ((seqW (asgW (.nm 5) (kW (.str "ring")))
  (seqW (asgW (.nm 6) (zaw 3 zcK (zab (vW 0) (zab (vW 1) (zab (vW 3) nilA)))))
  (seqW (ifS (blW (isNW (vW 6))) (seqW (asgW (.nm 5) (kW (.str "line")))
  (seqW (asgW (.tp 2 (.cons (.nm 7) (.cons (.nm 8) .nil))) (vW 4))
  (asgW (.nm 6) (tupW (zab (vW 7) (zab (zaw 5 zcN (zab (vW 0) (zab (vW 1) (zab (vW 3) (zab (vW 7) (zab (vW 8) nilA)))))) nilA)))))) nilS)
  (seqW (asgW (.tp 2 (.cons (.nm 9) (.cons (.nm 10) .nil))) (vW 6))
  (seqW (asgW (.nm 11) (ifW (blW (binW gtD (vW 2) (kW (.int 0)))) (zaw 2 za4 (zab (vW 1) (zab (vW 10) nilA))) (valW (lstW nilA))))
  (seqW (asgW (.nm 12) (valW (zaE [none,some 0,some 1,some 4,some 2,some 3] (seqI (vW 11)) (.nm 0) noIf (tupW (zab (vW 0) (zab (zaw 5 (zaB n) (zab (vW 1) (zab (vW 2) (zab (binW subD (vW 4) (kW (.int 1))) (zab (binW addD (vW 5) (valW (lstW (zab (vW 0) nilA)))) (zab (vW 3) nilA)))))) nilA))))))
  (retW (tupW (zab (vW 5) (zab (vW 9) (zab (vW 10) (zab (cbW ze6 (zab (vW 12) nilA)) nilA)))))))))))))
def zbI:Fn:=fnW 5 ((retW (zaw 5 (zaB 6) (zab (vW 0) (zab (vW 1) (zab (vW 2) (zab (valW (lstW nilA)) (zab (tupW (zab (vW 3) (zab (vW 4) nilA))) nilA))))))))
def zbs:Fn:=fnW 3 ((seqW (ifS (blW (zky (zaw 3 zb5 (zab (vW 0) (zab (vW 1) (zab (vW 2) nilA)))))) (retW (kW .non)) nilS)
  (retW (zaw 5 zbI (zab (vW 0) (zab (vW 1) (zab (vW 2) (zab (kW (.int 0)) (zab (kW (.int 0)) nilA)))))))))
def lsD (l:List Int):D:=.lst true (l.map D.int)
def okN (l:List Int) (h:Int):Bool:=l.isEmpty || decide (l.getLastD 0 < h)
def nxt (hands l:List Int):List Int:=hands.filter (okN l)
def zaZ (hands:List Int):Nat->List (List Int)
 | 0=>[[]]
 | k + 1=>(zaZ hands k).flatMap λl=>(nxt hands l).map λh=>l ++ [h]
def wt (hands l:List Int):Nat:=2 ^ (nxt hands l).length
theorem zlF:∀ s:List Int,s.Pairwise (· < ·)->(s.map λh=>2 ^ (s.filter λx=>decide (h < x)).length).sum + 1 = 2 ^ s.length
 | [],_=>rfl
 | x :: s,h=>by
  obtain ⟨h1,h2⟩:=YBd.mp h;have e1:(x :: s).filter (λy=>decide (x < y)) = s:=by
   rw [YBj,if_neg (by simp)];exact List.filter_eq_self.mpr λy hy=>YAl (h1 y hy)
  have e2:s.map (λh=>2 ^ ((x :: s).filter λy=>decide (h < y)).length) = s.map (λh=>2 ^ (s.filter λy=>decide (h < y)).length):=YA7 λy hy=>by
   rw [YBj,if_neg (by have:=h1 y hy;simp;omega)]
  rw [YAb,List.sum_cons,e1,e2,YAE,Nat.pow_succ]
  have:=zlF s h2
  omega
theorem snocs (l:List Int):l = []\/∃ m a,l = m ++ [a]:=(List.eq_nil_or_concat l).imp id λ⟨m,a,e⟩=>⟨m,a,by rw [e,List.concat_eq_append]⟩
theorem zd5 (l:List Int) (h:Int):(l ++ [h]).getLastD 0 = h:=by simp
theorem zjE (l:List Int) (h x:Int):okN (l ++ [h]) x = decide (h < x):=by
 unfold okN;rw [zd5];simp
theorem zlY  (h1:okN l h = true) (h2:h < x):okN l x = true:=by
 unfold okN at h1 ⊢;rw [Bool.or_eq_true] at h1 ⊢;rcases h1 with e | e
 ·exact .inl e
 ·exact .inr (YAl (Int.lt_trans (YAM e) h2))
theorem zng  (hh:h ∈ nxt hands l):nxt hands (l ++ [h]) = (nxt hands l).filter λx=>decide (h < x):=by
 unfold nxt;rw [List.filter_filter];refine List.filter_congr λx _=>?_;rw [zjE];have ho:=(YA9.mp hh).2;by_cases z:h < x
 ·rw [YAl z,zlY ho z];rfl
 ·rw [YAz z];rfl
theorem zqL (u:hands.Pairwise (· < ·)) (l:List Int):(nxt hands l).Pairwise (· < ·):=u.filter _
theorem zq8 (u:hands.Pairwise (· < ·)) (l:List Int):(((nxt hands l).map λh=>l ++ [h]).map (wt hands)).sum + 1 = wt hands l:=by
 rw [YAH]
 have:=zlF _ (zqL u l)
 unfold wt;rw [<- this];congr 2;refine YA7 λh hh=>?_;show 2 ^ (nxt hands (l ++ [h])).length = _;rw [zng hh]
theorem zkp {α β:Type} (f:α->List β) (w:β->Nat):∀ xs:List α,((xs.flatMap f).map w).sum = (xs.map λx=>((f x).map w).sum).sum
 | []=>rfl
 | x :: xs=>by rw [YBR,YAy,List.sum_append,zkp f w xs,YAb,List.sum_cons]
theorem zou {α:Type} {f g:α->Nat}:∀ {xs:List α},(∀ x ∈ xs,f x <= g x)->(xs.map f).sum <= (xs.map g).sum
 | [],_=>YAm _
 | x :: xs,h=>by
  rw [YAb,YAb,List.sum_cons,List.sum_cons];exact Nat.add_le_add (h x YAh) (zou λy hy=>h y (YAj _ hy))
theorem zku {hands:List Int} (u:hands.Pairwise (· < ·)):∀ k,((zaZ hands k).map (wt hands)).sum <= 2 ^ hands.length
 | 0=>by
  have:nxt hands [] = hands:=List.filter_eq_self.mpr λx _=>rfl
  show (2 ^ (nxt hands []).length) + 0 <= _;rw [this];exact YAm _
 | k + 1=>by
  refine YAK ?_ (zku u k);show (((zaZ hands k).flatMap λl=>(nxt hands l).map λh=>l ++ [h]).map (wt hands)).sum <= _;rw [zkp];exact zou (f:=λl=>(((nxt hands l).map λh=>l ++ [h]).map (wt hands)).sum) (g:=wt hands) λl _=>by have:=zq8 u l;show _ <= _;omega
theorem zgb {α:Type} {f:α->Nat}:∀ {xs:List α},(∀ x ∈ xs,1 <= f x)->xs.length <= (xs.map f).sum
 | [],_=>YAm _
 | x :: xs,h=>by
  rw [YAb,List.sum_cons,YAE]
  have:=h x YAh
  have:=zgb λy hy=>h y (YAj x hy)
  omega
theorem zk9 {hands:List Int} (u:hands.Pairwise (· < ·)) (k:Nat):(zaZ hands k).length <= 2 ^ hands.length:=
 YAK (zgb λl _=>Nat.one_le_two_pow) (zku u k)
theorem up_snoc  : (l ++ [h]).Pairwise (· < ·) ↔ l.Pairwise (· < ·)/\okN l h = true:=by
 rcases snocs l with rfl | ⟨m,a,rfl⟩
 ·simp [okN]
 ·rw [List.pairwise_append,zjE,decide_eq_true_eq];constructor
  ·rintro ⟨h1,_,h3⟩;exact ⟨h1,h3 a (by simp) h (by simp)⟩
  ·rintro ⟨h1,h2⟩;refine ⟨h1,List.pairwise_singleton _ _,λx hx y hy=>?_⟩;rw [YAg.mp hy];rcases YAr.mp hx with e | e
   ·exact Int.lt_trans ((List.pairwise_append.mp h1).2.2 x e a (by simp)) h2
   ·rw [YAg.mp e];exact h2
theorem mem_lists:∀ {k:Nat} {l:List Int},l ∈ zaZ hands k ↔ l.length = k/\l.Pairwise (· < ·)/\∀ h ∈ l,h ∈ hands
 | 0,l=>by
  unfold zaZ;constructor
  ·intro h;rw [YAg.mp h];exact ⟨rfl,List.Pairwise.nil,λh z=>by cases z⟩
  ·rintro ⟨h,_⟩;rw [List.length_eq_zero_iff.mp h];exact YAg.mpr rfl
 | k + 1,l=>by
  unfold zaZ;rw [List.mem_flatMap];constructor
  ·rintro ⟨m,hm,hl⟩;obtain ⟨h,hh,rfl⟩:=YAD.mp hl;obtain ⟨e1,e2,e3⟩:=mem_lists.mp hm;obtain ⟨e4,e5⟩:=YA9.mp hh;refine ⟨by simp [e1],up_snoc.mpr ⟨e2,e5⟩,λx hx=>?_⟩;rcases YAr.mp hx with e | e
   ·exact e3 x e
   ·rw [YAg.mp e];exact e4
  ·rintro ⟨e1,e2,e3⟩;rcases snocs l with rfl | ⟨m,a,rfl⟩
   ·cases e1
   ·obtain ⟨e4,e5⟩:=up_snoc.mp e2;refine ⟨m,mem_lists.mpr ⟨by simpa using e1,e4,λh hh=>e3 h (YAB _ hh)⟩,YAD.mpr ⟨a,YA9.mpr ⟨e3 a (by simp),e5⟩,rfl⟩⟩
theorem zii {α:Type}    (M:Nat) (emb:α->D) (f:α->List D):∀ (xs:List α) (acc:List D),
  (∀ x ∈ xs,∀ (R:List D->Prop) (acc:List D),acc.length <= M->R (acc ++ f x)->gD t (emb x) ρc λρ2=>I2 ρ2 λys=>acc.length + ys.length <= 100000/\zbg t2 C E ρ2 R ys acc) ->
  acc.length + (xs.flatMap f).length <= M->Q (acc ++ xs.flatMap f)->zdc t I2 t2 C E ρc Q (xs.map emb) acc
 | [],acc,_,_,q=>by simpa [zdc] using q
 | x :: xs,acc,h,hl,q=>by
  rw [YBR,YAs] at hl;refine h x YAh _ acc (by omega) ?_;refine zii M emb f xs _ (λy hy=>h y (YAj _ hy)) (by rw [YAs];omega) ?_;rw [YBR] at q;rw [YA1];exact q
theorem znC  (h:l ≠ []) (q:Q (.int (l.getLastD 0))):itD (l.map D.int) (.int (-1)) Q:=by
 rcases snocs l with rfl | ⟨m,a,rfl⟩
 ·exact absurd rfl h
 rw [zd5] at q;show (match atI ((m ++ [a]).map D.int) (-1) with | some d=>Q d | none=>False);have e:atI ((m ++ [a]).map D.int) (-1) = some (.int a):=by
  unfold atI ixN;rw [if_neg (by decide),if_pos (by simp;omega),Option.bind_some,YAu]
  have:(-1 + (((m ++ [a]).map D.int).length:Int)).toNat = m.length:=by simp;omega
  rw [this];simp
 rw [e];exact q
theorem zhX (a:Bool) (hands:List Int) (k:Nat) (u:hands.Pairwise (· < ·)) (hh:hands.length <= 10) (hk:k <= 1000):zcs [.lst a (hands.map D.int),.int k] (· = .lst true ((zaZ hands k).map lsD)):=by
 unfold zcs fnW zaH;rw [YAb,YAb,zcM,zaq];refine ⟨by show 0 <= 100000;decide,by show 1 <= 100000;decide,⟨by omega,by omega⟩,?_⟩;rw [YAC];refine zbb (λrest ρ=>∃ (j:Nat) (s3:Sl),ρ = [.val (.lst false (hands.map D.int)),.val (.int k),.val (.lst true ((zaZ hands j).map lsD)),s3]/\j + rest.length = k) ?_ ?_ _ _ ⟨0,.un,rfl,by rw [zbo];omega⟩
 ·rintro x rest ρ E' hn hc hr hb ⟨j,s3,rfl,hj⟩;rw [YAE] at hj;have hp:2 ^ hands.length <= 1024:=YAK (Nat.pow_le_pow_right (by decide) hh) (by decide);have hl:=zk9 u (j + 1);show zdc _ _ _ _ _ _ _ ((zaZ hands j).map lsD) [];refine zii 1024 lsD (λl=>(nxt hands l).map λh=>lsD (l ++ [h])) (zaZ hands j) [] (λl hl R acc ha q=>?_) ?_ ?_
  ·obtain ⟨l1,_,_⟩:=mem_lists.mp hl;refine ⟨by rw [YAd];omega,zcD D.int (λh=>if okN l h = true then some (lsD (l ++ [h])) else none) hands acc (λh hh' Y N y=>?_) ?_⟩
   ·have yes:okN l h = true->binW addD (vW 0) (valW (lstW (zab (vW 1) nilA))) [.val (lsD l),.val (.int h),.val (.lst false (hands.map D.int))] Y:=λe=>by
     rw [if_pos e] at y;refine ⟨by show 1 <= 100000;decide,by simp;omega,?_⟩;have y:Y (lsD (l ++ [h])):=y;unfold lsD at y;rw [YAy] at y;exact y
    cases l with
    | nil=>exact yes rfl
    | cons b m=>
     refine znC (by simp) ?_;show if decide ((b :: m).getLastD 0 < h) = true then _ else _;have e:okN (b :: m) h = decide ((b :: m).getLastD 0 < h):=rfl;rw [<- e];cases z:okN (b :: m) h with
     | true=>exact yes z
     | false=>rw [z] at y;exact y
   ·rw [zeC];exact q
  ·rw [List.length_nil,Nat.zero_add]
   have:((zaZ hands j).flatMap λl=>(nxt hands l).map λh=>lsD (l ++ [h])) = (zaZ hands (j + 1)).map lsD:=by
    show _ = ((zaZ hands j).flatMap λl=>(nxt hands l).map λh=>l ++ [h]).map lsD;rw [List.map_flatMap];congr 1;funext l;rw [YAH];rfl
   rw [this,YAd];omega
  ·have:((zaZ hands j).flatMap λl=>(nxt hands l).map λh=>lsD (l ++ [h])) = (zaZ hands (j + 1)).map lsD:=by
    show _ = ((zaZ hands j).flatMap λl=>(nxt hands l).map λh=>l ++ [h]).map lsD;rw [List.map_flatMap];congr 1;funext l;rw [YAH];rfl
   rw [YBh,this];exact hn _ ⟨j + 1,.val x,rfl,by omega⟩
 ·rintro ρ ⟨j,s3,rfl,hj⟩;rw [List.length_nil] at hj;rw [<- hj];rfl
noncomputable def hasH (rs:List Rn):Bool:=@decide (¬ Fen.zfZ rs) (Classical.propDecidable _)
theorem hasH_t:hasH rs = true ↔ ¬ Fen.zfZ rs:=by unfold hasH;exact @decide_eq_true_iff _ (Classical.propDecidable _)
theorem hasH_f:hasH rs = false ↔ Fen.zfZ rs:=by
 constructor
 ·intro h;by_cases z:Fen.zfZ rs
  ·exact z
  ·rw [hasH_t.mpr z] at h;cases h
 ·intro h;cases e:hasH rs with
  | false=>rfl
  | true=>exact absurd h (hasH_t.mp e)
theorem zmP  (h:Fen.ze7 n rs hts):hasH rs = true:=hasH_t.mpr λno=>no (Fen.gI hts) h.2.1
theorem zoe   (hm:Fen.zaD n rs) (hn:n <= 1000) (hl:rs.length <= 1000) (h0:hasH rs = false->Q .non) (h1:∀ hts,hasH rs = true->Fen.ze7 n rs hts->Q (.lst true (hts.map D.int))):up zj9 [.int n,.lst a (rs.map runD)] Q:=
 ⟨Q,⟨n,a,rs,rfl,hm,hn,hl,λno=>h0 (hasH_f.mpr no),λhts fo=>h1 hts (zmP fo) fo⟩,λd z=>z⟩
structure FirstR (rs:List Rn) (c:Nat) (l:List Int):Prop where
 yes:hasH (zbf rs l) = true
 ex:∃ j,j < c/\(∀ i,i < j->∀ m ∈ zaZ (zav rs) i,hasH (zbf rs m) = false)/\∃ done todo,zaZ (zav rs) j = done ++ l :: todo/\∀ m ∈ done,hasH (zbf rs m) = false
def zmA (rs:List Rn) (c:Nat):Prop:=∀ i,i < c->∀ m ∈ zaZ (zav rs) i,hasH (zbf rs m) = false
def cntR (many:Int) (rs:List Rn):Nat:=((if ((zav rs).length:Int) < many then ((zav rs).length:Int) else many) + 1).toNat
structure Few (n:Nat) (rs:List Rn):Prop where
 marks:Fen.zaD n rs
 n1:n <= 40
 len:rs.length < 64
 hands:(zav rs).length <= 10
theorem Few.left  (F:Few n rs) (l:List Int):Fen.zaD n (zbf rs l):=zn9 (n:=n) F.marks l
theorem zdB (a:Bool) (n:Nat) (rs:List Rn) (many:Int) (F:Few n rs) (m0:0 <= many) (m1:many <= 1000) :
  zb5 [.int n,.lst a (rs.map runD),.int many] (λd=>(d = .non/\zmA rs (cntR many rs))\/∃ l hts,d = .tup [lsD l,.lst true (hts.map D.int)]/\FirstR rs (cntR many rs) l/\Fen.ze7 n (zbf rs l) hts):=by
 have hh:=F.hands;have hl:=F.len;have hn:=F.n1;unfold zb5 fnW zaH;rw [YAb,YAb,YAb,zaS,zaq,zaq];refine ⟨rfl,zaT (zeI _ rs hl) λd hd=>?_⟩;subst hd;have eL:(((zav rs).map D.int).length:Int) = ((zav rs).length:Int):=by rw [YAd]
 have hup:=zbc (rs.map Fen.Run.hand)
 change (zav rs).Pairwise (· < ·) at hup
 show (_/\_)/\zbO _ _ _ (rngL 0 ((if (((zav rs).map D.int).length:Int) < many then (((zav rs).map D.int).length:Int) else many) + 1).toNat) _;rw [eL];have hc:cntR many rs <= 11/\(cntR many rs:Int) = (if ((zav rs).length:Int) < many then ((zav rs).length:Int) else many) + 1:=by
  unfold cntR;split <;> constructor <;> omega
 refine ⟨⟨by omega,by omega⟩,?_⟩
 change zbO _ _ _ (rngL 0 (cntR many rs)) _
 generalize cntR many rs = c at hc;refine zbb (λrest ρ=>∃ (j:Nat) (s4 s5 s6:Sl),ρ = [.val (.int n),.val (.lst false (rs.map runD)),.val (.int many),.val (.lst true ((zav rs).map D.int)),s4,s5,s6]/\j <= c/\rest = rngL j (c - j)/\∀ i,i < j->∀ m ∈ zaZ (zav rs) i,hasH (zbf rs m) = false) ?_ ?_ _ _
  ⟨0,.un,.un,.un,rfl,by omega,rfl,λi hi=>by omega⟩
 ·rintro x rest ρ E' hn' hc' hr hb ⟨j,s4,s5,s6,rfl,hj,er,hno⟩;have hj2:j < c:=by
   rcases YBT j c with h | h
   ·exact h
   ·rw [Nat.sub_eq_zero_of_le h] at er;cases er
  obtain ⟨m,hm2⟩:∃ m,c - j = m + 1:=⟨c - j - 1,by omega⟩;rw [hm2,zix] at er;injection er with er4 er5
  subst er4;have er6:rest = rngL ((j + 1:Nat):Int) (c - (j + 1)):=by rw [er5,show c - (j + 1) = m by omega];rfl
  refine ⟨rfl,zaT (zhX _ (zav rs) j hup hh (by omega)) λd hd=>?_⟩;subst hd;show zbO _ _ _ ((zaZ (zav rs) j).map lsD) _;refine zbb (λrest ρ=>∃ (done todo:List (List Int)) (s5 s6:Sl),ρ = [.val (.int n),.val (.lst false (rs.map runD)),.val (.int many),.val (.lst true ((zav rs).map D.int)),.val (.int j),s5,s6]/\rest = todo.map lsD/\zaZ (zav rs) j = done ++ todo/\∀ m ∈ done,hasH (zbf rs m) = false) ?_ ?_ _ _
   ⟨[],_,s5,s6,rfl,rfl,rfl,λm h=>by cases h⟩
  ·rintro x2 rest2 ρ E2 hn2 hc2 hr2 hb2 ⟨done,todo,s5,s6,rfl,e1,e2,e3⟩;cases todo with
   | nil=>cases e1
   | cons l todo=>
    rw [YAb] at e1;injection e1 with e1 e4
    subst e1;refine ⟨rfl,zaT (znl false true rs l (by omega)) λd hd=>?_⟩;subst hd;have ll:=zlu rs l;refine ⟨rfl,zoe (F.left l) (by omega) (by omega) (λh0=>?_) λhts h1 fo=>?_⟩
    ·refine hn2 _ ⟨done ++ [l],todo,_,_,rfl,e4,by rw [e2,YA1];rfl,λm hm=>?_⟩;rcases YAr.mp hm with e | e
     ·exact e3 m e
     ·rw [YAg.mp e];exact h0
    ·refine ⟨by show 2 <= 100000;decide,hr2 _ (hr _ (.inr ⟨l,hts,rfl,⟨h1,j,hj2,hno,done,todo,e2,e3⟩,fo⟩))⟩
  ·rintro ρ ⟨done,todo,s5,s6,rfl,e1,e2,e3⟩;cases todo with
   | cons l todo=>cases e1
   | nil=>
    rw [YA3] at e2;refine hn' _ ⟨j + 1,_,_,_,rfl,by omega,er6,λi hi m hm=>?_⟩;rcases YBT i j with h | h
    ·exact hno i h m hm
    ·have:i = j:=by omega
     subst this;rw [e2] at hm;exact e3 m hm
 ·rintro ρ ⟨j,s4,s5,s6,rfl,hj,er,hno⟩;have hj:j = c:=by
   have:=congrArg List.length er
   rw [zbo] at this
   have:c - j = 0:=by simpa using this.symm
   omega
  subst hj;exact .inl ⟨rfl,hno⟩
noncomputable def zlA (rs:List Rn) (c:Nat):List (List Int):=((List.range c).flatMap (zaZ (zav rs))).filter λl=>hasH (zbf rs l)
theorem znZ (rs:List Rn):(zav rs).Pairwise (· < ·):=zbc _
theorem zib  (u:l.Pairwise (· < ·)) (hs:∀ h ∈ l,h ∈ zav rs) (hl:(l.length:Int) <= many):∃ j,j < cntR many rs/\l ∈ zaZ (zav rs) j:=by
 refine ⟨l.length,?_,mem_lists.mpr ⟨rfl,u,hs⟩⟩
 have:l.length <= (zav rs).length:=L2.zaF (zcB u) hs
 unfold cntR;split <;> omega
theorem zlO  (W:Wd mm mh mr size rs hts fs):(zav rs).length <= 10:=by
 have:∀ h ∈ zav rs,h ∈ (List.range 10).map Int.ofNat:=λh hh=>by
  obtain ⟨r,hr,rfl⟩:=YAD.mp ((zaK _ _).mp hh);obtain ⟨h0,h1⟩:=W.hand r hr;exact YAD.mpr ⟨r.hand.toNat,YA4.mpr (by omega),by show ((r.hand.toNat:Nat):Int) = _;omega⟩
 have:=L2.zaF (zcB (znZ rs)) this
 simpa using this
theorem Wd.fewN {mm mh mr:Int} {n:Nat} {rs:List Rn} {hts fs:List Int} (W:Wd mm mh mr n rs hts fs) (h1:mm <= 40) (h2:mr < 64):Few n rs:=
 ⟨W.marks,by have:=W.s2;omega,by have:=W.few;omega,zlO W⟩
theorem mem_sets {rs:List Rn} {c:Nat} {l:List Int}:l ∈ zlA rs c ↔ (∃ j,j < c/\l ∈ zaZ (zav rs) j)/\hasH (zbf rs l) = true:=by
 unfold zlA;rw [YA9,List.mem_flatMap];constructor
 ·rintro ⟨⟨j,h1,h2⟩,h3⟩;exact ⟨⟨j,YA4.mp h1,h2⟩,h3⟩
 ·rintro ⟨⟨j,h1,h2⟩,h3⟩;exact ⟨⟨j,YA4.mpr h1,h2⟩,h3⟩
def zpT (n:Nat):WS:=(seqW (asgW (.tp 2 (.cons (.nm 9) (.cons (.nm 10) .nil))) (vW 6))
  (seqW (asgW (.nm 11) (ifW (blW (binW gtD (vW 2) (kW (.int 0)))) (zaw 2 za4 (zab (vW 1) (zab (vW 10) nilA))) (valW (lstW nilA))))
  (seqW (asgW (.nm 12) (valW (zaE [none,some 0,some 1,some 4,some 2,some 3] (seqI (vW 11)) (.nm 0) noIf (tupW (zab (vW 0) (zab (zaw 5 (zaB n) (zab (vW 1) (zab (vW 2) (zab (binW subD (vW 4) (kW (.int 1))) (zab (binW addD (vW 5) (valW (lstW (zab (vW 0) nilA)))) (zab (vW 3) nilA)))))) nilA))))))
  (retW (tupW (zab (vW 5) (zab (vW 9) (zab (vW 10) (zab (cbW ze6 (zab (vW 12) nilA)) nilA)))))))))
def All2 {α:Type} (R:α->D->Prop):List α->List D->Prop
 | [],[]=>True
 | x :: xs,d :: ds=>R x d/\All2 R xs ds
 | _,_=>False
theorem zgu {α:Type}   (emb:α->D) (R:α->D->Prop):∀ (xs:List α) (acc:List D),(∀ x ∈ xs,∀ Y:D->Prop,(∀ d,R x d->Y d)->gD t (emb x) ρc λρ2=>C ρ2 λb=>b = true/\E ρ2 Y) ->
  zdC C->(∀ ds:List D,All2 R xs ds->Q (acc ++ ds))->zbg t C E ρc Q (xs.map emb) acc
 | [],acc,_,_,q=>by simpa [zbg] using q [] trivial
 | x :: xs,acc,h,mC,q=>by
  show gD t (emb x) ρc λρ2=>C ρ2 λb=>if b = true then E ρ2 λd=>zbg t C E ρc Q (xs.map emb) (acc ++ [d]) else zbg t C E ρc Q (xs.map emb) acc;refine zbj t (emb x) ρc (λρ2 z=>mC ρ2 _ _ (λb z=>?_) z) (h x YAh (λd=>zbg t C E ρc Q (xs.map emb) (acc ++ [d])) λd hd=>?_)
  ·rw [z.1,if_pos rfl];exact z.2
  ·refine zgu emb R xs (acc ++ [d]) (λx' hx'=>h x' (YAj _ hx')) mC λds hds=>?_
   have:=q (d :: ds) ⟨hd,hds⟩
   rw [YA1];exact this
theorem All2.len {α:Type} {R:α->D->Prop}:∀ {xs:List α} {ds:List D},All2 R xs ds->xs.length = ds.length
 | [],[],_=>rfl
 | _ :: _,_ :: _,h=>by rw [YAE,YAE,All2.len h.2]
 | [],_ :: _,h=>h.elim
 | _ :: _,[],h=>h.elim
def za2 (rs:List Rn) (line:List Int):List Int:=zav (line.map (Fen.runAt rs))
def headIs (n:Nat) (rs:List Rn) (one other:Int) (struck:List Int) (kind:Str) (mark:Int) (line:List Int):Prop:=
 (kind = "ring" /\ Fen.RingIs n rs struck (some (mark,line)))\/(kind = "line" /\ mark = one/\Fen.RingIs n rs struck none/\Fen.LineIs n rs struck one other (some line))
def PaperIs (n:Nat) (rs:List Rn) (one other:Int):Nat->List Int->D->Prop
 | 0,struck,d=>∃ kind mark line,headIs n rs one other struck kind mark line/\d = .tup [.str kind,.int mark,.tup (line.map D.int),.tup []]
 | k + 1,struck,d=>∃ kind mark line ds,headIs n rs one other struck kind mark line/\All2 (λh p=>∃ q,p = .tup [.int h,q]/\PaperIs n rs one other k (struck ++ [h]) q) (za2 rs line) ds/\d = .tup [.str kind,.int mark,.tup (line.map D.int),.tup ds]
structure Few2 (n:Nat) (rs:List Rn):Prop extends Few n rs where
 apart:∀ r ∈ rs,r.one ≠ r.other
theorem zfc  (h:Fen.RingIs n rs hs none):hasH (zbf rs hs) = true:=by
 obtain ⟨K,H,ts,a,e⟩:=h;have key:=Fen.zgw e.symm;refine hasH_t.mpr λno=>no (λi=>(Fen.zbF ((Fen.za6 ts).map Fen.za5) i).2.1) λr hr=>?_;obtain ⟨h1,h2⟩:=YA9.mp hr;exact key r h1 (by simpa using h2)
theorem headIs.line {n:Nat} {rs:List Rn} {one other:Int} {struck:List Int} {kind:Str} {mark:Int} {line:List Int} (F:Few2 n rs) (h:headIs n rs one other struck kind mark line) :
  line.Nodup/\(∀ z ∈ line,0 <= z/\z < (rs.length:Int)/\struck.contains (Fen.runAt rs z).hand = false):=by
 rcases h with ⟨_,h⟩ | ⟨_,_,_,h⟩
 ·obtain ⟨_,_,_,_,a,b,_⟩:=h.some F.marks F.n1 F.apart;exact ⟨a,b⟩
 ·obtain ⟨_,a,b,_⟩:=h.some;exact ⟨a,b⟩
theorem zdg {rs:List Rn} {line:List Int} (hl:rs.length < 64) (nd:line.Nodup) (hb:∀ z ∈ line,0 <= z/\z < (rs.length:Int)):line.length < 64:=by
 have:=L2.zaF (xs:=(List.range rs.length).map Int.ofNat) nd λz hz=>by
  obtain ⟨a,b⟩:=hb z hz;exact YAD.mpr ⟨z.toNat,YA4.mpr (by omega),by show ((z.toNat:Nat):Int) = _;omega⟩
 rw [YAd,YBx] at this;omega
theorem zcH  (h0:0 <= z) (h1:z < (rs.length:Int)) (q:Q (runD (Fen.runAt rs z))):itD (rs.map runD) (.int z) Q:=by
 show (match atI (rs.map runD) z with | some d=>Q d | none=>False);have hn:z.toNat < rs.length:=by omega
 have e:Fen.runAt rs z = rs[z.toNat]:=by unfold Fen.runAt;rw [YAt,YAe hn];rfl
 unfold atI ixN;rw [if_pos h0,YAd,if_pos h1,Option.bind_some,YAu,YAe hn];rw [e] at q;exact q
theorem zdq (a:Bool) (rs:List Rn) (line:List Int) (hl:line.length < 64) (hb:∀ z ∈ line,0 <= z/\z < (rs.length:Int)):za4 [.lst a (rs.map runD),.tup (line.map D.int)] (· = .lst true ((za2 rs line).map D.int)):=by
 unfold za4 fnW zaH;rw [YAb,YAb,zaS,zcu];refine ⟨by simp;omega,zaU D.int (λz=>runD (Fen.runAt rs z)) line (λz hz Y N y=>zcH (hb z hz).1 (hb z hz).2 y) ?_⟩;rw [show (line.map λz=>runD (Fen.runAt rs z)) = (line.map (Fen.runAt rs)).map runD by rw [YAH];rfl];refine ⟨rfl,zaT (zeI _ (line.map (Fen.runAt rs)) (by simpa using hl)) λd hd=>?_⟩;subst hd;rfl
theorem zn4   (F:Few n rs) (k:∀ o,Fen.RingIs n rs hs o->Q (zqs o)):up zcK [.int n,.lst a (rs.map runD),.lst b (hs.map D.int)] Q:=
 ⟨Q,⟨n,a,b,rs,hs,rfl,F.marks,F.n1,by have:=F.len;omega,k⟩,λd z=>z⟩
theorem znQ {n:Nat} {a b:Bool} {rs:List Rn} {hs:List Int} {one other:Int} {Q:D->Prop} (F:Few n rs) (h0:0 <= one) (h1:one < n) (k:∀ o,Fen.LineIs n rs hs one other o->Q (zrg o)):up zcN [.int n,.lst a (rs.map runD),.lst b (hs.map D.int),.int one,.int other] Q:=
 ⟨Q,⟨n,a,b,rs,hs,one,other,rfl,F.marks,h0,h1,by have:=F.n1;omega,by have:=F.len;omega,k⟩,λd z=>z⟩
def GoodS (rs:List Rn) (one other:Int) (struck:List Int) (many:Nat):Prop:=
 ∀ ext:List Int,ext.length <= many->(∀ h ∈ ext,h ∈ zav rs)->hasH (zbf rs (struck ++ ext)) = true->Fen.Conn (zbf rs (struck ++ ext)) one other
theorem GoodS.next   (g:GoodS rs one other struck (k + 1)) (hh:h ∈ zav rs):GoodS rs one other (struck ++ [h]) k:=λext hl he=>by
 have:=g (h :: ext) (by rw [YAE];omega) (λx hx=>(YAk.mp hx).elim (λe=>e ▸ hh) (he x))
 rw [YA1];exact this
theorem zdf  (hb:∀ z ∈ line,0 <= z/\z < (rs.length:Int)) (hh:h ∈ za2 rs line):h ∈ zav rs:=by
 obtain ⟨r,hr,rfl⟩:=YAD.mp ((zaK _ _).mp hh);obtain ⟨z,hz,rfl⟩:=YAD.mp hr;obtain ⟨z0,z1⟩:=hb z hz;have hn:z.toNat < rs.length:=by omega
 have e:Fen.runAt rs z = rs[z.toNat]:=by unfold Fen.runAt;rw [YAt,YAe hn];rfl
 rw [e];exact (zaK _ _).mpr (YAW (YBI hn))
theorem zka {n:Nat} {rs:List Rn} {one other:Int} {N many:Nat} {struck:List Int} {kind:Str} {mark:Int} {line:List Int} {s7 s8:Sl} {b:Bool} {nx bk ct:Env->Prop} (F:Few2 n rs) (hs:struck.length + many <= 1000) (hd:headIs n rs one other struck kind mark line)
  (ih:∀ k,many = k + 1->∀ h ∈ za2 rs line,zaB N [.int n,.lst false (rs.map runD),.int k,.lst true ((struck ++ [h]).map D.int),.tup [.int one,.int other]] (PaperIs n rs one other k (struck ++ [h]))) :
  zpT N { nx:=nx,rt:=PaperIs n rs one other many struck,bk:=bk,ct:=ct } [.val (.int n),.val (.lst false (rs.map runD)),.val (.int many),.val (.lst b (struck.map D.int)),.val (.tup [.int one,.int other]),.val (.str kind),.val (.tup [.int mark,.tup (line.map D.int)]),s7,s8,.un,.un,.un,.un]:=by
 obtain ⟨nd,hb⟩:=hd.line F;have hb':∀ z ∈ line,0 <= z/\z < (rs.length:Int):=λz hz=>⟨(hb z hz).1,(hb z hz).2.1⟩;have hll:=zdg F.len nd hb';refine ⟨rfl,?_⟩;cases many with
 | zero=>
  refine ⟨by show 0 <= 100000;decide,by show 0 <= 100000;decide,by show 4 <= 100000;decide,?_⟩;exact ⟨kind,mark,line,hd,rfl⟩
 | succ k=>
  show if decide ((0:Int) < ((k + 1:Nat):Int)) = true then _ else _;rw [YAl (by omega),if_pos rfl];refine ⟨rfl,zaT (zdq false rs line hll hb') λd hd'=>?_⟩;subst hd';have lh:(za2 rs line).length <= 64:=by
   have:=zcZ ((line.map (Fen.runAt rs)).map Fen.Run.hand)
   rw [YAd,YAd] at this;unfold za2 zav;omega
  refine ⟨by rw [YAd];omega,zgu D.int (λh p=>∃ q,p = .tup [.int h,q]/\PaperIs n rs one other k (struck ++ [h]) q) (za2 rs line) [] (λh hh Y y=>?_) zd9 λds hds=>?_⟩
  ·refine ⟨rfl,by show 1 <= 100000;decide,by simp;omega,rfl,?_⟩
   have:=ih k rfl h hh
   rw [YAy] at this;rw [show ((k + 1:Nat):Int) - 1 = (k:Int) by omega];refine zaT this λq hq=>⟨by show 2 <= 100000;decide,y _ ⟨q,rfl,hq⟩⟩
  ·rw [YBh];refine ⟨by show 4 <= 100000;decide,kind,mark,line,ds,hd,hds,rfl⟩
theorem ziR (n:Nat) (rs:List Rn) (one other:Int) (F:Few2 n rs) (h0:0 <= one) (h1:one < n):∀ (many:Nat) (N:Nat) (a b:Bool) (struck:List Int),many < N->struck.length + many <= 1000->GoodS rs one other struck many ->
  zaB N [.int n,.lst a (rs.map runD),.int many,.lst b (struck.map D.int),.tup [.int one,.int other]] (PaperIs n rs one other many struck)
 | many,N + 1,a,b,struck,hN,hs,g=>by
  unfold zaB fnW zaH;rw [YAb,YAb,YAb,YAb,YAb,zaS,zcM,zgD,zaq,zaq,zaq,zaq];have ih:∀ {kind:Str} {mark:Int} {line:List Int},headIs n rs one other struck kind mark line->∀ k,many = k + 1->∀ h ∈ za2 rs line,zaB N [.int n,.lst false (rs.map runD),.int k,.lst true ((struck ++ [h]).map D.int),.tup [.int one,.int other]] (PaperIs n rs one other k (struck ++ [h])):=λhd k hk h hh=>by
   subst hk;have hb:=(hd.line F).2;exact ziR n rs one other F h0 h1 k N false true (struck ++ [h]) (by omega) (by simp;omega) (g.next (zdf (λz hz=>⟨(hb z hz).1,(hb z hz).2.1⟩) hh))
  refine ⟨rfl,zn4 F.toFew λo ho=>?_⟩;cases o with
  | some ml=>
   have hd:headIs n rs one other struck "ring" ml.1 ml.2:=.inl ⟨rfl,ho⟩;exact zka F hs hd (ih hd)
  | none=>
   refine ⟨rfl,rfl,znQ F.toFew h0 h1 λo hl=>?_⟩;have c:=g [] (YAF _) (λh z=>by cases z);rw [YA3] at c;have c:=c (zfc ho);cases o with
   | none=>exact absurd (zit rs struck ▸ c) (hl.none_iff.mp rfl)
   | some line=>
    have hd:headIs n rs one other struck "line" one line:=.inr ⟨rfl,rfl,ho,hl⟩;refine ⟨by show 2 <= 100000;decide,?_⟩;exact zka F hs hd (ih hd)
theorem zf5 (a:Bool) (n:Nat) (rs:List Rn) (one other:Int) (many:Nat) (F:Few2 n rs) (h0:0 <= one) (h1:one < n) (hm:many <= 5) (g:GoodS rs one other [] many):zbI [.int n,.lst a (rs.map runD),.int many,.int one,.int other] (PaperIs n rs one other many []):=by
 unfold zbI fnW zaH;rw [YAb,YAb,YAb,YAb,YAb,zaS,zaq,zaq,zaq,zaq];refine ⟨by show 0 <= 100000;decide,by show 2 <= 100000;decide,rfl,?_⟩;exact zaT (ziR n rs one other F h0 h1 many 6 false true [] (by omega) (by simp;omega) g) λd hd=>hd
theorem zgr (rs:List Rn) (l:List Int):zbf rs (zbt l) = zbf rs l:=by
 unfold zbf;refine List.filter_congr λr _=>?_;congr 1;rw [YBP,List.contains_iff_mem,List.contains_iff_mem];exact zaK l r.hand
theorem zl8  (hs:∀ h ∈ l,h ∈ zav rs) (hl:(l.length:Int) <= many):∃ j,j < cntR many rs/\zbt l ∈ zaZ (zav rs) j:=
 zib (zbc l) (λh hh=>hs h ((zaK l h).mp hh)) (by have:=zcZ l;omega)
theorem zcg (a:Bool) (n:Nat) (rs:List Rn) (many:Nat) (F:Few2 n rs) (n0:0 < n) (hm:many <= 5):zbs [.int n,.lst a (rs.map runD),.int many] (λd=>(d = .non/\∃ l,FirstR rs (cntR many rs) l)\/(zmA rs (cntR many rs)/\PaperIs n rs 0 0 many [] d)):=by
 unfold zbs fnW zaH;rw [YAb,YAb,YAb,zaS,zaq,zaq];refine ⟨rfl,zaT (zdB _ n rs many F.toFew (by omega) (by omega)) λd hd=>?_⟩;rcases hd with ⟨rfl,no⟩ | ⟨l,hts,rfl,fi,fo⟩
 ·refine ⟨rfl,zaT (zf5 _ n rs 0 0 many F (by omega) (by omega) hm ?_) λd hd=>.inr ⟨no,hd⟩⟩;intro ext hl he hy;obtain ⟨j,hj,hm⟩:=zl8 he (by omega:(ext.length:Int) <= many)
  have:=no j hj _ hm
  rw [zgr] at this;rw [YBh,this] at hy;cases hy
 ·exact .inl ⟨rfl,l,fi⟩
theorem zg8 (a b:Str) (ha:PyData.canLay0 (.str a) = true) (hb:PyData.canLay0 (.str b) = true):eqOk (.str a) (.str b):=⟨by rw [layD];exact ha,by rw [layD];exact hb,by show min 0 0 <= 50;decide⟩
theorem Wd.few2 {mm mh mr:Int} {n:Nat} {rs:List Rn} {hts fs:List Int} (W:Wd mm mh mr n rs hts fs) (h1:mm <= 40) (h2:mr < 64):Few2 n rs:=⟨W.fewN h1 h2,W.apart⟩
def zb7:Fn:=fnW 10 ((seqW (asgW (.nm 3) (vW 1))
  (seqW (asgW (.nm 4) (kW (.int 0)))
  (seqW (ifS (blW (binW neD (ziS (vW 2)) (zeb 2))) (retW (kW .non)) nilS)
  (seqW (forW (seqI (vW 2)) (.nm 5) (seqW (ifS (orT (notT (blW (zic leD ltD (kW (.int 0)) (vW 5) (zeb 0)))) (blW (binW (inD true) (vW 3) (slW (ixvW 0 (vW 5)) noO (zqY (kW (.int 2))))))) (retW (kW .non)) nilS)
  (seqW (asgW (.tp 4 (.cons (.nm 6) (.cons (.nm 7) (.cons (.nm 8) (.cons (.nm 9) .nil))))) (ixvW 0 (vW 5)))
  (ifS (blW (binW eqD (vW 3) (vW 6))) (parW 3 4 (vW 7) (binW addD (vW 4) (vW 8))) (parW 3 4 (vW 6) (binW subD (vW 4) (vW 8)))))))
  (retW (tupW (zab (vW 3) (zab (vW 4) nilA)))))))))
def zaV:Nat->Fn
 | 0=>λ_ _=>False
 | n + 1=>fnW 6 ((seqW (ifS (orT (notT (truW (isiW "tuple" (vW 0)))) (orT (blW (binW neD (zeb 0) (kW (.int 4)))) (blW (binW eqD (vW 1) (kW (.int 0)))))) (retW (kW (.bl false))) nilS)
  (seqW (asgW (.tp 4 (.cons (.nm 2) (.cons (.nm 3) (.cons (.nm 4) (.cons (.nm 5) .nil))))) (vW 0))
  (seqW (ifS (orT (notT (truW (isiW "str" (vW 2)))) (orT (notT (truW (isiW "tuple" (vW 4)))) (notT (truW (isiW "tuple" (vW 5)))))) (retW (kW (.bl false))) nilS)
  (seqW (ifS (notT (truW (cbW allF (zab (valW (zaE [none] (seqI (binW addD (tupW (zab (vW 3) nilA)) (vW 4))) (.nm 0) noIf (andW (isiW "int" (vW 0)) (notW (isiW "bool" (vW 0)))))) nilA)))) (retW (kW (.bl false))) nilS)
  (seqW (ifS (notT (truW (cbW allF (zab (valW (zaE [none] (seqI (vW 5)) (.nm 0) noIf (andW (isiW "tuple" (vW 0)) (binW eqD (zeb 0) (kW (.int 2)))))) nilA)))) (retW (kW (.bl false))) nilS)
  (seqW (ifS (notT (truW (cbW allF (zab (valW (zaE [none] (seqI (vW 5)) (.nm 0) noIf (andW (isiW "int" (ixvW 0 (kW (.int 0)))) (notW (isiW "bool" (ixvW 0 (kW (.int 0)))))))) nilA)))) (retW (kW (.bl false))) nilS)
  (retW (cbW allF (zab (valW (zaE [none,some 1] (seqI (vW 5)) (.nm 0) noIf (zaw 2 (zaV n) (zab (ixvW 0 (kW (.int 1))) (zab (binW subD (vW 1) (kW (.int 1))) nilA))))) nilA))))))))))
def zaG:Nat->Fn
 | 0=>λ_ _=>False
 | n + 1=>fnW 12 ((seqW (asgW (.tp 4 (.cons (.nm 6) (.cons (.nm 7) (.cons (.nm 8) (.cons (.nm 9) .nil))))) (vW 2))
  (seqW (ifS (orT (notT (blW (zic leD ltD (kW (.int 0)) (vW 7) (vW 0)))) (blW (binW (inD true) (vW 6) (tupW (zab (kW (.str "ring")) (zab (kW (.str "line")) nilA)))))) (retW (kW (.bl false))) nilS)
  (seqW (asgW (.nm 10) (zaw 3 zb7 (zab (vW 1) (zab (vW 7) (zab (vW 8) nilA)))))
  (seqW (ifS (orT (blW (isNW (vW 10))) (truW (cbW anyF (zab (valW (zaE [none,some 4,some 1] (seqI (vW 8)) (.nm 0) noIf (binW (inD false) (binW ixD (ixvW 2 (vW 0)) (kW (.int 3))) (vW 1)))) nilA)))) (retW (kW (.bl false))) nilS)
  (seqW (ifS (andT (blW (binW eqD (vW 6) (kW (.str "ring")))) (orT (blW (binW eqD (vW 8) (tupW nilA))) (orT (blW (binW neD (ixvW 10 (kW (.int 0))) (vW 7))) (blW (binW eqD (ixvW 10 (kW (.int 1))) (kW (.int 0))))))) (retW (kW (.bl false))) nilS)
  (seqW (ifS (andT (blW (binW eqD (vW 6) (kW (.str "line")))) (andT (blW (binW neD (vW 5) (kW (.str "any")))) (blW (binW neD (binW addD (tupW (zab (vW 7) nilA)) (vW 10)) (vW 5))))) (retW (kW (.bl false))) nilS)
  (seqW (asgW (.nm 11) (binW mulD (zaw 1 za3 (zab (valW (zaE [none,some 1] (seqI (vW 8)) (.nm 0) noIf (ixvW 1 (vW 0)))) nilA)) (cbW intF (zab (binW gtD (vW 3) (kW (.int 0))) nilA))))
  (seqW (ifS (blW (binW neD (valW (zaE [none] (seqI (vW 9)) (.nm 0) noIf (ixvW 0 (kW (.int 0))))) (vW 11))) (retW (kW (.bl false))) nilS)
  (retW (cbW allF (zab (valW (zaE [none,none,some 0,some 1,some 5,some 3,some 4] (seqI (vW 9)) (.tp 2 (.cons (.nm 0) (.cons (.nm 1) .nil))) noIf (zaw 6 (zaG n) (zab (vW 2) (zab (vW 3) (zab (vW 1) (zab (binW subD (vW 5) (kW (.int 1))) (zab (binW addD (vW 6) (valW (lstW (zab (vW 0) nilA)))) (zab (vW 4) nilA))))))))) nilA))))))))))))
def zbJ:Fn:=fnW 5 ((retW (andW (zaw 2 (zaV 6) (zab (vW 2) (zab (binW addD (vW 3) (kW (.int 1))) nilA))) (zaw 6 (zaG 6) (zab (vW 0) (zab (vW 1) (zab (vW 2) (zab (vW 3) (zab (valW (lstW nilA)) (zab (vW 4) nilA))))))))))
theorem zfL (h:xs.Nodup):(zbt xs).length = xs.length:=
 Nat.le_antisymm (L2.zaF (zcB (zbc xs)) λk hk=>(zaK xs k).mp hk) (L2.zaF h λk hk=>(zaK xs k).mpr hk)
theorem zkS {rs:List Rn} {here h z:Int} {rest:List Int} {r:Int × Int} (w:Fen.walkF rs here h (z :: rest) = some r):(0 <= z/\z < (rs.length:Int))/\((here = (Fen.runAt rs z).one/\Fen.walkF rs (Fen.runAt rs z).other (h + (Fen.runAt rs z).rise) rest = some r)\/(here ≠ (Fen.runAt rs z).one/\here = (Fen.runAt rs z).other/\Fen.walkF rs (Fen.runAt rs z).one (h - (Fen.runAt rs z).rise) rest = some r)):=by
 unfold Fen.walkF at w;split at w
 ·rename_i hz
  refine ⟨hz,?_⟩;unfold Fen.stepR at w;by_cases e1:here = (Fen.runAt rs z).one
  ·rw [if_pos e1] at w;exact .inl ⟨e1,w⟩
  ·rw [if_neg e1] at w;by_cases e2:here = (Fen.runAt rs z).other
   ·rw [if_pos e2] at w;exact .inr ⟨e1,e2,by rw [Int.sub_eq_add_neg];exact w⟩
   ·rw [if_neg e2] at w;cases w
 ·cases w
theorem zdX (a:Bool) (rs:List Rn) (mark:Int) (line:List Int) (e t:Int) (hl:line.length < 64) (nd:line.Nodup) (hw:Fen.walkF rs mark 0 line = some (e,t)):zb7 [.lst a (rs.map runD),.int mark,.tup (line.map D.int)] (· = .tup [.int e,.int t]):=by
 unfold zb7 fnW zaH;rw [YAb,YAb,YAb,zaS,zcu,zaq];refine ⟨line,rfl,hl,zaJ _ _,?_⟩;show if (!eqB (.int ((zbt line).length:Int)) (.int ((line.map D.int).length:Int))) = true then _ else _;rw [zbl,YAd,zfL nd,YAl rfl];show zbO _ _ _ (line.map D.int) _;refine zbb (λrest ρ=>∃ (todo:List Int) (here h:Int) (s5 s6 s7 s8 s9:Sl),ρ = [.val (.lst false (rs.map runD)),.val (.int mark),.val (.tup (line.map D.int)),.val (.int here),.val (.int h),s5,s6,s7,s8,s9]/\rest = todo.map D.int/\Fen.walkF rs here h todo = some (e,t)) ?_ ?_ _ _
  ⟨line,mark,0,.un,.un,.un,.un,.un,rfl,rfl,hw⟩
 ·rintro x rest ρ E' hn hc hr hb ⟨todo,here,h,s5,s6,s7,s8,s9,rfl,e1,w⟩;cases todo with
  | nil=>cases e1
  | cons z todo=>
   rw [YAb] at e1;injection e1 with e1 e2
   subst e1;obtain ⟨⟨z0,z1⟩,hw2⟩:=zkS w;show if decide ((0:Int) <= z) = true then _ else _;rw [YAl z0,if_pos rfl];show if (!decide (z < (((rs.map runD).length:Nat):Int))) = true then _ else _;rw [YAd,YAl z1];refine zcH z0 z1 ?_;show inOk (.int here) [.int (Fen.runAt rs z).one,.int (Fen.runAt rs z).other]/\_;refine ⟨zc5 here [(Fen.runAt rs z).one,(Fen.runAt rs z).other],?_⟩;show if (!inB (.int here) ([(Fen.runAt rs z).one,(Fen.runAt rs z).other].map D.int)) = true then _ else _;have hin:here ∈ [(Fen.runAt rs z).one,(Fen.runAt rs z).other]:=by
    rcases hw2 with ⟨q,_⟩ | ⟨_,q,_⟩ <;> simp [q]
   rw [zde,List.contains_iff_mem.mpr hin];refine zcH z0 z1 ⟨rfl,zaJ _ _,?_⟩;rw [zbl];rcases hw2 with ⟨q,w'⟩ | ⟨q1,q2,w'⟩
   ·rw [YAl q];exact hn _ ⟨todo,_,_,_,_,_,_,_,rfl,e2,w'⟩
   ·rw [YAz q1];exact hn _ ⟨todo,_,_,_,_,_,_,_,rfl,e2,w'⟩
 ·rintro ρ ⟨todo,here,h,s5,s6,s7,s8,s9,rfl,e1,w⟩;cases todo with
  | cons z todo=>cases e1
  | nil=>
   have w:some (here,h) = some (e,t):=w;cases w;exact ⟨by show 2 <= 100000;decide,rfl⟩
theorem zjL {α:Type} {R:α->D->Prop}:∀ {xs:List α} {ds:List D},(∀ x ∈ xs,∀ d,R x d->d.old = d)->All2 R xs ds->ds.map D.old = ds
 | [],[],_,_=>rfl
 | x :: xs,d :: ds,h,a=>by
  rw [YAb,h x YAh d a.1,zjL (λy hy=>h y (YAj _ hy)) a.2]
 | [],_ :: _,_,a=>a.elim
 | _ :: _,[],_,a=>a.elim
theorem zg2 (a b c d:D):D.old (.tup [a,b,c,d]) = .tup [a.old,b.old,c.old,d.old]:=by rw [D.old];rfl
theorem zdR {n:Nat} {rs:List Rn} {one other:Int}:∀ {k:Nat} {struck:List Int} {d:D},PaperIs n rs one other k struck d->d.old = d
 | 0,_,_,⟨kind,mark,line,_,e⟩=>by
  rw [e,zg2,zfw,zaq,zcu,show D.old (.tup []) = .tup [] by rw [D.old];rfl]
 | k + 1,_,_,⟨kind,mark,line,ds,_,ha,e⟩=>by
  have:ds.map D.old = ds:=zjL (λh _ p ⟨q,hp,hq⟩=>by rw [hp,zgD,zaq,zdR hq]) ha
  rw [e,zg2,zfw,zaq,zcu,D.old,this]
theorem ziV {α:Type} {R:α->D->Prop} {t:Tg} {C:WT} {E:WE} {ρc:Env} {Q:List D->Prop}:∀ {xs:List α} {ds:List D} (acc:List D),All2 R xs ds->(∀ x ∈ xs,∀ d,R x d->zkL t C E ρc d (some (.bl true)))->Q (acc ++ List.replicate ds.length (.bl true))->zbg t C E ρc Q ds acc
 | [],[],acc,_,_,q=>by simpa [zbg] using q
 | x :: xs,d :: ds,acc,a,h,q=>by
  refine h x YAh d a.1 _ _ ?_;refine ziV (acc ++ [.bl true]) a.2 (λy hy=>h y (YAj _ hy)) ?_;rw [YA1];rw [YAE,YAS] at q;exact q
 | [],_ :: _,_,a,_,_=>a.elim
 | _ :: _,[],_,a,_,_=>a.elim
theorem zeW  (q:Q (.bl true)):allF [.lst n ([] ++ List.replicate m (.bl true))] Q:=by
 refine ⟨List.replicate m true,by rw [YBh,List.map_replicate],?_⟩
 have:(List.replicate m true).all id = true:=by simp
 rw [this];exact q
theorem zeu  : (za2 rs line).length <= line.length:=by
 have:=zcZ ((line.map (Fen.runAt rs)).map Fen.Run.hand)
 rw [YAd,YAd] at this;exact this
theorem zc1 {n:Nat} {rs:List Rn} {one other:Int} (F:Few2 n rs):∀ (k N:Nat) (struck:List Int) (d:D),k < N->k <= 900->PaperIs n rs one other k struck d->zaV N [d,.int ((k:Int) + 1)] (· = .bl true)
 | k,N + 1,struck,d,hN,hk,hp=>by
  unfold zaV fnW zaH;rw [YAb,YAb,zdR hp,zaq];obtain ⟨kind,mark,line,ds,hd,hds,e⟩:∃ kind mark line ds,headIs n rs one other struck kind mark line/\(ds = []/\k = 0\/∃ k',k = k' + 1/\All2 (λh p=>∃ q,p = .tup [.int h,q]/\PaperIs n rs one other k' (struck ++ [h]) q) (za2 rs line) ds)/\d = .tup [.str kind,.int mark,.tup (line.map D.int),.tup ds]:=by
   cases k with
   | zero=>obtain ⟨kind,mark,line,h1,h2⟩:=hp;exact ⟨kind,mark,line,[],h1,.inl ⟨rfl,rfl⟩,h2⟩
   | succ k=>obtain ⟨kind,mark,line,ds,h1,h2,h3⟩:=hp;exact ⟨kind,mark,line,ds,h1,.inr ⟨k,rfl,h2⟩,h3⟩
  subst e;obtain ⟨nd,hb⟩:=hd.line F;have hll:=zdg F.len nd λz hz=>⟨(hb z hz).1,(hb z hz).2.1⟩;have hdl:ds.length <= 64:=by
   rcases hds with ⟨rfl,_⟩ | ⟨k',_,h⟩
   ·exact YAF _
   ·have:=h.len
    have:=zeu (rs:=rs) (line:=line)
    omega
  refine ⟨zaJ _ _,?_⟩;show if (!eqB (.int 4) (.int 4)) = true then _ else _;rw [zbl];refine ⟨zaJ _ _,?_⟩;rw [zbl,YAz (by omega)];refine ⟨rfl,by show 1 <= 100000;decide,by show 1 + (line.map D.int).length <= 100000;rw [YAd];omega,?_⟩;have em:[D.int mark] ++ line.map D.int = (mark :: line).map D.int:=rfl;show _/\zbg _ _ _ _ _ ([D.int mark] ++ line.map D.int) [];rw [em];refine ⟨by rw [YAd,YAE];omega,zaU D.int (λ_=>.bl true) (mark :: line) (λz hz Y N y=>y) ?_⟩;refine zdU (f:=λ_=>true) (xs:=mark :: line) (n:=true) ?_;rw [show ((mark :: line).all λ_=>true) = true by simp];have step:∀ {t:Tg} {C:WT} {E:WE} {ρc:Env} {Q:List D->Prop},(∀ k',k = k' + 1->∀ h ∈ za2 rs line,∀ q,PaperIs n rs one other k' (struck ++ [h]) q->zkL t C E ρc (.tup [.int h,q]) (some (.bl true)))->Q ([] ++ List.replicate ds.length (.bl true))->ds.length <= 100000/\zbg t C E ρc Q ds []:=λ{t C E ρc Q} h q=>by
   refine ⟨by omega,?_⟩;rcases hds with ⟨rfl,_⟩ | ⟨k',hk',ha⟩
   ·simpa [zbg] using q
   ·exact ziV [] ha (λx hx d ⟨q',e1,e2⟩=>by rw [e1];exact h k' hk' x hx q' e2) q
  refine step (λk' hk' h hh q hq Y N y=>⟨zaJ _ _,?_⟩) (zeW ?_)
  ·show Y (.bl (eqB (.int 2) (.int 2)));rw [zbl];exact y
  refine step (λk' hk' h hh q hq Y N y=>y) (zeW ?_);refine step (λk' hk' h hh q hq Y N0 y=>⟨rfl,?_⟩) (zeW rfl);subst hk';show up (zaV N) [q,.int (((k' + 1:Nat):Int) + 1 - 1)] _;rw [show ((k' + 1:Nat):Int) + 1 - 1 = (k':Int) + 1 by omega];exact zaT (zc1 F k' _ (struck ++ [h]) q (by omega) (by omega) hq) λd hd=>by subst hd;exact y
def zpx (n:Nat):WS:=(seqW (asgW (.nm 11) (binW mulD (zaw 1 za3 (zab (valW (zaE [none,some 1] (seqI (vW 8)) (.nm 0) noIf (ixvW 1 (vW 0)))) nilA)) (cbW intF (zab (binW gtD (vW 3) (kW (.int 0))) nilA))))
  (seqW (ifS (blW (binW neD (valW (zaE [none] (seqI (vW 9)) (.nm 0) noIf (ixvW 0 (kW (.int 0))))) (vW 11))) (retW (kW (.bl false))) nilS)
  (retW (cbW allF (zab (valW (zaE [none,none,some 0,some 1,some 5,some 3,some 4] (seqI (vW 9)) (.tp 2 (.cons (.nm 0) (.cons (.nm 1) .nil))) noIf (zaw 6 (zaG n) (zab (vW 2) (zab (vW 3) (zab (vW 1) (zab (binW subD (vW 5) (kW (.int 1))) (zab (binW addD (vW 6) (valW (lstW (zab (vW 0) nilA)))) (zab (vW 4) nilA))))))))) nilA)))))
theorem zj2 {α:Type} {R:α->D->Prop} {t:Tg} {C:WT} {E:WE} {ρc:Env} {Q:List D->Prop} (g:α->D):∀ {xs:List α} {ds:List D} (acc:List D),All2 R xs ds->(∀ x ∈ xs,∀ d,R x d->zkL t C E ρc d (some (g x)))->Q (acc ++ xs.map g)->zbg t C E ρc Q ds acc
 | [],[],acc,_,_,q=>by simpa [zbg] using q
 | x :: xs,d :: ds,acc,a,h,q=>by
  refine h x YAh d a.1 _ _ ?_;refine zj2 g (acc ++ [g x]) a.2 (λy hy=>h y (YAj _ hy)) ?_;rw [YA1];exact q
 | [],_ :: _,_,a,_,_=>a.elim
 | _ :: _,[],_,a,_,_=>a.elim
theorem zjD {n:Nat} {rs:List Rn} {one other:Int} {N k:Nat} {struck:List Int} {kind:Str} {mark:Int} {line:List Int} {ds:List D} {wish found paper:D} {nx bk ct:Env->Prop} (F:Few2 n rs) (hs:struck.length + k <= 900) (hd:headIs n rs one other struck kind mark line)
  (hds:(ds = []/\k = 0)\/∃ k',k = k' + 1/\All2 (λh p=>∃ q,p = .tup [.int h,q]/\PaperIs n rs one other k' (struck ++ [h]) q) (za2 rs line) ds)
  (ih:∀ k',k = k' + 1->∀ h ∈ za2 rs line,∀ q,PaperIs n rs one other k' (struck ++ [h]) q->zaG N [.int n,.lst false (rs.map runD),q,.int k',.lst true ((struck ++ [h]).map D.int),wish] (· = .bl true)) :
  zpx N { nx:=nx,rt:=λd=>d = .bl true,bk:=bk,ct:=ct } [.val (.int n),.val (.lst false (rs.map runD)),.val paper,.val (.int k),.val (.lst false (struck.map D.int)),.val wish,.val (.str kind),.val (.int mark),.val (.tup (line.map D.int)),.val (.tup ds),.val found,.un]:=by
 obtain ⟨nd,hb⟩:=hd.line F;have hb':∀ z ∈ line,0 <= z/\z < (rs.length:Int):=λz hz=>⟨(hb z hz).1,(hb z hz).2.1⟩;have hll:=zdg F.len nd hb';have hlh:=zeu (rs:=rs) (line:=line);refine ⟨by rw [YAd];omega,zaU D.int (λz=>runD (Fen.runAt rs z)) line (λz hz Y N y=>zcH (hb' z hz).1 (hb' z hz).2 y) ?_⟩;rw [show (line.map λz=>runD (Fen.runAt rs z)) = (line.map (Fen.runAt rs)).map runD by rw [YAH];rfl];refine ⟨rfl,zaT (zdr _ (line.map (Fen.runAt rs)) (by rw [YAd];exact hll)) λd hd'=>?_⟩;subst hd';rcases hds with ⟨rfl,rfl⟩ | ⟨k',rfl,ha⟩
 ·refine ⟨⟨by decide,by decide,by rw [YAd];show (za2 rs line).length <= _;omega⟩,?_⟩;refine ⟨by show 0 <= 100000;decide,zfx true true [] [],by show 0 <= 100000;decide,[],rfl,rfl⟩
 ·have hdl:=ha.len;show (_/\_/\_)/\_;have e1:(if decide ((0:Int) < ((k' + 1:Nat):Int)) = true then (1:Int) else 0) = 1:=by rw [YAl (by omega)];rfl
  show ((0:Int) <= (if decide ((0:Int) < ((k' + 1:Nat):Int)) = true then (1:Int) else 0)/\(if decide ((0:Int) < ((k' + 1:Nat):Int)) = true then (1:Int) else 0) <= 1000/\((za2 rs line).map D.int).length <= 1000)/\gD (.nm 11) (.lst true (List.replicate (if decide ((0:Int) < ((k' + 1:Nat):Int)) = true then (1:Int) else 0).toNat ((za2 rs line).map D.int)).flatten) _ _;rw [e1];have e2:(List.replicate (1:Int).toNat ((za2 rs line).map D.int)).flatten = (za2 rs line).map D.int:=by
   show (List.replicate 1 _).flatten = _
   simp
  rw [e2];refine ⟨⟨by decide,by decide,by rw [YAd];omega⟩,?_⟩;refine ⟨by omega,zj2 D.int [] ha (λh hh d ⟨q,e,hq⟩ Y N y=>by subst e;exact y) ?_⟩;rw [YBh];refine ⟨zfx true true _ _,?_⟩;rw [zj3,YAl rfl];refine ⟨by omega,ziV [] ha (λh hh d ⟨q,e,hq⟩ Y N0 y=>by
   subst e;refine ⟨rfl,by show 1 <= 100000;decide,by rw [YAd];show _ + 1 <= _;omega,rfl,?_⟩
   have:=ih k' rfl h hh q hq
   rw [YAy] at this;show up (zaG N) [.int n,.lst false (rs.map runD),q,.int (((k' + 1:Nat):Int) - 1),.lst true (struck.map D.int ++ [.int h]),wish] _;rw [show ((k' + 1:Nat):Int) - 1 = (k':Int) by omega];exact zaT this λd hd=>by subst hd;exact y) (zeW rfl)⟩
theorem zqO:inOk (.str "ring") [.str "ring",.str "line"]/\inOk (.str "line") [.str "ring",.str "line"]/\inB (.str "ring") [.str "ring",.str "line"] = true/\inB (.str "line") [.str "ring",.str "line"] = true:=
 ⟨⟨by decide +kernel,by decide +kernel,by decide +kernel⟩,⟨by decide +kernel,by decide +kernel,by decide +kernel⟩,by decide +kernel,by decide +kernel⟩
theorem zp0:(eqOk (.str "ring") (.str "ring")/\eqB (.str "ring") (.str "ring") = true)/\(eqOk (.str "ring") (.str "line")/\eqB (.str "ring") (.str "line") = false)/\(eqOk (.str "line") (.str "ring")/\eqB (.str "line") (.str "ring") = false)/\(eqOk (.str "line") (.str "line")/\eqB (.str "line") (.str "line") = true):=by
 refine ⟨⟨?_,?_⟩,⟨?_,?_⟩,⟨?_,?_⟩,?_,?_⟩ <;> first | exact zg8 _ _ (by decide +kernel) (by decide +kernel) | decide +kernel
theorem ziB (xs ys:List Int):eqOk (.tup (xs.map D.int)) (.tup (ys.map D.int)):=by
 refine ⟨by unfold layD;exact zcc xs,by unfold layD;exact zcc ys,?_⟩;unfold toPy PyData.depth;rw [zdk,zdk];decide
theorem zjR (xs ys:List Int):eqB (.tup (xs.map D.int)) (.tup (ys.map D.int)) = decide (xs = ys):=by
 unfold eqB toPy;rw [PyData.eqv];exact zdt xs ys
theorem zlJ (xs:List Int) (s:Str) (hs:PyData.canLay0 (.str s) = true):eqOk (.tup (xs.map D.int)) (.str s):=by
 refine ⟨by unfold layD;exact zcc xs,by rw [layD];exact hs,?_⟩;exact YAK (Nat.min_le_right _ _) (by show 0 <= 50;decide)
theorem znr (xs:List Int) (s:Str):eqB (.tup (xs.map D.int)) (.str s) = false:=by
 unfold eqB toPy;rw [PyData.eqv]
def WishOk (n:Nat) (rs:List Rn) (one other:Int) (struck:List Int) (k:Nat) (wish:D):Prop:=
 ∀ ext:List Int,ext.length <= k->(∀ h ∈ ext,h ∈ zav rs)->∀ line,Fen.RingIs n rs (struck ++ ext) none->Fen.LineIs n rs (struck ++ ext) one other (some line)->∃ t,Fen.walkF rs one 0 line = some (other,t)/\wish = .tup ([one,other,t].map D.int)
theorem WishOk.next    (g:WishOk n rs one other struck (k + 1) wish) (hh:h ∈ zav rs):WishOk n rs one other (struck ++ [h]) k wish:=λext hl he line=>by
 have:=g (h :: ext) (by rw [YAE];omega) (λx hx=>(YAk.mp hx).elim (λe=>e ▸ hh) (he x)) line
 rw [YA1];exact this
theorem zdp {n:Nat} {rs:List Rn} {one other:Int} (F:Few2 n rs) (o0:0 <= one) (o1:one < n) {wish:D} (hw:wish.old = wish):∀ (k N:Nat) (a b:Bool) (struck:List Int) (d:D),k < N->struck.length + k <= 900->PaperIs n rs one other k struck d->WishOk n rs one other struck k wish ->
  zaG N [.int n,.lst a (rs.map runD),d,.int k,.lst b (struck.map D.int),wish] (· = .bl true)
 | k,N + 1,a,b,struck,d,hN,hs,hp,wo=>by
  unfold zaG fnW zaH;rw [YAb,YAb,YAb,YAb,YAb,YAb,zdR hp,zaq,zaq,zaS,zcM,hw];obtain ⟨kind,mark,line,ds,hd,hds,e⟩:∃ kind mark line ds,headIs n rs one other struck kind mark line/\(ds = []/\k = 0\/∃ k',k = k' + 1/\All2 (λh p=>∃ q,p = .tup [.int h,q]/\PaperIs n rs one other k' (struck ++ [h]) q) (za2 rs line) ds)/\d = .tup [.str kind,.int mark,.tup (line.map D.int),.tup ds]:=by
   cases k with
   | zero=>obtain ⟨kind,mark,line,h1,h2⟩:=hp;exact ⟨kind,mark,line,[],h1,.inl ⟨rfl,rfl⟩,h2⟩
   | succ k=>obtain ⟨kind,mark,line,ds,h1,h2,h3⟩:=hp;exact ⟨kind,mark,line,ds,h1,.inr ⟨k,rfl,h2⟩,h3⟩
  subst e;obtain ⟨nd,hb⟩:=hd.line F;have hb':∀ z ∈ line,0 <= z/\z < (rs.length:Int):=λz hz=>⟨(hb z hz).1,(hb z hz).2.1⟩;have hll:=zdg F.len nd hb';have ih:∀ k',k = k' + 1->∀ h ∈ za2 rs line,∀ q,PaperIs n rs one other k' (struck ++ [h]) q->zaG N [.int n,.lst false (rs.map runD),q,.int k',.lst true ((struck ++ [h]).map D.int),wish] (· = .bl true):=λk' hk h hh q hq=>by
   subst hk;exact zdp F o0 o1 hw k' N false true (struck ++ [h]) q (by omega) (by simp;omega) hq (wo.next (zdf hb' hh))
  have anyNo:∀ {t:Tg} {Q:D->Prop},Q (.bl false)->anyF [.lst true (line.map λz=>D.bl (struck.contains (Fen.runAt rs z).hand))] Q:=λ{t Q} q=>by
   refine zkc (f:=λz=>struck.contains (Fen.runAt rs z).hand) (xs:=line) (n:=true) ?_;rw [show (line.any λz=>struck.contains (Fen.runAt rs z).hand) = false from List.any_eq_false.mpr λz hz=>by rw [(hb z hz).2.2];decide];exact q
  obtain ⟨kr,kl,ir,il⟩:=zqO;obtain ⟨⟨r1,r2⟩,⟨r3,r4⟩,⟨r5,r6⟩,r7,r8⟩:=zp0;rcases hd with ⟨rfl,ring⟩ | ⟨rfl,rfl,rn,li⟩
  ·obtain ⟨m0,m1,ne,_,_,_,t,wk,t0⟩:=ring.some F.marks F.n1 F.apart;refine ⟨rfl,?_⟩;show if decide ((0:Int) <= mark) = true then _ else _;rw [YAl m0,if_pos rfl];show if (!decide (mark < (n:Int))) = true then _ else _;rw [YAl m1];refine ⟨by show 2 <= 100000;decide,kr,?_⟩;show if (!inB (.str "ring") [.str "ring",.str "line"]) = true then _ else _;rw [ir];refine ⟨rfl,zaT (zdX false rs mark line mark t hll nd wk) λd hd=>?_⟩;subst hd;refine ⟨by rw [YAd];omega,zaU D.int (λz=>.bl (struck.contains (Fen.runAt rs z).hand)) line (λz hz Y N y=>zcH (hb' z hz).1 (hb' z hz).2 ?_) (anyNo (t:=.nm 0) ?_)⟩
   ·exact zlE (n:=false) y
   refine ⟨r1,?_⟩;rw [r2];refine ⟨by show 0 <= 100000;decide,ziB line [],?_⟩;show if eqB (.tup (line.map D.int)) (.tup (([]:List Int).map D.int)) = true then _ else _;rw [zjR,YAz ne];refine ⟨zaJ _ _,?_⟩;rw [zbl,YAl rfl];refine ⟨zaJ _ _,?_⟩;rw [zbl,YAz t0];refine ⟨r3,?_⟩;rw [r4];exact zjD F hs (.inl ⟨rfl,ring⟩) hds ih
  ·have wo1:=wo [] (YAF _) (λh z=>by cases z) line;rw [YA3] at wo1;obtain ⟨t,wk,rfl⟩:=wo1 rn li;refine ⟨rfl,?_⟩;show if decide ((0:Int) <= mark) = true then _ else _;rw [YAl o0,if_pos rfl];show if (!decide (mark < (n:Int))) = true then _ else _;rw [YAl o1];refine ⟨by show 2 <= 100000;decide,kl,?_⟩;show if (!inB (.str "line") [.str "ring",.str "line"]) = true then _ else _;rw [il];refine ⟨rfl,zaT (zdX false rs mark line other t hll nd wk) λd hd=>?_⟩;subst hd;refine ⟨by rw [YAd];omega,zaU D.int (λz=>.bl (struck.contains (Fen.runAt rs z).hand)) line (λz hz Y N y=>zcH (hb' z hz).1 (hb' z hz).2 ?_) (anyNo (t:=.nm 0) ?_)⟩
   ·exact zlE (n:=false) y
   refine ⟨r5,?_⟩;rw [r6];refine ⟨r7,?_⟩;rw [r8];refine ⟨zlJ _ _ (by decide +kernel),?_⟩;rw [znr];refine ⟨by show 1 <= 100000;decide,by show 1 + 2 <= 100000;decide,?_⟩;show eqOk (.tup ([mark,other,t].map D.int)) (.tup ([mark,other,t].map D.int))/\_;refine ⟨ziB _ _,?_⟩;show if (!eqB (.tup ([mark,other,t].map D.int)) (.tup ([mark,other,t].map D.int))) = true then _ else _;rw [zjR,YAl rfl];exact zjD F hs (.inr ⟨rfl,rfl,rn,li⟩) hds ih
theorem zfW {n:Nat} {rs:List Rn} {one other:Int} (F:Few2 n rs) (o0:0 <= one) (o1:one < n) {wish:D} (hw:wish.old = wish) (a:Bool) (k:Nat) (d:D) (hk:k <= 5) (hp:PaperIs n rs one other k [] d) (wo:WishOk n rs one other [] k wish):zbJ [.int n,.lst a (rs.map runD),d,.int k,wish] (· = .bl true):=by
 unfold zbJ fnW zaH;rw [YAb,YAb,YAb,YAb,YAb,zdR hp,zaq,zaq,zaS,hw];refine ⟨rfl,zaT (zc1 F k 6 [] d (by omega) (by omega) hp) λe he=>?_⟩;subst he;refine ⟨by show 0 <= 100000;decide,rfl,zaT (zdp F o0 o1 hw k 6 false true [] d (by omega) (by simp;omega) hp wo) λe he=>?_⟩;subst he;rfl
end Fd
set_option maxHeartbeats 2000000
set_option maxHeartbeats 2000000
set_option maxHeartbeats 2000000
namespace L2
open PySem PySem.Spec PyProof.Rows PySem.W
def KOk {α:Type} (n:Nat) (lt:Nat->Nat->Bool):KasT α->(α->Prop)->Prop
 | .ret a,Q=>Q a
 | .ask i j k,Q=>i < n/\j < n/\KOk n lt (k (lt i j)) Q
theorem KOk.bind {α β:Type} {n:Nat} {lt:Nat->Nat->Bool} {f:α->KasT β} {Q:β->Prop}:∀ {t:KasT α},KOk n lt t (λa=>KOk n lt (f a) Q)->KOk n lt (t.bind f) Q
 | .ret _,h=>h
 | .ask _ _ _,⟨h1,h2,h3⟩=>⟨h1,h2,KOk.bind h3⟩
theorem KOk.mono {α:Type} {n:Nat} {lt:Nat->Nat->Bool} {Q R:α->Prop} (k:∀ a,Q a->R a):∀ {t:KasT α},KOk n lt t Q->KOk n lt t R
 | .ret a,h=>k a h
 | .ask _ _ _,⟨h1,h2,h3⟩=>⟨h1,h2,KOk.mono k h3⟩
theorem KOk.wp {α:Type} {n:Nat} {lt:Nat->Nat->Bool} {cmp:Nat->Nat->(Bool->Shared->Prop)->Shared->Prop} {s:Shared} (hc:∀ i j C,i < n->j < n->C (lt i j) s->cmp i j C s) {Q:α->Prop} {R:α->Shared->Prop} (k:∀ a,Q a->R a s):∀ {t:KasT α},KOk n lt t Q->t.kasWp cmp R s
 | .ret a,h=>k a h
 | .ask i j f,⟨h1,h2,h3⟩=>hc i j _ h1 h2 (KOk.wp hc k h3)
section
variable {N:Nat} {key:Nat->Int}
def kp (key:Nat->Int) (p:Array Nat) (i:Nat):Int:=key (p.getD i 0)
structure Pm (N:Nat) (p:Array Nat):Prop where
 perm:p.toList.Perm (List.range N)
theorem Pm.size {p:Array Nat} (h:Pm N p):p.size = N:=by have:=h.perm.length_eq;simpa using this
theorem zex {p:Array Nat} {i:Nat} (h:i < p.size):p.getD i 0 = p[i]:=by simp [Array.getD,h]
theorem Pm.lt {p:Array Nat} (h:Pm N p) {i:Nat} (hi:i < N):p.getD i 0 < N:=by
 have hs:i < p.size:=by rw [h.size];exact hi
 rw [zex hs]
 have:p[i] ∈ List.range N:=h.perm.mem_iff.mp (by rw [<- YBC];exact YBI _)
 exact YA4.mp this
theorem Pm.inj {p:Array Nat} (h:Pm N p) {i j:Nat} (hi:i < N) (hj:j < N) (e:p.getD i 0 = p.getD j 0):i = j:=by
 have h1:i < p.size:=by rw [h.size];exact hi
 have h2:j < p.size:=by rw [h.size];exact hj
 rw [zex h1,zex h2] at e;have nd:p.toList.Nodup:=h.perm.nodup_iff.mpr List.nodup_range;exact (List.getElem_inj (h₀:=by simpa using h1) (h₁:=by simpa using h2) nd).mp (by rw [YBC,YBC];exact e)
def Inj (N:Nat) (key:Nat->Int):Prop:=∀ i j,i < N->j < N->key i = key j->i = j
theorem Pm.ne {p:Array Nat} (hk:Inj N key) (h:Pm N p) {i j:Nat} (hi:i < N) (hj:j < N) (ne:i ≠ j):kp key p i ≠ kp key p j:=λe=>ne (h.inj hi hj (hk _ _ (h.lt hi) (h.lt hj) e))
def UpTo (key:Nat->Int) (p:Array Nat) (m:Nat):Prop:=∀ i j,i < j->j < m->kp key p i < kp key p j
def DnTo (key:Nat->Int) (p:Array Nat) (m:Nat):Prop:=∀ i j,i < j->j < m->kp key p j < kp key p i
abbrev ltK (key:Nat->Int) (i j:Nat):Bool:=decide (key i < key j)
theorem zpM {p:Array Nat} {m:Nat} (h:UpTo key p m) (h1:1 <= m) (l:kp key p (m - 1) < kp key p m):UpTo key p (m + 1):=λi j hij hj=>by
 rcases YBT j m with z | z
 ·exact h i j hij z
 ·have:j = m:=by omega
  subst this;rcases YBT i (j - 1) with y | y
  ·exact Int.lt_trans (h i (j - 1) y (by omega)) l
  ·have:i = j - 1:=by omega
   rw [this];exact l
theorem zoN {p:Array Nat} {m:Nat} (h:DnTo key p m) (h1:1 <= m) (l:kp key p m < kp key p (m - 1)):DnTo key p (m + 1):=λi j hij hj=>by
 rcases YBT j m with z | z
 ·exact h i j hij z
 ·have:j = m:=by omega
  subst this;rcases YBT i (j - 1) with y | y
  ·exact Int.lt_trans l (h i (j - 1) y (by omega))
  ·have:i = j - 1:=by omega
   rw [this];exact l
theorem zlk {p:Array Nat} (hk:Inj N key) (hp:Pm N p):∀ (f n:Nat),1 <= n->n + f = N->UpTo key p n->KOk N (ltK key) (kas_asc p f n) (λm=>n <= m/\m <= N/\UpTo key p m/\(m = N\/kp key p m < kp key p (m - 1)))
 | 0,n,_,e,u=>⟨YAm _,by omega,u,.inl (by omega)⟩
 | f + 1,n,h1,e,u=>by
  refine ⟨hp.lt (by omega),hp.lt (by omega),?_⟩;show KOk N (ltK key) (if decide (kp key p n < kp key p (n - 1)) = true then _ else _) _;by_cases z:kp key p n < kp key p (n - 1)
  ·rw [YAl z,if_pos rfl];exact ⟨YAm _,by omega,u,.inr z⟩
  ·rw [YAz z,if_neg (by decide)]
   have:=hp.ne hk (i:=n) (j:=n - 1) (by omega) (by omega) (by omega)
   exact (zlk hk hp f (n + 1) (by omega) (by omega) (zpM u h1 (by omega))).mono λm ⟨a,b,c,d⟩=>⟨by omega,b,c,d⟩
theorem zlP {p:Array Nat} (hk:Inj N key) (hp:Pm N p):∀ (f n:Nat),1 <= n->n + f = N->DnTo key p n->KOk N (ltK key) (kas_desc f p n 0) (λr=>r.1 = p/\r.2.2 = 0/\n <= r.2.1/\r.2.1 <= N/\DnTo key p r.2.1)
 | 0,n,_,e,u=>⟨rfl,rfl,YAm _,by show n <= N;omega,u⟩
 | f + 1,n,h1,e,u=>by
  refine ⟨hp.lt (by omega),hp.lt (by omega),?_⟩;show KOk N (ltK key) (if decide (kp key p n < kp key p (n - 1)) = true then _ else _) _;by_cases z:kp key p n < kp key p (n - 1)
  ·rw [YAl z,if_pos rfl,if_neg (by decide)];exact (zlP hk hp f (n + 1) (by omega) (by omega) (zoN u h1 z)).mono λr ⟨a,b,c,d,x⟩=>⟨a,b,by omega,d,x⟩
  ·rw [YAz z,if_neg (by decide)]
   have:=hp.ne hk (i:=n) (j:=n - 1) (by omega) (by omega) (by omega)
   refine ⟨hp.lt (by omega),hp.lt (by omega),?_⟩;show KOk N (ltK key) (if decide (kp key p (n - 1) < kp key p n) = true then _ else _) _;rw [YAl (by omega),if_pos rfl];exact ⟨rfl,rfl,YAm _,by show n <= N;omega,u⟩
theorem zgc (p:Array Nat) (i:Nat):p.getD i 0 = (p[i]?).getD 0:=by
 by_cases h:i < p.size
 ·rw [zex h];simp [h]
 ·simp [Array.getD,h]
theorem zon {p:Array Nat} {n k:Nat} (hn:n <= p.size) (hk:k < n):(kas_rev p 0 n).getD k 0 = p.getD (n - 1 - k) 0:=by
 rw [zgc,zgc];unfold kas_rev;rw [getElem?_mirror hn _ (by omega)];split
 ·congr 2;omega
 ·congr 2;omega
theorem zoD {p:Array Nat} (h:Pm N p) (i j:Nat):Pm N (kas_rev p i j):=⟨(Array.perm_iff_toList_perm.mp (mirror_perm p i j _)).trans h.perm⟩
theorem zqz {p:Array Nat} {n:Nat} (hn:n <= p.size) (h:DnTo key p n):UpTo key (kas_rev p 0 n) n:=λi j hij hj=>by
 unfold kp;rw [zon hn (by omega),zon hn hj];exact h _ _ (by omega) (by omega)
def Half (N:Nat) (key:Nat->Int) (r:Nat × Array Nat):Prop:=1 <= r.1/\r.1 <= N/\Pm N r.2/\UpTo key r.2 r.1
theorem znc {p:Array Nat} {n:Nat} (hk:Inj N key) (hp:Pm N p) (h1:1 <= n) (hn:n <= N) (d:DnTo key p n):KOk N (ltK key) (kas_tail3 n N p) (Half N key):=
 KOk.bind ((zlk hk (zoD hp 0 n) (N - n) n h1 (by omega) (zqz (by rw [hp.size];exact hn) d)).mono λm ⟨a,b,c,_⟩=>⟨by omega,b,zoD hp 0 n,c⟩)
theorem znM {p:Array Nat} (hk:Inj N key) (hp:Pm N p) (h1:1 <= N):KOk N (ltK key) (kas_count N p) (Half N key):=by
 refine KOk.bind ((zlk hk hp (N - 1) 1 (by omega) (by omega) λi j a b=>by omega).mono λm ⟨a,b,c,d⟩=>?_);by_cases e:m = N
 ·rw [if_pos (by simp [e])];exact ⟨a,b,hp,c⟩
 ·rw [if_neg (by simp [e])];by_cases e1:m > 1
  ·rw [if_pos e1];refine ⟨hp.lt (by omega),hp.lt (by omega),?_⟩;show KOk N (ltK key) (if decide (kp key p 0 < kp key p (m - 1)) = true then _ else _) _;rw [YAl (c 0 (m - 1) (by omega) (by omega)),if_pos rfl];exact ⟨a,b,hp,c⟩
  ·rw [if_neg e1];have em:m = 1:=by omega
   subst em;have l:=d.resolve_left e;refine KOk.bind ((zlP hk hp (N - 2) 2 (by omega) (by omega) λi j hij hj=>?_).mono λr ⟨r1,r2,r3,r4,r5⟩=>?_)
   ·have:i = 0:=by omega
    have:j = 1:=by omega
    subst i;subst j;exact l
   ·rw [r2,if_neg (by decide),r1];exact znc hk hp (by omega) r4 r5
theorem zhe {p:Array Nat} {k:Nat} (hk:Inj N key) (hp:Pm N p) (hkN:k < N) (u:UpTo key p k):∀ (f l r:Nat),l <= r->r <= k->r - l <= f->(∀ i,i < l->kp key p i < kp key p k)->(∀ i,r <= i->i < k->kp key p k < kp key p i) ->
  KOk N (ltK key) (kas_place p k f l r) (λm=>m <= k/\(∀ i,i < m->kp key p i < kp key p k)/\∀ i,m <= i->i < k->kp key p k < kp key p i)
 | 0,l,r,h1,h2,h3,a,b=>⟨by omega,a,λi x y=>b i (by omega) y⟩
 | f + 1,l,r,h1,h2,h3,a,b=>by
  unfold kas_place;by_cases z:l ≥ r
  ·rw [if_pos z];exact ⟨by omega,a,λi x y=>b i (by omega) y⟩
  ·rw [if_neg z];have hm:(l + r) / 2 < r:=by omega
   have hl:l <= (l + r) / 2:=by omega
   generalize (l + r) / 2 = m at hm hl;refine ⟨hp.lt hkN,hp.lt (by omega),?_⟩;show KOk N (ltK key) (if decide (kp key p k < kp key p m) = true then _ else _) _;by_cases y:kp key p k < kp key p m
   ·rw [YAl y,if_pos rfl];refine zhe hk hp hkN u f l m hl (by omega) (by omega) a λi x1 x2=>?_;rcases YBT m i with w | w
    ·exact Int.lt_trans y (u m i w x2)
    ·have:i = m:=by omega
     rw [this];exact y
   ·rw [YAz y,if_neg (by decide)]
    have:=hp.ne hk (i:=k) (j:=m) hkN (by omega) (by omega)
    refine zhe hk hp hkN u f (m + 1) r (by omega) h2 (by omega) (λi x=>?_) b;rcases YBT i m with w | w
    ·have:=u i m w (by omega);omega
    ·have:i = m:=by omega
     rw [this];omega
theorem zqx {p:Array Nat} (h:Pm N p) (i j:Nat):Pm N (bubble p i j):=⟨(Array.perm_iff_toList_perm.mp (bubble_perm p i j)).trans h.perm⟩
theorem zqe {p:Array Nat} {k l:Nat} (hp:Pm N p) (hkN:k < N) (hl:l <= k) (u:UpTo key p k) (a:∀ i,i < l->kp key p i < kp key p k) (b:∀ i,l <= i->i < k->kp key p k < kp key p i):UpTo key (bubble p k (k - l)) (k + 1):=by
 have at_:∀ i,kp key (bubble p k (k - l)) i = if i = l then kp key p k else if l < i/\i <= k then kp key p (i - 1) else kp key p i:=λi=>by
  unfold kp;rw [zgc,getElem?_bubble (by rw [hp.size];exact hkN) (k - l) (by omega) i,show k - (k - l) = l by omega];split
  ·rw [zgc]
  ·split
   ·rw [zgc]
   ·rw [zgc]
 intro i j hij hj;rw [at_ i,at_ j];by_cases i1:i = l
 ·rw [if_pos i1,if_neg (by omega),if_pos (by omega)];exact b (j - 1) (by omega) (by omega)
 ·rw [if_neg i1];by_cases j1:j = l
  ·rw [if_pos j1,if_neg (by omega)];exact a i (by omega)
  ·rw [if_neg j1];by_cases i2:l < i/\i <= k
   ·rw [if_pos i2,if_pos (by omega)];exact u _ _ (by omega) (by omega)
   ·rw [if_neg i2];by_cases j2:l < j/\j <= k
    ·rw [if_pos j2];have h1:=a i (by omega);have h2:=b (j - 1) (by omega) (by omega);omega
    ·rw [if_neg j2];exact u _ _ hij (by omega)
theorem zot (hk:Inj N key):∀ (f k:Nat) (p:Array Nat),Pm N p->1 <= k->k + f = N->UpTo key p k->KOk N (ltK key) (kas_bin f p k) (λq=>Pm N q/\UpTo key q N)
 | 0,k,p,hp,_,e,u=>⟨hp,(show k = N by omega) ▸ u⟩
 | f + 1,k,p,hp,h1,e,u=>KOk.bind ((zhe hk hp (by omega) u k 0 k (by omega) (by omega) (by omega) (λi h=>by omega) λi a b=>by omega).mono λl ⟨x,y,z⟩=>
   zot hk f (k + 1) _ (zqx hp k (k - l)) (by omega) (by omega) (zqe hp (by omega) x u y z))
theorem zoQ (hk:Inj N key) (h1:1 <= N):KOk N (ltK key) (kas_sort N) (λq=>Pm N q/\UpTo key q N):=by
 refine KOk.bind ((znM hk ⟨by simp⟩ h1).mono λr ⟨a,b,c,d⟩=>?_);split
 ·have e:max r.1 1 = r.1:=by omega
  rw [e];exact zot hk (N - r.1) r.1 r.2 c a (by omega) d
 ·have e:r.1 = N:=by omega
  rw [e] at d;exact ⟨c,d⟩
end
end L2
namespace HT
open PySem PyProof.Rows
section
open PySem.SeqAt
open PySem.AutoSeq1 (wpAny_loadPart')
open PySem.MeetsSeq PySem.MeetsSeq2 PySem.MeetsSeq3
def ziI (items:Array Value) (ns:List Int):Prop:=items.size = ns.length/\∀ j (h:j < items.size),∃ t,items[j] = .int (ns.getD j 0) t
theorem zhP {ns:List Int} {i:Nat} (h:i < ns.length):ns.drop i = ns.getD i 0 :: ns.drop (i + 1):=by
 rw [YAT h,YAt,YAe h];rfl
theorem zo4 (l b:Addr) (items items2:Array Value) (n n2:Nat) (dd dd2:Option Addr) (sl sl2:Array (Option Value)) (ns ms:List Int) (x1:ziI items ns) (x2:ziI items2 ms) (hsz:ns.length = ms.length) (k:Nat) :
  ∀ i:Nat,items.size - i = k->Meets (Builtin.«list.__eq__.loop» ⟨[.ref l,.ref b,rawInt i,rawInt 0],[]⟩)
   (λ_ R s=>s.heap.get? l = some { cls:=.type "list",dict:=dd,data:=.seq items n,slots:=sl }/\s.heap.get? b = some { cls:=.type "list",dict:=dd2,data:=.seq items2 n2,slots:=sl2 } /\
    R (.ok (.ret (.bool (zdm (ns.drop i) (ms.drop i))))) s):=by
 obtain ⟨z1,y1⟩:=x1;obtain ⟨z2,y2⟩:=x2
 induction k with
 | zero=>
  intro i hk prog w A R s h;obtain ⟨hp,g,d,tk,os⟩:=s;obtain ⟨hl,hb,h⟩:=h
  wp_walk using YBg hl,YBg hb
  have hi1:items[((i:Nat):Int).toNat]? = none:=by simp;omega
  have hi2:items2[((i:Nat):Int).toNat]? = none:=by simp;omega
  rw [List.drop_of_length_le (by omega),List.drop_of_length_le (by omega),zgV] at h;rw [hi1,hi2]
  wp_walk using YBg hl,YBg hb
  show R (.ok (.ret (.bool (decide (items.size < items2.size))))) _;rw [YAz (by omega)];exact h
 | succ k ih=>
  intro i hk prog w A R s h;obtain ⟨hp,g,d,tk,os⟩:=s;obtain ⟨hl,hb,h⟩:=h
  wp_walk using YBg hl,YBg hb
  have hlt:i < items.size:=by omega
  have hlt2:i < items2.size:=by omega
  obtain ⟨t,et⟩:=y1 i hlt;obtain ⟨u,eu⟩:=y2 i hlt2;have hi1:items[((i:Nat):Int).toNat]? = some (.int (ns.getD i 0) t):=by rw [<- et];simp [hlt]
  have hi2:items2[((i:Nat):Int).toNat]? = some (.int (ms.getD i 0) u):=by rw [<- eu];simp [hlt2]
  have hc:((i:Int) + 1) = ((i + 1:Nat):Int):=by push_cast;rfl
  rw [zhP (by omega),zhP (ns:=ms) (by omega),zdl] at h;rw [hi1,hi2];obtain ⟨e,he,hiff⟩:=zm9 A.in1 ⟨hp,g,d,tk,os⟩ (ns.getD i 0) t (ms.getD i 0) u;refine YAa (he prog w _ _ ?_);cases e with
  | true=>
   rw [if_pos (hiff.mp rfl)] at h
   wp_walk
   rw [hc];exact ⟨plainId_quiet plain_eq_loop _,YBz entry_eq_loop (by
    rw [Around.under_plainId plain_eq_loop _];exact ih (i + 1) (by omega) prog w A R _ ⟨hl,hb,h⟩)⟩
  | false=>
   rw [if_neg (λq=>absurd (hiff.mpr q) YAx)] at h
   wp_walk using YBg hl,YBg hb
   rw [hi1,hi2];have hri:=zno A.in1 ⟨hp,g,d,tk,os⟩ (ns.getD i 0) t (ms.getD i 0) u prog w
   wp_walk using hri
   simpa using h
theorem ziP (l b:Addr) (items items2:Array Value) (n n2:Nat) (dd dd2:Option Addr) (sl sl2:Array (Option Value)) (ns ms:List Int) (x1:ziI items ns) (x2:ziI items2 ms) (hsz:ns.length = ms.length) :
  Meets (Builtin.«list.__lt__» ⟨[.ref l,.ref b],[]⟩)
   (λ_ R s=>s.heap.get? l = some { cls:=.type "list",dict:=dd,data:=.seq items n,slots:=sl }/\s.heap.get? b = some { cls:=.type "list",dict:=dd2,data:=.seq items2 n2,slots:=sl2 } /\
    R (.ok (.ret (.bool (zdm ns ms)))) s):=by
 intro prog w A R s h;obtain ⟨hp,g,d,tk,os⟩:=s;obtain ⟨hl,hb,h⟩:=h;have f3:=AutoSeq1.sub_list_list
 wp_walk using YBg hl,YBg hb
 exact ⟨plainId_quiet plain_eq_loop _,YBz entry_eq_loop (by
  rw [Around.under_plainId plain_eq_loop _];exact zo4 l b items items2 n n2 dd dd2 sl sl2 ns ms x1 x2 hsz _ 0 rfl prog w A R _ ⟨hl,hb,by simpa using h⟩)⟩
end
section
variable {prog:Program} {w:World} {A:Around} {E:Value->Shared->Prop} {s:Shared}
theorem ziT {l b:Addr} {items items2:Array Value} {ns ms:List Int} {Q:Value->Shared->Prop} (hl:s.heap.IsList l items) (hb:s.heap.IsList b items2) (x1:ziI items ns) (x2:ziI items2 ms) (hsz:ns.length = ms.length)
  (hu:A.units < cLine) (h:Q (.bool (zdm ns ms)) s):wpAny (model prog w) A (compareOp .Lt (.ref l) (.ref b)) Q E s:=by
 obtain ⟨⟨cls,dd,data,sl⟩,ho,hc,n,hd⟩:=id hl;obtain ⟨⟨cls2,dd2,data2,sl2⟩,ho2,hc2,n2,hd2⟩:=id hb;simp only at hc hd hc2 hd2;subst hc hd hc2 hd2;exact richCompare_meets_room (op:=.Lt) ⟨_,ho,rfl⟩ ⟨_,ho2,rfl⟩ PySem.F.slot_list_lt PySem.F.entry_list_lt (PySem.F.args_list_lt_2 _ _) (ziP l b items items2 n n2 dd dd2 sl sl2 ns ms x1 x2 hsz)
  ⟨ho,ho2,show Value.bool (zdm ns ms) ≠ Value.notImplemented/\Q (.bool (zdm ns ms)) s from ⟨(λx=>nomatch x),h⟩⟩ hu
end
end HT
namespace L2
open PySem PySem.Spec PyProof.Rows PySem.W
section
variable {prog:Program} {w:World} {A:Around} {E:Value->Shared->Prop} {s:Shared} {vs:List Value} {κ:SortKind} {key:Nat->Int}
def zmp (vs:List Value) (key:Nat->Int) (out:List Value):Prop:=∃ p:List Nat,p.Perm (List.range vs.length)/\p.Pairwise (λi j=>key i < key j)/\out = p.map λi=>vs.getD i Value.none
theorem zrr {N:Nat} {q:Array Nat} (h:Pm N q) (u:UpTo key q N):q.toList.Pairwise λi j=>key i < key j:=by
 rw [YAZ];intro i j hi hj hij;have hs:=h.size;have hi':i < q.size:=by simpa using hi
 have hj':j < q.size:=by simpa using hj
 have:=u i j hij (by omega)
 unfold kp at this;rw [zex hi',zex hj'] at this
 simpa using this
theorem zh7 {a:Addr} {n:Nat} {P:PySem.Fin->Shared->Prop} (ho:s.heap.get? a = some (seqObj "list" vs.toArray n)) (h64:vs.length < 64) (hk:Inj vs.length key)
  (hkind:2 <= vs.length->∀ (h':Heap) (Q':SortKind->Shared->Prop),(∀ b o,b ≠ a->s.heap.get? b = some o->h'.get? b = some o)->Q' κ { s with heap:=h' }->wpAny (model prog w) A (keyKind' vs.toArray) Q' (λ_ _=>False) { s with heap:=h' })
  (hlt:∀ (i j:Nat) (h':Heap) (C:Bool->Shared->Prop),i < vs.length->j < vs.length->(∀ b o,b ≠ a->s.heap.get? b = some o->h'.get? b = some o)->C (decide (key i < key j)) { s with heap:=h' }->wpAny (model prog w) A (keyLt' κ (vs.getD i Value.none) (vs.getD j Value.none)) C (λ_ _=>False) { s with heap:=h' })
  (h:∀ out:List Value,zmp vs key out->P (.done (.ret .none)) { s with heap:=sortedHeap s.heap a vs out.toArray }) :
  wpAny (model prog w) A (Builtin.«list.sort» ⟨[.ref a],[]⟩) P E s:=by
 rw [list_sort_plain];have ha:a < s.heap.objs.size:=YAn ho;refine YAa (listItems_at ho rfl ?_);refine YAa (listUpdate_at ho rfl ?_ (by rw [YAq,YAR];omega) (YAF _));obtain ⟨e1,ho1⟩:∃ e1,(s.heap.update a (Obj.mapSeq λ_=>#[])).get? a = some (seqObj "list" #[] e1):=⟨_,get?_update_seq ho (λ_=>#[])⟩;refine YAa (seqEpoch_at ho1 rfl ?_);refine YAa (wpAny_newTuple ?_ (by show vs.length <= _;rw [YAR];omega));refine YAa (wpAny_newList ?_ (YAF _));refine YAX ?_;have ho6:(((s.heap.update a (Obj.mapSeq λ_=>#[])).push (seqObj "tuple" vs.toArray 0)).push (seqObj "list" #[] 0)).get? a = some (seqObj "list" #[] e1):=by
  rw [YBS _ _ _ (by rw [size_push',Heap.size_update];exact YAw (YBb ha)),YBS _ _ _ (by rw [Heap.size_update];exact YAw ha)];exact ho1
 have kept:∀ b o,b ≠ a->s.heap.get? b = some o->(((s.heap.update a (Obj.mapSeq λ_=>#[])).push (seqObj "tuple" vs.toArray 0)).push (seqObj "list" #[] 0)).get? b = some o:=λb o hb q=>by
  have hlt:b < s.heap.objs.size:=YAn q;rw [YBS _ _ _ (by rw [size_push',Heap.size_update];exact YAw (YBb hlt)),YBS _ _ _ (by rw [Heap.size_update];exact YAw hlt),Heap.get?_update_ne _ _ _ _ hb];exact q
 show wpAny (model prog w) A _ P E { s with heap:=((s.heap.update a (Obj.mapSeq λ_=>#[])).push (seqObj "tuple" vs.toArray 0)).push (seqObj "list" #[] 0) };dsimp only;by_cases h2:vs.toArray.size < 2
 ·rw [if_pos h2,if_pos h2];refine YAa (YAf ?_);rw [StateT.run_pure];refine YAa (YAf ?_);dsimp only;refine YAa (seqEpoch_at ho6 rfl ?_);refine YAa (listUpdate_at ho6 rfl ?_ (YAF _) (by rw [Array.size_map];show (pairsOf vs).size <= _;rw [pairsOf_size,YAR];omega));simp only [YBQ,YA2,YBM];refine YAf ?_;have e:((vs.toArray.zip vs.toArray).map (·.2)) = vs.toArray:=by
   apply Array.toList_inj.mp;rw [Array.toList_map];show (pairsOf vs).toList.map _ = _;rw [pairsOf_toList,List.map_snd_zip (YAm _)]
  have:=h vs ⟨List.range vs.length,List.Perm.refl _,?_,?_⟩
  ·show P _ { s with heap:=sortedHeap s.heap a vs ((vs.toArray.zip vs.toArray).map (·.2)) };rw [e];exact this
  ·rw [YAZ];intro i j hi hj hij;rw [YAq] at h2;simp at hi hj;omega
  ·apply YBB
   ·simp
   ·intro i h1 h3;simp [h1]
 ·rw [if_neg h2,if_neg h2];rw [YAq] at h2;refine YAa (YA0 (hkind (by omega) _ _ kept ?_) (λ_ _ z=>z) λ_ _ z=>z.elim);have est:SortSt.mk' κ (vs.toArray.zip vs.toArray) #[] 7 none = kas_st κ (pairsOf vs) (List.toArray (List.range vs.length)):=by
   have e:=kas_range (pairsOf vs);rw [pairsOf_size] at e;show SortSt.mk' κ (pairsOf vs) #[] 7 none = SortSt.mk' κ ((List.toArray (List.range vs.length)).map (kas_item (pairsOf vs))) #[] 7 none;rw [e]
  have ask:(kas_sort vs.length).kasWp (kas_cmp prog w A κ (pairsOf vs)) (λq s'=>s' = { s with heap:=((s.heap.update a (Obj.mapSeq λ_=>#[])).push (seqObj "tuple" vs.toArray 0)).push (seqObj "list" #[] 0) }/\Pm vs.length q/\UpTo key q vs.length) { s with heap:=((s.heap.update a (Obj.mapSeq λ_=>#[])).push (seqObj "tuple" vs.toArray 0)).push (seqObj "list" #[] 0) }:=by
   refine (zoQ hk (by omega)).wp (λi j C hi hj c=>?_) λq hq=>⟨rfl,hq.1,hq.2⟩;rw [<- kas_ask_eq];exact hlt i j _ C hi hj kept c
  have run:=kas_runs (E:=E) (Q:=λ_ st' s'=>∃ q:Array Nat,arrOf st' = q.map (kas_item (pairsOf vs))/\failedOf st' = none/\s' = { s with heap:=((s.heap.update a (Obj.mapSeq λ_=>#[])).push (seqObj "tuple" vs.toArray 0)).push (seqObj "list" #[] 0) }/\Pm vs.length q/\UpTo key q vs.length)
   (by omega) h64 (λp' st' s' a1 a2 a3 a4=>⟨p',a2,a3,a4.1,a4.2⟩) ask
  rw [<- est] at run;refine YAa (YA0 run ?_ λ_ _ e=>e);rintro ⟨⟨⟩,st'⟩ s' ⟨q,har,hf,rfl,pm,up⟩;dsimp only;have hout:(arrOf st').map (·.2) = List.toArray (q.toList.map λi=>vs.getD i Value.none):=by
   apply Array.toList_inj.mp;rw [har,Array.map_map,Array.toList_map];exact YA7 λi _=>by show (kas_item (pairsOf vs) i).2 = _;rw [kas_item_eq]
  have hsz:(List.toArray (q.toList.map λi=>vs.getD i Value.none)).size = vs.length:=by rw [YAq,YAd,YBD,pm.size]
  rw [hout];refine YAa (seqEpoch_at ho6 rfl ?_);refine YAa (listUpdate_at ho6 rfl ?_ (YAF _) (YAK (Nat.le_of_eq hsz) (by rw [YAR];omega)));rw [hf];simp only [YBQ,YA2,YBM];exact YAf (h _ ⟨q.toList,pm.perm,zrr pm up,rfl⟩)
theorem zlS {l:Addr} {Q:Value->Shared->Prop} (hl:s.heap.IsList l vs.toArray) (h64:vs.length < 64) (hk:Inj vs.length key)
  (hkind:2 <= vs.length->∀ (h':Heap) (Q':SortKind->Shared->Prop),(∀ b o,s.heap.get? b = some o->h'.get? b = some o)->Q' κ { s with heap:=h' }->wpAny (model prog w) A.in1.in1 (keyKind' vs.toArray) Q' (λ_ _=>False) { s with heap:=h' })
  (hlt:∀ (i j:Nat) (h':Heap) (C:Bool->Shared->Prop),i < vs.length->j < vs.length->(∀ b o,s.heap.get? b = some o->h'.get? b = some o)->C (decide (key i < key j)) { s with heap:=h' }->wpAny (model prog w) A.in1.in1 (keyLt' κ (vs.getD i Value.none) (vs.getD j Value.none)) C (λ_ _=>False) { s with heap:=h' })
  (h:∀ out:List Value,zmp vs key out->Q (.ref (s.heap.objs.size + 1)) { s with heap:=sortedAll s.heap vs out.toArray }) :
  wpAny (model prog w) A (call (.builtin "sorted") [.ref l]) Q E s:=by
 refine Calls.call_function_entry kind_sorted plain_sorted entry_sorted (args_sorted1 _) ?_;unfold Builtin.«sorted»;refine YAa (m:=checkCount "sorted" 1 1 _) (YAf ?_);refine YAa (collect_list hl ?_ (by rw [YAR];omega));refine YAa (wpAny_newList ?_ (by rw [YAR];omega));have hsz:((s.heap.push (seqObj "list" #[] 0)).update s.heap.objs.size (Obj.mapSeq (· ++ vs.toArray))).objs.size = s.heap.objs.size + 1:=by
  rw [Heap.size_update,size_push']
 have hoL:(((s.heap.push (seqObj "list" #[] 0)).update s.heap.objs.size (Obj.mapSeq (· ++ vs.toArray))).push (seqObj "list" vs.toArray 0)).get? (s.heap.objs.size + 1) = some (seqObj "list" vs.toArray 0):=by
  rw [<- hsz];exact YAp _ rfl
 have keep:∀ b o,s.heap.get? b = some o->(((s.heap.push (seqObj "list" #[] 0)).update s.heap.objs.size (Obj.mapSeq (· ++ vs.toArray))).push (seqObj "list" vs.toArray 0)).get? b = some o:=λb o q=>by
  have hlt:b < s.heap.objs.size:=YAn q;rw [YBS _ _ _ (by rw [hsz];exact YAw (YBb hlt)),Heap.get?_update_ne _ _ _ _ (YAw hlt),YBS _ _ _ (YAw hlt)];exact q
 show wpAny _ _ _ _ _ { s with heap:=((s.heap.push (seqObj "list" #[] 0)).update s.heap.objs.size (Obj.mapSeq (· ++ vs.toArray))).push (seqObj "list" vs.toArray 0) };rw [hsz];have low:∀ b o,s.heap.get? b = some o->b ≠ s.heap.objs.size + 1:=λb o q=>YAw (YBb (YAn q));refine YAa (YAX (YAV slot_list_sort ⟨_,hoL,rfl⟩ entry_list_sort (zh7 (κ:=κ) (key:=key) hoL h64 hk (λh2 h' Q' kp q=>hkind h2 h' Q' (λb o e=>kp b o (low b o e) (keep b o e)) q) (λi j h' C hi hj kp c=>hlt i j h' C hi hj (λb o e=>kp b o (low b o e) (keep b o e)) c) λout ho=>⟨_,rfl,?_⟩) (args_list_sort _)));exact YAf ⟨_,rfl,h out ho⟩
end
end L2
namespace L2
open PySem PySem.Spec PyProof.Rows PySem.W HT
abbrev Pr:=Int × List Int
def pLt (x y:Pr):Bool:=if x.1 = y.1 then zdm x.2 y.2 else decide (x.1 < y.1)
theorem zjj:∀ xs:List Int,zdm xs xs = false
 | []=>rfl
 | x :: xs=>by rw [zdl,if_pos rfl];exact zjj xs
theorem zmD:∀ xs ys:List Int,xs ≠ ys->zdm xs ys = false->zdm ys xs = true
 | [],[],h,_=>absurd rfl h
 | [],_ :: _,_,h=>by cases h
 | _ :: _,[],_,_=>rfl
 | x :: xs,y :: ys,h,k=>by
  rw [zdl] at k ⊢;by_cases e:x = y
  ·rw [if_pos e] at k;rw [if_pos e.symm];exact zmD xs ys (λz=>h (by rw [e,z])) k
  ·rw [if_neg e] at k;rw [if_neg (λz=>e z.symm)]
   have:=of_decide_eq_false k
   exact YAl (by omega)
theorem zhZ:∀ xs ys zs:List Int,zdm xs ys = true->zdm ys zs = true->zdm xs zs = true
 | [],[],_,h,_=>by cases h
 | [],_ :: _,[],_,k=>by cases k
 | [],_ :: _,_ :: _,_,_=>rfl
 | _ :: _,[],_,h,_=>by cases h
 | _ :: _,_ :: _,[],_,k=>by cases k
 | x :: xs,y :: ys,z :: zs,h,k=>by
  rw [zdl] at h k ⊢;by_cases e:x = y
  ·rw [if_pos e] at h;subst e;by_cases e2:x = z
   ·rw [if_pos e2] at k ⊢;exact zhZ xs ys zs h k
   ·rw [if_neg e2] at k ⊢;exact k
  ·rw [if_neg e] at h;have h:=YAM h;by_cases e2:y = z
   ·rw [if_pos e2] at k;rw [if_neg (by omega)];exact YAl (by omega)
   ·rw [if_neg e2] at k;have k:=YAM k;rw [if_neg (by omega)];exact YAl (by omega)
theorem zpy (x:Pr):pLt x x = false:=by unfold pLt;rw [if_pos rfl];exact zjj _
theorem zmc {x y:Pr} (h:x ≠ y) (k:pLt x y = false):pLt y x = true:=by
 unfold pLt at k ⊢;by_cases e:x.1 = y.1
 ·rw [if_pos e] at k;rw [if_pos e.symm];exact zmD _ _ (λz=>h (Prod.ext e z)) k
 ·rw [if_neg e] at k;rw [if_neg (λz=>e z.symm)]
  have:=of_decide_eq_false k
  exact YAl (by omega)
theorem zlx {x y z:Pr} (h:pLt x y = true) (k:pLt y z = true):pLt x z = true:=by
 unfold pLt at h k ⊢;by_cases e:x.1 = y.1
 ·rw [if_pos e] at h;by_cases e2:y.1 = z.1
  ·rw [if_pos e2] at k;rw [if_pos (e.trans e2)];exact zhZ _ _ _ h k
  ·rw [if_neg e2] at k
   have:=YAM k
   rw [if_neg (by omega)];exact YAl (by omega)
 ·rw [if_neg e] at h;have h:=YAM h;by_cases e2:y.1 = z.1
  ·rw [if_neg (by omega)];exact YAl (by omega)
  ·rw [if_neg e2] at k
   have:=YAM k
   rw [if_neg (by omega)];exact YAl (by omega)
def rank (ps:List Pr) (x:Pr):Int:=(ps.countP λy=>pLt y x:Nat)
theorem zks {p q:Pr->Bool}:∀ {l:List Pr},(∀ x ∈ l,p x = true->q x = true)->l.countP p <= l.countP q
 | [],_=>YAm _
 | x :: l,h=>by
  have:=zks (l:=l) λy hy=>h y (YAj _ hy)
  rw [List.countP_cons,List.countP_cons]
  have:=h x YAh
  by_cases e:p x = true
  ·rw [if_pos e,if_pos (this e)];omega
  ·rw [if_neg e];omega
theorem zkk {p q:Pr->Bool}:∀ {l:List Pr} {z:Pr},z ∈ l->p z = false->q z = true->(∀ x ∈ l,p x = true->q x = true)->l.countP p < l.countP q
 | x :: l,z,hz,h1,h2,h=>by
  rw [List.countP_cons,List.countP_cons];rcases YAk.mp hz with e | e
  ·subst e
   have:=zks (l:=l) λy hy=>h y (YAj _ hy)
   rw [if_neg (by rw [h1];decide),if_pos h2];omega
  ·have:=zkk e h1 h2 λy hy=>h y (YAj _ hy)
   have:=h x YAh
   by_cases y:p x = true
   ·rw [if_pos y,if_pos (this y)];omega
   ·rw [if_neg y];omega
theorem zhl {ps:List Pr} {x y:Pr} (hx:x ∈ ps) (h:pLt x y = true):rank ps x < rank ps y:=by
 unfold rank
 have:=zkk (p:=λz=>pLt z x) (q:=λz=>pLt z y) hx (zpy x) h λz _ hz=>zlx hz h
 omega
theorem zkr {ps:List Pr} {x y:Pr} (hx:x ∈ ps) (hy:y ∈ ps):decide (rank ps x < rank ps y) = pLt x y:=by
 cases e:pLt x y with
 | true=>exact YAl (zhl hx e)
 | false=>
  refine YAz λh=>?_;by_cases z:x = y
  ·rw [z] at h;omega
  ·have:=zhl hy (zmc z e);omega
def PairAt (h:Heap) (v:Value) (x:Pr):Prop:=∃ (t a:Addr) (tk:Tok) (items:Array Value),v = .ref t/\IsTup h t #[.int x.1 tk,.ref a]/\h.IsList a items/\ziI items x.2/\x.1 = x.2.length
theorem PairAt.kept {h h':Heap} {v:Value} {x:Pr} (p:PairAt h v x) (k:∀ b o,h.get? b = some o->h'.get? b = some o):PairAt h' v x:=by
 obtain ⟨t,a,tk,items,e,⟨o,ho,q⟩,⟨o2,ho2,q2⟩,r⟩:=p;exact ⟨t,a,tk,items,e,⟨o,k _ _ ho,q⟩,⟨o2,k _ _ ho2,q2⟩,r⟩
section
variable {prog:Program} {w:World} {A:Around} {s:Shared}
theorem zo1 {ns ms:List Int} (h:ns.length = ms.length):(List.range ns.length).all (λj=>ns.getD j 0 == ms.getD j 0) = decide (ns = ms):=by
 by_cases e:ns = ms
 ·rw [YAl e,e,YBi];intro j _;simp
 ·rw [YAz e];refine Bool.eq_false_iff.mpr λz=>e ?_;rw [YBi] at z;apply YBB h;intro i h1 h2
  have:=z i (YA4.mpr h1)
  simpa [h1,h2] using this
theorem zpm {u v:Value} {x y:Pr} {C:Bool->Shared->Prop} (hu:A.units < cLine) (p:PairAt s.heap u x) (q:PairAt s.heap v y) (c:C (pLt x y) s):wpAny (model prog w) A (keyLt' (tuples' true) u v) C (λ_ _=>False) s:=by
 obtain ⟨t,a,tk,items,rfl,⟨o,ho,hc,n,hd⟩,hl,hi,hx⟩:=p;obtain ⟨t2,a2,tk2,items2,rfl,⟨o2,ho2,hc2,n2,hd2⟩,hl2,hi2,hy⟩:=q;refine kat_lt ho hd ho2 hd2 ?_;show KatLex prog w A true (decide (2 < 2)) C [(.int x.1 tk,.int y.1 tk2),(.ref a,.ref a2)] 0 s;refine kat_cons ((SeqAt.EqAt.int_int x.1 tk y.1 tk2:SeqAt.EqAt A s _ _ _) prog w _ _ ?_);unfold pLt at c;by_cases e:x.1 = y.1
 ·rw [if_pos e] at c;have hsz:x.2.length = y.2.length:=by omega
  rw [show (x.1 == y.1) = true by simp [e]];refine kat_yes (kat_cons ?_);have key:∀ b:Bool,b = decide (x.2 = y.2)->KatGo prog w A true (decide (2 < 2)) C (.ref a) (.ref a2) [] 1 b s:=λb hb=>by
   cases b with
   | true=>
    have:x.2 = y.2:=YAM hb.symm
    rw [this,zjj] at c;exact kat_yes (kat_nil c)
   | false=>exact kat_no (kat_one _ _ (ziT hl hl2 hi hi2 hsz hu c))
  by_cases z:a = a2
  ·subst z
   have:x.2 = y.2:=by
    obtain ⟨o3,g1,g2,m,g3⟩:=hl;obtain ⟨o4,f1,f2,m2,f3⟩:=hl2;rw [g1] at f1;cases f1;rw [g3] at f3;cases f3;apply YBB hsz;intro i h1 h2;obtain ⟨t3,e3⟩:=hi.2 i (by rw [hi.1];exact h1);obtain ⟨t4,e4⟩:=hi2.2 i (by rw [hi2.1];exact h2);rw [e3] at e4;injection e4 with e4 _
    simpa [h1,h2] using e4
   exact (SeqAt.EqAt.same (.ref a):SeqAt.EqAt A s _ _ _) prog w _ _ (key true (YAl this).symm)
  ·have R:=SeqAt.RcAt.lists (A:=A) (s:=s) (e:=λj=>x.2.getD j 0 == y.2.getD j 0) hl hl2 (by rw [hi.1,hi2.1];exact hsz) hu λj h1 h2=>by
    obtain ⟨t3,e3⟩:=hi.2 j h1;obtain ⟨t4,e4⟩:=hi2.2 j h2;rw [e3,e4];exact SeqAt.EqAt.int_int _ _ _ _
   rw [hi.1,zo1 hsz] at R;exact SeqAt.EqAt.of_refs z R prog w _ _ (key _ rfl)
 ·rw [if_neg e] at c;rw [show (x.1 == y.1) = false by simp [e]];exact kat_no (oneLt_int c)
end
section
variable {X:Cx}
def zn3 (K:PySem.W.Frag) (H:Hp) (u:V) (x:Pr):Prop:=∃ t a,u = .ref t/\SqT K H t [.int x.1,.ref a]/\SqL K H a (x.2.map V.int)/\x.1 = x.2.length
theorem znp:∀ {ns:List Int} {its:List Value},Vals (ns.map V.int) its->ziI its.toArray ns:=λ{ns its} r=>by
 have hl:=r.length;rw [YAd] at hl;refine ⟨by rw [YAq];exact hl.symm,λj h=>?_⟩;have hj:j < ns.length:=by rw [YAq] at h;omega
 obtain ⟨u,hu,ru⟩:=r.get (i:=j) (x:=.int (ns.getD j 0)) (by rw [YAu,YAe hj,YAt,YAe hj];rfl);obtain ⟨t,rfl⟩:=ru;refine ⟨t,?_⟩
 have:=YAi.mp hu
 obtain ⟨_,e⟩:=this
 simpa using e
theorem zlt {pins:List (Addr × Obj)} {σ:St} {H:Hp} {s:Shared} {u:V} {v:Value} {x:Pr} (I:Inv X pins σ H s) (r:RelV u v) (p:zn3 X.K H u x):PairAt s.heap v x:=by
 obtain ⟨t,a,rfl,ht,ha,e⟩:=p;cases r;obtain ⟨its,rv,hp,_⟩:=I.tuple ht;obtain ⟨v1,v2,rfl,r1,r2⟩:=znb rv;obtain ⟨tk,rfl⟩:=r1;cases r2;obtain ⟨its2,rv2,hl,_⟩:=I.list ha;exact ⟨t,a,tk,its2.toArray,rfl,hp,hl.isList,znp rv2,e⟩
theorem zmq {h:Heap}:∀ {vs:List Value} {ps:List Pr},vs.length = ps.length->(∀ (i:Nat) (v:Value) (x:Pr),vs[i]? = some v->ps[i]? = some x->PairAt h v x)->∃ fs:List Value,fs.length = vs.length/\KatTups h vs fs/\∀ f ∈ fs,∃ n t,f = .int n t
 | [],[],_,_=>⟨[],rfl,.nil,λf h=>by cases h⟩
 | [],_ :: _,e,_=>by cases e
 | _ :: _,[],e,_=>by cases e
 | v :: vs,x :: ps,e,k=>by
  obtain ⟨fs,h1,h2,h3⟩:=zmq (vs:=vs) (ps:=ps) (by simpa using e) λi v x a b=>k (i + 1) v x a b;obtain ⟨t,a,tk,items,rfl,⟨o,ho,hc,n,hd⟩,_⟩:=k 0 v x rfl rfl;refine ⟨.int x.1 tk :: fs,by simp [h1],.cons ho hc hd rfl h2,λf hf=>?_⟩;rcases YAk.mp hf with z | z
  ·exact ⟨_,_,z⟩
  ·exact h3 f z
theorem zhV (hu:X.A.units + 64 < cLine):CallR X (.builtin "sorted") (λvs H Q=>∃ (p:Addr) (us:List V) (ps:List Pr),vs = [.ref p]/\SqL X.K H p us/\us.length = ps.length/\ps.length < 64/\ps.Nodup/\(∀ (i:Nat) (u:V) (x:Pr),us[i]? = some u->ps[i]? = some x->zn3 X.K H u x) /\
  ∀ (l:Addr) (idx:List Nat),H l = none->idx.Perm (List.range ps.length)->(idx.map λi=>ps.getD i (0,[])).Pairwise (λx y=>pLt x y = true)->Q (.ref l) (upd H l (.lst (idx.map λi=>us.getD i .non)))):=by
 intro pins s σ H vs us' Q I r h;obtain ⟨p,us,ps,rfl,hq,hlen,h64,nd,hp,q⟩:=h;obtain ⟨u,rfl,rx⟩:=zdD r;cases rx;obtain ⟨its,rv,pl,hz⟩:=I.list hq;have hil:=rv.length;have pa:∀ (i:Nat) (v:Value) (x:Pr),its[i]? = some v->ps[i]? = some x->PairAt s.heap v x:=λi v x e1 e2=>by
  have hi:i < us.length:=by have:=(YAi.mp e2).1;omega
  obtain ⟨v',e3,r'⟩:=rv.get (YAe hi);rw [e1] at e3;cases e3;exact zlt I r' (hp i _ x (YAe hi) e2)
 have hmem:∀ i,i < its.length->ps.getD i (0,[]) ∈ ps:=λi hi=>by
  have:i < ps.length:=by omega
  rw [YAt,YAe this];exact YBI this
 have at1:∀ (h':Heap),(∀ b o,s.heap.get? b = some o->h'.get? b = some o)->∀ i,i < its.length->PairAt h' (its.getD i Value.none) (ps.getD i (0,[])):=λh' kp i hi=>by
  have hi2:i < ps.length:=by omega
  rw [YAt,YAt,YAe hi,YAe hi2];exact (pa i _ _ (YAe hi) (YAe hi2)).kept kp
 have inj:Inj its.length (λi=>rank ps (ps.getD i (0,[]))):=λi j hi hj e=>by
  have e2:ps.getD i (0,[]) = ps.getD j (0,[]):=Classical.byContradiction λne=>by
   cases z:pLt (ps.getD i (0,[])) (ps.getD j (0,[])) with
   | true=>have:=zhl (hmem i hi) z;simp only at e;omega
   | false=>have:=zhl (hmem j hj) (zmc ne z);simp only at e;omega
  have h1:i < ps.length:=by omega
  have h2:j < ps.length:=by omega
  rw [YAt,YAt,YAe h1,YAe h2] at e2;exact (List.getElem_inj nd).mp e2
 have hun:X.A.in1.in1.units < cLine:=by
  have:X.A.in1.in1.units = X.A.units + 2:=rfl
  omega
 refine zlS (κ:=tuples' true) (key:=λi=>rank ps (ps.getD i (0,[]))) pl.isList (by omega) inj (λh2 h' Q' kp q'=>?_) (λi j h' C hi hj kp c=>?_) λout ⟨idx,pm,pw,eo⟩=>?_
 ·obtain ⟨fs,f1,f2,f3⟩:=zmq (h:=h') (vs:=its) (ps:=ps) (by omega) λi v x e1 e2=>(pa i v x e1 e2).kept kp;refine kat_kind (T:=.type "int") f2 (by omega) (λv hv=>?_) rfl q';obtain ⟨n,t,rfl⟩:=f3 v hv;exact Looks.of_pure rfl
 ·refine zpm hun (at1 h' kp i hi) (at1 h' kp j hj) ?_;rw [<- zkr (hmem i hi) (hmem j hj)];exact c
 ·have hn:H (s.heap.objs.size + 1) = none:=I.hok.fresh (YBA _ _);have hk:∀ b o,s.heap.get? b = some o->(sortedAll s.heap its out.toArray).get? b = some o:=λb o e=>sortedAll_old e;obtain ⟨e,he⟩:=sortedAll_at s.heap its out.toArray;have hil2:its.length = ps.length:=by omega
  rw [hil2] at pm;have hb:∀ i ∈ idx,i < ps.length:=λi hi=>YA4.mp (pm.mem_iff.mp hi);have hle:(idx.map λi=>us.getD i .non).length <= sizeLine:=by rw [YAd,pm.length_eq,YBx,YAR];omega
  have hv:Vals (idx.map λi=>us.getD i .non) out:=by
   rw [eo];clear pm pw hle eo
   induction idx with
   | nil=>exact .nil
   | cons i idx ih=>
    have hi:=hb i YAh;have hi2:i < us.length:=by omega
    obtain ⟨v',e3,r'⟩:=rv.get (YAe hi2);refine .cons ?_ (ih λj hj=>hb j (YAj _ hj));show RelV (us.getD i .non) (its.getD i Value.none);rw [YAt,YAt,YAe hi2,e3];exact r'
  refine ⟨.ref (s.heap.objs.size + 1),upd H (s.heap.objs.size + 1) (.lst (idx.map λi=>us.getD i .non)),I.laid (t':=s.toks) hk (YBA _ _) ⟨hle,out,e,hv,by simpa [seqObj] using he⟩,rfl,q _ idx hn pm ?_⟩;rw [List.pairwise_map];refine pw.imp_of_mem λ{i j} hi hj l=>?_;rw [<- zkr (hmem i (by rw [hil2];exact hb i hi)) (hmem j (by rw [hil2];exact hb j hj))];exact YAl l
end
end L2
namespace Fd
open PySem L2
section
variable {X:Cx} {c:Bk}
def prP (b:Bool) (x:Pr):D:=.tup [.int x.1,.lst b (x.2.map D.int)]
def zgp:FL
 | [.lst _ xs],Q=>∃ (b:Bool) (ps:List Pr),xs = ps.map (prP b)/\ps.length < 64/\ps.Nodup/\(∀ x ∈ ps,x.1 = x.2.length)/\∀ qs:List Pr,qs.Perm ps->qs.Pairwise (λx y=>pLt x y = true)->Q (.lst true (qs.map (prP b)))
 | _,_=>False
theorem zoM:zdb zgp:=λds Q Q' k q=>by
 unfold zgp at q ⊢;split at q
 ·obtain ⟨b,ps,e,h1,h2,h3,q⟩:=q;exact ⟨b,ps,e,h1,h2,h3,λms a b=>k _ (q ms a b)⟩
 ·exact q.elim
theorem zq2 {G H:Hp} {b:Bool} {x:Pr} {v:V} (gh:Same G H) (h:Rep c G (prP b x) v) (e:x.1 = x.2.length):zn3 c.K H v x:=by
 obtain ⟨t,vs,rfl,ht,hv⟩:=h;obtain ⟨v1,v2,rfl,e1,e2⟩:=zpO hv;have e1:v1 = V.int x.1:=e1;subst e1;obtain ⟨a,ws,rfl,ha,_,hw⟩:=e2;rw [reps_ints.mp hw] at ha;exact ⟨t,a,rfl,zaM gh ht,SqL.of (gh _ _ ha),e⟩
theorem zfD {ps:List Pr} {idx:List Nat} (h:idx.Perm (List.range ps.length)):(idx.map λi=>ps.getD i (0,[])).Perm ps:=by
 have e:(List.range ps.length).map (λi=>ps.getD i (0,[])) = ps:=by
  apply YBB
  ·simp
  ·intro i h1 h2;simp [h2]
 have:=h.map λi=>ps.getD i (0,[])
 rwa [e] at this
theorem znF:zfV c zgp (λvs H Q=>∃ (p:Addr) (us:List V) (ps:List Pr),vs = [.ref p]/\SqL c.K H p us/\us.length = ps.length/\ps.length < 64/\ps.Nodup/\(∀ (i:Nat) (u:V) (x:Pr),us[i]? = some u->ps[i]? = some x->zn3 c.K H u x) /\
  ∀ (l:Addr) (idx:List Nat),H l = none->idx.Perm (List.range ps.length)->(idx.map λi=>ps.getD i (0,[])).Pairwise (λx y=>pLt x y = true)->Q (.ref l) (upd H l (.lst (idx.map λi=>us.getD i .non)))):=by
 intro H G ds vs Q gh bx h0 rv q;unfold zgp at q;split at q
 ·obtain ⟨b,ps,rfl,h1,h2,h3,q⟩:=q;obtain ⟨v,rfl,a,us,rfl,ha,_,hw⟩:=zhc rv;have hl:=hw.length;rw [YAd] at hl;refine ⟨a,us,ps,rfl,SqL.of (gh _ _ ha),hl.symm,h1,h2,λi u x e1 e2=>?_,λl idx hl' pm pw=>?_⟩
  ·obtain ⟨v',e3,r⟩:=hw.get (i:=i) (d:=prP b x) (by rw [YAu,e2];rfl);rw [e1] at e3;cases e3;exact zq2 gh r (h3 x (YAA e2))
  ·refine q _ (zfD pm) pw (.ref l) _ _ (Stp.new gh bx hl') ⟨l,_,rfl,zad,λ_=>h0 l hl',?_⟩;have hg:=zap gh hl';have hw':=hw.mono (zbX (o:=.lst (idx.map λi=>us.getD i .non)) hg);have hb:∀ i ∈ idx,i < ps.length:=λi hi=>YA4.mp (pm.mem_iff.mp hi);clear pm pw;generalize upd G l _ = G' at hw'
   induction idx with
   | nil=>rfl
   | cons i idx ih=>
    have hi:=hb i YAh;obtain ⟨v',e3,r⟩:=hw'.get (i:=i) (d:=prP b (ps.getD i (0,[]))) (by rw [YAu,YAe hi,YAt,YAe hi];rfl);exact ⟨us.getD i .non,_,rfl,by rw [YAt,e3];exact r,ih λj hj=>hb j (YAj _ hj)⟩
 ·exact q.elim
theorem zo6 {R:WL} (hR:DA X c [e] R) (hg:Gl X "sorted" := by rfl) (he:starEach [e] X.env = (false,eval e X.env) :: starEach [] X.env:=by rfl) (hK:c.K = X.K:=by rfl) (hm:X.mg "sorted" = none:=by decreasing_trivial) (hu:X.A.units + 64 < cLine:=by decreasing_trivial):DE X c (.Call (.Name "sorted" p) [e] [] pos) (cbW zgp R):=
 zho zoM (zhV hu) (hK ▸ znF) hm PyProof.Rows.boot_sorted hR hg (by decide) (by decide) he rfl
end
end Fd
namespace L2
open PySem PySem.Spec PyProof.Rows
theorem zmT (r:Addr) (a b c i:Int) (t u v z:Tok):Meets (Builtin.«range.__contains__» ⟨[.ref r,.int i z],[]⟩) (λ_ R s=>s.heap.get? r = some { cls:=.type "range",dict:=none,data:=.fields #[.int a t,.int b u,.int c v],slots:=#[] }/\R (.ok (.ret (.bool (Builtin.Range.rangePlace? a b c i).isSome))) s):=
 .of_wp λprog w A R s h=>by obtain ⟨hp,g,d,tk,os⟩:=s;obtain ⟨hl,h⟩:=h;wp_walk;exact ⟨_,rfl,h⟩
theorem zqb (j i:Int):(Builtin.Range.rangePlace? 0 j 1 i).isSome = (decide (0 <= i) && decide (i < j)):=by
 unfold Builtin.Range.rangePlace?;by_cases h0:0 <= i <;> by_cases h1:i < j <;> simp [h0,h1,Int.emod_one]
def rRng (i j:Int):Bool:=decide (0 <= i) && decide (i < j)
section
variable {X:Cx}
theorem zoa {pins:List (Addr × Obj)} {s:Shared} {σ:St} {H:Hp} {Q:VK} {i j:Int} {z y:Tok} {Q':Value->Shared->Prop} (I:Inv X pins σ H s)
  (q:∀ s',Inv X pins σ H s'->Q' (.bool (!rRng i j)) s') :
  wpAny (model X.prog X.w) X.A (call (.type "range") [.int j y]) (λu s'=>wpAny (model X.prog X.w) X.A (compareOp .NotIn (.int i z) u) Q' X.xe s') X.xe s:=by
 refine call_range_1 ?_;have I1:=I.kept (h':=s.heap.push { cls:=.type "range",data:=.fields #[.int 0 s.toks,.int j y,.int 1 (s.toks + 1)] }) (t':=s.toks + 1 + 1) λb o e=>YAc _ e;have hh:(s.heap.push { cls:=.type "range",data:=.fields #[.int 0 s.toks,.int j y,.int 1 (s.toks + 1)] }).get? s.heap.objs.size = some { cls:=.type "range",data:=.fields #[.int 0 s.toks,.int j y,.int 1 (s.toks + 1)] }:=YAp _ rfl;show wpAny _ _ (do return Value.bool (!(<- contains _ _))) _ _ _;refine YAa (wpAny_contains_slot ⟨_,hh,rfl⟩ F.slot_range_contains (call_meets (Q:=λv s'=>wpAny _ X.A (truthy v) (λb s''=>wpAny _ X.A (pure (Value.bool (!b))) Q' X.xe s'') X.xe s') F.slot_range_contains ⟨_,hh,rfl⟩ F.entry_range_contains (F.args_range_contains_2 _ _) (zmT _ 0 j 1 i _ _ _ z) ⟨hh,?_⟩));refine YAf (YAf ?_);rw [zqb];exact q _ I1
def tNiR (ta:TE) (tb:TA):TE:=λσ H Q=>ta σ H λx H1=>tb σ H1 λvs H2=>∃ i j,x = .int i/\vs = [.int j]/\Q (.bl (!rRng i j)) H2
theorem zqG {a b:Expr} {ta:TE} {tb:TA} {p pos pos2:Pos} (hg:Gl X "range") (hm:X.mg "range" = none) (ha:PE X a ta) (hb:PA X [b] tb) (hs:starEach [b] X.env = [(false,eval b X.env)]:=by rfl):PT X (.Compare a [.NotIn] [.Call (.Name "range" p) [b] [] pos] pos2) (znE (tNiR ta tb)):=by
 intro pins s σ H Q I h;refine wpAny_isTrue_Compare1 (thn (ha pins s σ H _ I h) λv s1 ⟨x,H1,I1,r1,q1⟩=>?_) (by with_unfolding_all rfl);refine Call_ (zfm I1 hg hm boot_range (PyProof.Rows.callWith_type1 (thn (hb pos pins s1 σ H1 _ I1 q1) λus s2 ⟨vs,H2,I2,r2,q2⟩=>?_) hs rfl));obtain ⟨i,j,rfl,rfl,k,e,q⟩:=q2;obtain ⟨z,rfl⟩:=r1;cases r2 with
 | cons r rr=>
  cases rr;obtain ⟨t,rfl⟩:=r;cases e;exact zoa (Q:=λ_ _=>True) I2 λs' I'=>YBa ⟨H2,I',q⟩
end
end L2
namespace Fd
open PySem L2
section
variable {X:Cx} {c:Bk}
def nirW (A B:WE):WE:=λρ Q=>A ρ λx=>B ρ λy=>match x,y with | .int i,.int j=>Q (.bl (!rRng i j)) | _,_=>False
theorem zjK {A B:WE} (mA:za9 A) (mB:za9 B):za9 (nirW A B):=λρ Q Q' k q=>mA ρ _ _ (λx q1=>mB ρ _ _ (λy q2=>by
 split at q2
 ·exact k _ q2
 ·exact q2.elim) q1) q
theorem znW {A B:WE} {b:Expr} (mA:za9 A) (mB:za9 B) (σ:St) (H:Hp) (Q:VK) (h:tD c (nirW A B) σ H Q):tNiR (tD c A) (λσ H Q=>tD c B σ H λx H'=>Q [x] H') σ H Q:=by
 obtain ⟨ρ,G,R,q⟩:=h;refine ⟨ρ,G,R,mA ρ _ _ (λx q1 u H1 G1 t1 e1=>⟨ρ,G1,R.step t1,mB ρ _ _ (λy q2 v H2 G2 t2 e2=>?_) q1⟩) q⟩;split at q2
 ·rename_i i j
  cases e1;cases e2;exact ⟨i,j,rfl,rfl,q2 _ H2 G2 (t1.trans t2) rfl⟩
 ·exact q2.elim
theorem zpe {b:Expr} {t:TE} (h:PE X b t) (hs:starEach [b] X.env = (false,eval b X.env) :: starEach [] X.env):PA X [b] (λσ H Q=>t σ H λx H'=>Q [x] H'):=zah h zat hs
theorem znH {A B:WE} (hA:DE X c a A) (hB:DE X c b B) (hg:Gl X "range" := by rfl) (hs:starEach [b] X.env = [(false,eval b X.env)]:=by rfl) (hm:X.mg "range" = none:=by decreasing_trivial):DT X c (.Compare a [.NotIn] [.Call (.Name "range" p) [b] [] pos] pos2) (blW (nirW A B)):=
 ⟨zfv (zjK hA.mono hB.mono),zfH (zqG hg hm hA.pe (zpe hB.pe hs) hs) λσ H Q h=>by
  obtain ⟨ρ,G,R,q⟩:=zjd (zjK hA.mono hB.mono) σ H Q h;exact znW (b:=b) hA.mono hB.mono σ H _ ⟨ρ,G,R,q⟩⟩
def extW (i:Nat) (A:WE):WS:=λE ρ=>match ρ[i]? with
 | some (.own xs)=>A ρ λd=>match d with
  | .lst _ ys=>xs.length + ys.length <= 100000/\E.nx (ρ.set i (.own (xs ++ ys)))
  | _=>False
 | _=>False
theorem zrZ (i:Nat) {x:Str} {A:WE} {apos cpos:Pos} (hA:DE X c e A) (hN:X.N[i]? = some x:=by rfl) (hv:Vis X.env.scope x:=by first | exact Or.inl rfl | exact Or.inr (Or.inl rfl) | exact Or.inr (Or.inr rfl))
  (hd:(x == ("__debug__" : Str)) = false:=by decide) (hcd:(x == ("__classdict__" : Str)) = false:=by decide)
  (hbase:attributeBase (.Name x p) "extend" X.env (eval (.Name x p) X.env) = eval (.Name x p) X.env:=by rfl)
  (hfew:((backTo cpos (starEach [e] X.env)).all (λx=>!x.1) && (backToKw cpos (keywordEach [] X.env)).all (λx=>x.1.isSome)
   && decide (([e]:List Expr).length + ([]:List Keyword).length + (if ([]:List Keyword).isEmpty then 0 else 1) < 30)) = true:=by rfl)
  (hline:(apos.endLine == cpos.line) = true:=by rfl) (hs:starEach [e] X.env = (false,eval e X.env) :: starEach [] X.env:=by rfl)
  (hsw:swapsWith (.Call (.Attribute (.Name x p) "extend" apos) [e] [] cpos) none pos.line X.env = pure false:=by rfl):DS X c (.Expr (.Call (.Attribute (.Name x p) "extend" apos) [e] [] cpos) pos) (extW i A) where
 mono:=λE E' ρ l q=>by
  unfold extW at q ⊢;split at q
  ·refine hA.mono ρ _ _ (λd z=>?_) q;split at z
   ·exact ⟨z.1,l.nx _ z.2⟩
   ·exact z.elim
  ·exact q.elim
 ps:=zbV (zcV (zkI YBt PySem.F.slot_list_extend PySem.F.type_list_extend zlL (zdV hN hv hd hcd) (zah hA.pe zat hs) hbase hfew hline hs rfl) hsw) λD σ H ⟨ρ,G,r,q⟩=>by
  unfold extW at q;split at q
  ·rename_i xs ek
   obtain ⟨a,vs,h1,h2,h3,h4,h5,h6⟩:=r.slot i _ ek;refine ⟨.ref a,h1,.inl ⟨rfl,vs,SqL.of h2⟩,ρ,G,r,hA.mono ρ _ _ (λd z w H' G' t e=>?_) q⟩;split at z
   ·rename_i n ys
    obtain ⟨l,us,rfl,hl,_,hu⟩:=e;refine ⟨a,l,vs,us,rfl,rfl,t.fr a _ h5 h2,t.gh _ _ hl,?_,?_⟩
    ·rw [<- h6.length,<- hu.length];exact small5 z.1
    ·exact z.2 _ _ G' ((r.step t).write ek h1 ((h6.mono t.gg).append hu)) t.gg
   ·exact z.elim
  ·exact q.elim
end
def ziH:Fn:=fnW 6 ((seqW (asgW (.tp 4 (.cons (.nm 2) (.cons (.nm 3) (.cons (.nm 4) (.cons (.nm 5) .nil))))) (vW 0))
  (seqW (ifS (blW (binW eqD (vW 1) (vW 2))) (retW (tupW (zab (vW 3) (zab (vW 4) nilA)))) nilS)
  (seqW (ifS (blW (binW eqD (vW 1) (vW 3))) (retW (tupW (zab (vW 2) (zab (unW negD (vW 4)) nilA)))) nilS)
  (retW (kW .non))))))
def zel:Fn:=fnW 8 ((seqW (ifS (blW (binW ltD (ziS (vW 2)) (zeb 2))) (retW (kW .non)) nilS)
  (seqW (asgW (.nm 3) (vW 1))
  (seqW (asgW (.nm 4) (kW (.int 0)))
  (seqW (forW (seqI (vW 2)) (.nm 5) (seqW (ifS (orT (blW (binW ltD (vW 5) (kW (.int 0)))) (blW (binW geD (vW 5) (zeb 0)))) (retW (kW .non)) nilS)
  (seqW (asgW (.nm 6) (zaw 2 ziH (zab (ixvW 0 (vW 5)) (zab (vW 3) nilA))))
  (seqW (ifS (blW (isNW (vW 6))) (retW (kW .non)) nilS)
  (seqW (asgW (.tp 2 (.cons (.nm 3) (.cons (.nm 7) .nil))) (vW 6))
  (augW 4 (vW 7)))))))
  (retW (tupW (zab (vW 3) (zab (vW 4) nilA)))))))))
def zb6:Fn:=fnW 4 ((seqW (ifS (blW (binW eqD (vW 0) (kW (.str "ring")))) (retW (andW (binW eqD (vW 2) (vW 1)) (binW neD (vW 3) (kW (.int 0))))) nilS)
  (retW (binW eqD (vW 0) (kW (.str "line"))))))
def zaz:Nat->Fn
 | 0=>λ_ _=>False
 | n + 1=>fnW 14 ((seqW (asgW (.tp 4 (.cons (.nm 5) (.cons (.nm 6) (.cons (.nm 7) (.cons (.nm 8) .nil))))) (vW 2))
  (seqW (asgW (.nm 9) (zaw 3 zel (zab (vW 1) (zab (vW 6) (zab (vW 7) nilA)))))
  (seqW (ifS (orT (blW (nirW (vW 6) (vW 0))) (blW (isNW (vW 9)))) (retW (kW (.bl false))) nilS)
  (seqW (asgW (.tp 2 (.cons (.nm 10) (.cons (.nm 11) .nil))) (vW 9))
  (seqW (asgW (.nm 12) (zaw 2 za4 (zab (vW 1) (zab (vW 7) nilA))))
  (seqW (ifS (orT (notT (truW (zaw 4 zb6 (zab (vW 5) (zab (vW 6) (zab (vW 10) (zab (vW 11) nilA))))))) (truW (cbW anyF (zab (valW (zaE [none,some 4] (seqI (vW 12)) (.nm 0) noIf (binW (inD false) (vW 0) (vW 1)))) nilA)))) (retW (kW (.bl false))) nilS)
  (seqW (asgW (.nm 13) (ifW (blW (binW gtD (vW 3) (kW (.int 0)))) (vW 12) (valW (lstW nilA))))
  (seqW (ifS (blW (binW neD (valW (zaE [none,none] (seqI (vW 8)) (.tp 2 (.cons (.nm 0) (.cons (.nm 1) .nil))) noIf (vW 0))) (vW 13))) (retW (kW (.bl false))) nilS)
  (retW (cbW allF (zab (valW (zaE [none,none,some 0,some 1,some 3,some 4] (seqI (vW 8)) (.tp 2 (.cons (.nm 0) (.cons (.nm 1) .nil))) noIf (zaw 5 (zaz n) (zab (vW 2) (zab (vW 3) (zab (vW 1) (zab (binW subD (vW 4) (kW (.int 1))) (zab (binW addD (vW 5) (valW (lstW (zab (vW 0) nilA)))) nilA)))))))) nilA))))))))))))
def zct:Fn:=fnW 4 ((retW (zaw 5 (zaz 6) (zab (vW 0) (zab (vW 1) (zab (vW 2) (zab (vW 3) (zab (valW (lstW nilA)) nilA))))))))
def zaX:Nat->Fn
 | 0=>λ_ _=>False
 | n + 1=>fnW 8 ((seqW (asgW (.tp 4 (.cons (.nm 1) (.cons (.nm 2) (.cons (.nm 3) (.cons (.nm 4) .nil))))) (vW 0))
  (seqW (ownW 5 (lstW (zab (tupW (zab (vW 1) (zab (vW 2) (zab (vW 3) nilA)))) nilA)))
  (seqW (forW (seqI (vW 4)) (.tp 2 (.cons (.nm 6) (.cons (.nm 7) .nil))) (extW 5 (zaw 1 (zaX n) (zab (vW 7) nilA))))
  (frzW 5 (retW (vW 5)))))))
def zbH:Fn:=fnW 4 ((seqW (ifS (notT (truW (zaw 4 zct (zab (vW 0) (zab (vW 1) (zab (vW 2) (zab (vW 3) nilA))))))) (retW (kW (.bl false))) nilS)
  (retW (cbW allF (zab (valW (zaE [none,none,none] (seqI (zaw 1 (zaX 6) (zab (vW 2) nilA))) (.tp 3 (.cons (.nm 0) (.cons (.nm 1) (.cons (.nm 2) .nil)))) noIf (binW eqD (vW 0) (kW (.str "ring"))))) nilA)))))
def zoT:Option (Int × Int)->D
 | none=>.non
 | some (a,b)=>.tup [.int a,.int b]
def zgI (rs:List Rn) (mark:Int) (line:List Int):Option (Int × Int):=if (zbt line).length < line.length then none else Fen.walkF rs mark 0 line
theorem znK {rs:List Rn} {mark:Int} {line:List Int} {o:Int × Int} (h:zgI rs mark line = some o):∀ z ∈ line,0 <= z/\z < (rs.length:Int):=by
 unfold zgI at h;split at h
 ·cases h
 ·exact Fen.zeX h
theorem zoc (r:Rn) (m:Int):ziH [runD r,.int m] (· = zoT (Fen.stepR r m)):=by
 unfold ziH fnW zaH;rw [YAb,YAb,zlN,zaq];refine ⟨rfl,?_⟩;refine ⟨zaJ _ _,?_⟩;rw [zbl];unfold Fen.stepR;by_cases h1:m = r.one
 ·rw [YAl h1,if_pos h1];exact ⟨by show 2 <= 100000;decide,rfl⟩
 ·rw [YAz h1,if_neg h1];refine ⟨zaJ _ _,?_⟩;rw [zbl];by_cases h2:m = r.other
  ·rw [YAl h2,if_pos h2];exact ⟨by show 2 <= 100000;decide,rfl⟩
  ·rw [YAz h2,if_neg h2];rfl
theorem zkA (a:Bool) (rs:List Rn) (mark:Int) (line:List Int) (hl:line.length < 64):zel [.lst a (rs.map runD),.int mark,.tup (line.map D.int)] (· = zoT (zgI rs mark line)):=by
 unfold zel fnW zaH;rw [YAb,YAb,YAb,zaS,zcu,zaq];refine ⟨line,rfl,hl,?_⟩;show if decide (((zbt line).length:Int) < (((line.map D.int).length:Nat):Int)) = true then _ else _;rw [YAd];unfold zgI;by_cases hd:(zbt line).length < line.length
 ·rw [YAl (by omega),if_pos rfl,if_pos hd];rfl
 rw [YAz (by omega),if_neg hd];show zbO _ _ _ (line.map D.int) _;generalize ho:Fen.walkF rs mark 0 line = o;refine zbb (λrest ρ=>∃ (todo:List Int) (here h:Int) (s5 s6 s7:Sl),ρ = [.val (.lst false (rs.map runD)),.val (.int mark),.val (.tup (line.map D.int)),.val (.int here),.val (.int h),s5,s6,s7]/\rest = todo.map D.int/\Fen.walkF rs here h todo = o) ?_ ?_ _ _
  ⟨line,mark,0,.un,.un,.un,rfl,rfl,ho⟩
 ·rintro x rest ρ E' hn hc hr hb ⟨todo,here,h,s5,s6,s7,rfl,e1,w⟩;cases todo with
  | nil=>cases e1
  | cons z todo=>
   rw [YAb] at e1;injection e1 with e1 e2
   subst e1;unfold Fen.walkF at w;show if decide (z < 0) = true then _ else _;by_cases z0:0 <= z
   ·rw [YAz (by omega),if_neg YAx];show if decide ((((rs.map runD).length:Nat):Int) <= z) = true then _ else _;rw [YAd];by_cases z1:z < (rs.length:Int)
    ·rw [YAz (by omega),if_neg YAx];rw [if_pos ⟨z0,z1⟩] at w;refine zcH z0 z1 ⟨rfl,zaT (zoc _ here) λd hd=>?_⟩;subst hd;generalize Fen.stepR (Fen.runAt rs z) here = st at w;cases st with
     | none=>
      subst w;exact hr _ rfl
     | some p=>
      obtain ⟨e,r⟩:=p;exact ⟨rfl,hn _ ⟨todo,_,_,_,_,_,rfl,e2,w⟩⟩
    ·rw [YAl (by omega),if_pos rfl];rw [if_neg (by omega)] at w;subst w;exact hr _ rfl
   ·rw [YAl (by omega),if_pos rfl];rw [if_neg (by omega)] at w;subst w;exact hr _ rfl
 ·rintro ρ ⟨todo,here,h,s5,s6,s7,rfl,e1,w⟩;cases todo with
  | cons z todo=>cases e1
  | nil=>
   subst w;exact ⟨by show 2 <= 100000;decide,rfl⟩
def zhb:List Str:=["ring","line","Ring",""]
def fitB (kind:Str) (mark e t:Int):Bool:=if kind = "ring" then decide (e = mark) && !decide (t = 0) else decide (kind = "line")
theorem zqC {P:Str->Prop} {kind:Str} (h:kind ∈ zhb) (h1:P "ring") (h2:P "line") (h3:P "Ring") (h4:P ""):P kind:=by
 unfold zhb at h;rcases YAk.mp h with rfl | h
 ·exact h1
 rcases YAk.mp h with rfl | h
 ·exact h2
 rcases YAk.mp h with rfl | h
 ·exact h3
 rcases YAk.mp h with rfl | h
 ·exact h4
 cases h
theorem zli {kind:Str} (h:kind ∈ zhb):(eqOk (.str kind) (.str "ring")/\eqB (.str kind) (.str "ring") = decide (kind = "ring"))/\(eqOk (.str kind) (.str "line")/\eqB (.str kind) (.str "line") = decide (kind = "line"))/\inOk (.str kind) [.str "ring",.str "line"]/\inB (.str kind) [.str "ring",.str "line"] = (decide (kind = "ring") || decide (kind = "line")):=by
 refine zqC (P:=λkind=>(eqOk (.str kind) (.str "ring")/\eqB (.str kind) (.str "ring") = decide (kind = "ring"))/\(eqOk (.str kind) (.str "line")/\eqB (.str kind) (.str "line") = decide (kind = "line"))/\inOk (.str kind) [.str "ring",.str "line"]/\inB (.str kind) [.str "ring",.str "line"] = (decide (kind = "ring") || decide (kind = "line"))) h ?_ ?_ ?_ ?_ <;>
  exact ⟨⟨zg8 _ _ (by decide +kernel) (by decide +kernel),by decide +kernel⟩,⟨zg8 _ _ (by decide +kernel) (by decide +kernel),by decide +kernel⟩,⟨by decide +kernel,by decide +kernel,by decide +kernel⟩,by decide +kernel⟩
theorem zgF {kind:Str} (hk:kind ∈ zhb) (mark e t:Int):zb6 [.str kind,.int mark,.int e,.int t] (· = .bl (fitB kind mark e t)):=by
 unfold zb6 fnW zaH;rw [YAb,YAb,YAb,YAb,zfw,zaq,zaq,zaq];obtain ⟨⟨k1,k2⟩,⟨k3,k4⟩,_⟩:=zli hk;refine ⟨k1,?_⟩;rw [k2];unfold fitB;by_cases h:kind = "ring"
 ·rw [YAl h,if_pos h];refine ⟨zaJ _ _,?_⟩;rw [zbl];by_cases h2:e = mark
  ·rw [YAl h2];refine ⟨zaJ _ _,?_⟩;rw [zbl];rfl
  ·rw [YAz h2];rfl
 ·rw [YAz h,if_neg h];refine ⟨k3,?_⟩;rw [k4]
def prQ (p:Int × D):D:=.tup [.int p.1,p.2]
def ppD (kind:Str) (mark:Int) (line:List Int) (rest:List (Int × D)):D:=.tup [.str kind,.int mark,.tup (line.map D.int),.tup (rest.map prQ)]
def PpIs (w:Nat):Nat->D->Prop
 | 0,_=>False
 | k + 1,d=>∃ kind mark line rest,kind ∈ zhb/\line.length < 64/\rest.length <= w/\(∀ p ∈ rest,PpIs w k p.2)/\d = ppD kind mark line rest
def unI (ds:List D):List Int:=ds.map λd=>match d with | .int i=>i | _=>0
theorem zmR (l:List Int):unI (l.map D.int) = l:=by unfold unI;rw [YAH];exact List.map_id' l
def sn:D->D | .tup [_,q]=>q | d=>d
def fst1:D->Int | .tup [.int h,_]=>h | _=>0
abbrev Ln:=Str × Int × List Int
def zbQ:Nat->D->List Ln
 | k + 1,.tup [.str kind,.int mark,.tup line,.tup rest]=>(kind,mark,unI line) :: rest.flatMap λd=>zbQ k (sn d)
 | _,_=>[]
theorem zdM (k:Nat) (kind:Str) (mark:Int) (line:List Int) (rest:List (Int × D)):zbQ (k + 1) (ppD kind mark line rest) = (kind,mark,line) :: rest.flatMap λp=>zbQ k p.2:=by
 rw [show zbQ (k + 1) (ppD kind mark line rest) = (kind,mark,unI (line.map D.int)) :: (rest.map prQ).flatMap (λd=>zbQ k (sn d)) from rfl,zmR,List.flatMap_map];rfl
def zi7 (n:Nat) (rs:List Rn) (many:Int) (struck:List Int) (kind:Str) (mark:Int) (line hs:List Int):Bool:=match zgI rs mark line with
 | none=>false
 | some (e,t)=>rRng mark n && (fitB kind mark e t && (!(line.any λz=>struck.contains (Fen.runAt rs z).hand) && decide (hs = if 0 < many then za2 rs line else [])))
def zbA (n:Nat) (rs:List Rn):Nat->Int->List Int->D->Bool
 | k + 1,many,struck,.tup [.str kind,.int mark,.tup line,.tup rest]=>zi7 n rs many struck kind mark (unI line) (rest.map fst1) && rest.all λd=>zbA n rs k (many - 1) (struck ++ [fst1 d]) (sn d)
 | _,_,_,_=>false
theorem zeV (n:Nat) (rs:List Rn) (k:Nat) (many:Int) (struck:List Int) (kind:Str) (mark:Int) (line:List Int) (rest:List (Int × D)) :
  zbA n rs (k + 1) many struck (ppD kind mark line rest) = (zi7 n rs many struck kind mark line (rest.map (·.1)) && rest.all λp=>zbA n rs k (many - 1) (struck ++ [p.1]) p.2):=by
 rw [show zbA n rs (k + 1) many struck (ppD kind mark line rest) = (zi7 n rs many struck kind mark (unI (line.map D.int)) ((rest.map prQ).map fst1) && (rest.map prQ).all λd=>zbA n rs k (many - 1) (struck ++ [fst1 d]) (sn d)) from rfl,zmR,YAH,List.all_map];rfl
theorem PpIs.old {w:Nat}:∀ {k:Nat} {d:D},PpIs w k d->d.old = d
 | k + 1,_,⟨kind,mark,line,rest,_,_,_,hr,e⟩=>by
  have:(rest.map prQ).map D.old = rest.map prQ:=by
   rw [YAH];refine YA7 λp hp=>?_;show D.old (.tup [.int p.1,p.2]) = _;rw [zgD,zaq,(hr p hp).old];rfl
  rw [e];unfold ppD;rw [zg2,zfw,zaq,zcu,D.old,this]
def cnt (w:Nat):Nat->Nat
 | 0=>0
 | k + 1=>1 + w * cnt w k
theorem zlg {α β:Type} {f:α->List β} {c:Nat}:∀ {xs:List α},(∀ x ∈ xs,(f x).length <= c)->(xs.flatMap f).length <= xs.length * c
 | [],_=>by simp
 | x :: xs,h=>by
  have:=zlg (xs:=xs) λy hy=>h y (YAj _ hy)
  have h1:=h x YAh;rw [YBR,YAs,YAE,Nat.succ_mul];omega
theorem zfh {w:Nat}:∀ {k:Nat} {d:D},PpIs w k d->(zbQ k d).length <= cnt w k
 | k + 1,_,⟨kind,mark,line,rest,_,_,hl,hr,e⟩=>by
  subst e;rw [zdM,YAE]
  have:=zlg (f:=λp:Int × D=>zbQ k p.2) (xs:=rest) λp hp=>zfh (hr p hp)
  have h2:=Nat.mul_le_mul_right (cnt w k) hl;show _ <= 1 + w * cnt w k;omega
theorem zeG (w:Nat):∀ k,cnt w k <= cnt w (k + 1)
 | 0=>by show 0 <= _;exact YAF _
 | k + 1=>by
  have:=Nat.mul_le_mul_left w (zeG w k)
  show 1 + w * cnt w k <= 1 + w * cnt w (k + 1);omega
def lnD (x:Ln):D:=.tup [.str x.1,.int x.2.1,.tup (x.2.2.map D.int)]
theorem zig {w:Nat}:∀ (k N:Nat) (d:D),PpIs w k d->k <= N->cnt w k <= 100000->zaX N [d] (· = .lst true ((zbQ k d).map lnD))
 | k + 1,N + 1,d,hp,hN,hc=>by
  unfold zaX fnW zaH;rw [YAb,hp.old];obtain ⟨kind,mark,line,rest,_,_,hl,hr,rfl⟩:=hp;have hlen:=zfh (k:=k + 1) (w:=w) ⟨kind,mark,line,rest,‹_›,‹_›,hl,hr,rfl⟩;rw [zdM] at hlen ⊢;refine ⟨rfl,by show 3 <= 100000;decide,by show 1 <= 100000;decide,?_⟩;show zbO _ _ _ (rest.map prQ) _;refine zbb (λds ρ=>∃ (done todo:List (Int × D)) (s6 s7:Sl),rest = done ++ todo/\ds = todo.map prQ/\ρ = [.val (ppD kind mark line rest),.val (.str kind),.val (.int mark),.val (.tup (line.map D.int)),.val (.tup (rest.map prQ)),.own (((kind,mark,line) :: done.flatMap λp=>zbQ k p.2).map lnD),s6,s7]) ?_ ?_ _ _
   ⟨[],rest,.un,.un,rfl,rfl,rfl⟩
  ·rintro x ds ρ E' hn _ hrt hb ⟨done,todo,s6,s7,e1,e2,rfl⟩;cases todo with
   | nil=>cases e2
   | cons p todo=>
    rw [YAb] at e2;injection e2 with e2 e3
    subst e2;refine ⟨rfl,rfl,zaT (zig k N p.2 (hr p (by rw [e1];simp)) (by omega) (YAK (zeG w k) hc)) λd hd=>?_⟩;subst hd;have e4:rest = (done ++ [p]) ++ todo:=by rw [e1];simp
    refine ⟨?_,hn _ ⟨done ++ [p],todo,.val (.int p.1),.val p.2,e4,e3,?_⟩⟩
    ·rw [YAd,YAd];rw [e4,List.flatMap_append,List.flatMap_append,YAE,YAs,YAs] at hlen;rw [YAE];simp only [YBR,List.flatMap_nil,YA3] at hlen;omega
    ·rw [<- YAy,List.cons_append,List.flatMap_append];simp only [YBR,List.flatMap_nil,YA3];rfl
  ·rintro ρ ⟨done,todo,s6,s7,e1,e2,rfl⟩;cases todo with
   | cons p todo=>cases e2
   | nil=>
    rw [YA3] at e1;subst e1;rfl
theorem zmE {rs:List Rn} {struck line:List Int}:((za2 rs line).any λh=>struck.contains h) = (line.any λz=>struck.contains (Fen.runAt rs z).hand):=by
 rw [YBP,List.any_eq_true,List.any_eq_true];constructor
 ·rintro ⟨h,hh,e⟩
  have:=(zaK _ _).mp hh
  rw [YAH] at this;obtain ⟨z,hz,rfl⟩:=YAD.mp this;exact ⟨z,hz,e⟩
 ·rintro ⟨z,hz,e⟩;exact ⟨_,(zaK _ _).mpr (by rw [YAH];exact YAD.mpr ⟨z,hz,rfl⟩),e⟩
theorem zpc (rest:List (Int × D)):(rest.map λp=>D.int p.1) = (rest.map (·.1)).map D.int:=by rw [YAH];rfl
theorem zkl {n:Nat} {rs:List Rn} {w:Nat} (hw:w <= 1000):∀ (k N:Nat) (a b:Bool) (many:Int) (struck:List Int) (d:D),PpIs w k d->k <= N->struck.length + k <= 900 ->
  zaz N [.int n,.lst a (rs.map runD),d,.int many,.lst b (struck.map D.int)] (· = .bl (zbA n rs k many struck d))
 | k + 1,N + 1,a,b,many,struck,d,hp,hN,hs=>by
  unfold zaz fnW zaH;rw [YAb,YAb,YAb,YAb,YAb,hp.old,zaq,zaq,zaS,zcM];obtain ⟨kind,mark,line,rest,hk,hl,hr,hq,rfl⟩:=hp;rw [zeV];refine ⟨rfl,rfl,zaT (zkA false rs mark line hl) λd hd=>?_⟩;subst hd;show if (!rRng mark n) = true then _ else _;unfold zi7;cases hwk:zgI rs mark line with
  | none=>
   cases rRng mark n
   ·rfl
   ·rfl
  | some p=>
   obtain ⟨e,t⟩:=p;dsimp only;cases rRng mark n
   ·rfl
   have hb:=znK hwk;have hlh:=zeu (rs:=rs) (line:=line);refine ⟨rfl,rfl,zaT (zdq false rs line hl hb) λd hd=>?_⟩;subst hd;refine ⟨rfl,zaT (zgF hk mark e t) λd hd=>?_⟩;subst hd;show if (!fitB kind mark e t) = true then _ else _;cases fitB kind mark e t
   ·rfl
   refine ⟨by rw [YAd];omega,zaU D.int (λh=>.bl (struck.contains h)) (za2 rs line) (λh hh Y N y=>zlE (n:=false) y) (zkc (f:=λh=>struck.contains h) (n:=true) ?_)⟩;rw [zmE];show if (line.any λz=>struck.contains (Fen.runAt rs z).hand) = true then _ else _;cases (line.any λz=>struck.contains (Fen.runAt rs z).hand)
   rotate_left
   ·rfl
   have tail:∀ hs':List Int,seqW (ifS (blW (binW neD (valW (zaE [none,none] (seqI (vW 8)) (.tp 2 (.cons (.nm 0) (.cons (.nm 1) .nil))) noIf (vW 0))) (vW 13))) (retW (kW (.bl false))) nilS)
     (retW (cbW allF (zab (valW (zaE [none,none,some 0,some 1,some 3,some 4] (seqI (vW 8)) (.tp 2 (.cons (.nm 0) (.cons (.nm 1) .nil))) noIf (zaw 5 (zaz N) (zab (vW 2) (zab (vW 3) (zab (vW 1) (zab (binW subD (vW 4) (kW (.int 1))) (zab (binW addD (vW 5) (valW (lstW (zab (vW 0) nilA)))) nilA)))))))) nilA)))
     { nx:=λ_=>D.non = .bl (decide (rest.map (·.1) = hs') && rest.all λp=>zbA n rs k (many - 1) (struck ++ [p.1]) p.2),rt:=λx=>x = .bl (decide (rest.map (·.1) = hs') && rest.all λp=>zbA n rs k (many - 1) (struck ++ [p.1]) p.2),bk:=λ_=>False,ct:=λ_=>False }
     [.val (.int n),.val (.lst false (rs.map runD)),.val (ppD kind mark line rest),.val (.int many),.val (.lst false (struck.map D.int)),.val (.str kind),.val (.int mark),.val (.tup (line.map D.int)),.val (.tup (rest.map prQ)),.val (zoT (some (e,t))),.val (.int e),.val (.int t),.val (.lst true ((za2 rs line).map D.int)),.val (.lst true (hs'.map D.int))]:=λhs'=>by
    refine ⟨by rw [YAd];omega,zaU prQ (λp=>.int p.1) rest (λp hp Y N y=>⟨rfl,y⟩) ?_⟩;rw [zpc];refine ⟨zfx true true _ _,?_⟩;rw [zj3];by_cases h:rest.map (·.1) = hs'
    ·rw [YAl h];refine ⟨by rw [YAd];omega,zaU prQ (λp=>.bl (zbA n rs k (many - 1) (struck ++ [p.1]) p.2)) rest (λp hp Y N0 y=>?_) (zdU (n:=true) rfl)⟩;refine ⟨rfl,by show 1 <= 100000;decide,by rw [YAd];show _ + 1 <= _;omega,rfl,?_⟩
     have:=zkl (n:=n) (rs:=rs) hw k N false true (many - 1) (struck ++ [p.1]) p.2 (hq p hp) (by omega) (by simp;omega)
     rw [YAy] at this;exact zaT this λd hd=>by subst hd;exact y
    ·rw [YAz h];rfl
   show if decide ((0:Int) < many) = true then _ else _;by_cases hm:0 < many
   ·rw [YAl hm,if_pos rfl,if_pos hm];exact tail (za2 rs line)
   ·rw [YAz hm,if_neg YAx,if_neg hm];exact ⟨by show 0 <= 100000;decide,tail []⟩
abbrev Wish:=Option (Option (Int × Int × Int))
def zkD (rs:List Rn) (W:Wish) (x:Ln):Bool:=!decide (x.1 = "line") || (match W with | none=>true | some none=>false | some (some (a,b,c))=>decide (zgI rs x.2.1 x.2.2 = some (b,c)/\x.2.1 = a))
theorem ziC {n:Nat} {rs:List Rn} {w:Nat}:∀ {k:Nat} {many:Int} {struck:List Int} {d:D},PpIs w k d->zbA n rs k many struck d = true->∀ x ∈ zbQ k d,x.1 ∈ zhb/\x.2.2.length < 64/\(x.1 = "ring" \/ x.1 = "line")
 | k + 1,many,struck,_,⟨kind,mark,line,rest,hk,hl,_,hq,e⟩,hs=>by
  subst e;rw [zeV,YAL] at hs;obtain ⟨h1,h2⟩:=hs;rw [zdM];intro x hx;rcases YAk.mp hx with rfl | hx
  ·refine ⟨hk,hl,?_⟩;unfold zi7 at h1;split at h1
   ·cases h1
   ·simp only [YAL] at h1
    have:=h1.2.1
    unfold fitB at this;split at this
    ·exact .inl ‹_›
    ·exact .inr (YAM this)
  ·obtain ⟨p,hp,hx⟩:=List.mem_flatMap.mp hx;exact ziC (hq p hp) (YBi.mp h2 p hp) x hx
theorem ziy {n:Nat} {rs:List Rn} {w k:Nat} (hw:w <= 1000) (hk:k <= 6) (a:Bool) (many:Int) {d:D} (hp:PpIs w k d):zct [.int n,.lst a (rs.map runD),d,.int many] (· = .bl (zbA n rs k many [] d)):=by
 unfold zct fnW zaH;rw [YAb,YAb,YAb,YAb,hp.old,zaq,zaq,zaS];exact ⟨by show 0 <= 100000;decide,rfl,zaT (zkl hw k 6 false true many [] d hp hk (by show 0 + k <= 900;omega)) λd hd=>hd⟩
theorem zoV {b:Bool} {α:Type} {f g:α->Bool} {xs:List α} (h:b = true->∀ x ∈ xs,f x = g x):(b && xs.all f) = (b && xs.all g):=by
 cases b
 ·rfl
 ·rw [Bool.true_and,Bool.true_and,YBP,YBi,YBi];exact ⟨λz x hx=>h rfl x hx ▸ z x hx,λz x hx=>(h rfl x hx).symm ▸ z x hx⟩
theorem zfR {n:Nat} {rs:List Rn} {w k:Nat} (hw:w <= 1000) (hk:k <= 6) (hc:cnt w k <= 100000) (a:Bool) (many:Int) {d:D} (hp:PpIs w k d):zbH [.int n,.lst a (rs.map runD),d,.int many] (· = .bl (zbA n rs k many [] d && (zbQ k d).all (zkD rs (some none)))):=by
 unfold zbH fnW zaH;rw [YAb,YAb,YAb,YAb,hp.old,zaq,zaq,zaS];refine ⟨rfl,zaT (ziy hw hk false many hp) λx hx=>?_⟩;subst hx;have hf:=ziC (n:=n) (rs:=rs) (many:=many) (struck:=[]) hp;rw [zoV (f:=zkD rs (some none)) (g:=λx=>decide (x.1 = "ring")) λh x hx=>by
  obtain ⟨_,_,h3⟩:=hf h x hx;unfold zkD;rcases h3 with e | e <;> rw [e] <;> rfl]
 show if (!zbA n rs k many [] d) = true then _ else _;cases hs:zbA n rs k many [] d
 ·rfl
 have hlen:=zfh hp;refine ⟨rfl,zaT (zig k 6 d hp hk hc) λx hx=>?_⟩;subst hx;refine ⟨by rw [YAd];omega,zaU lnD (λx=>.bl (decide (x.1 = "ring"))) (zbQ k d) (λx hx Y N y=>⟨rfl,?_⟩) (zdU (f:=λx:Ln=>decide (x.1 = "ring")) (n:=true) rfl)⟩;obtain ⟨⟨k1,k2⟩,_⟩:=zli (hf hs x hx).1;refine ⟨k1,?_⟩;rw [k2];exact y
theorem PpIs.up {w:Nat}:∀ {k:Nat} {d:D},PpIs w k d->PpIs w (k + 1) d
 | k + 1,_,⟨kind,mark,line,rest,h1,h2,h3,h4,e⟩=>⟨kind,mark,line,rest,h1,h2,h3,λp hp=>(h4 p hp).up,e⟩
theorem zp5 {i:Nat} {A:WE} {E:En} {ρ:Env} {xs:List D} (h:ρ[i]? = some (.own xs)) (q:A ρ λd=>xs.length < 100000/\E.nx (ρ.set i (.own (xs ++ [d])))):appW i A E ρ:=by
 unfold appW;rw [h];exact q
theorem zgj {P:Int->D->Prop}:∀ {hs:List Int} {ds:List D},All2 (λh p=>∃ q,p = .tup [.int h,q]/\P h q) hs ds->∃ rest:List (Int × D),rest.length = hs.length/\ds = rest.map prQ/\∀ p ∈ rest,P p.1 p.2
 | [],[],_=>⟨[],rfl,rfl,λp hp=>by cases hp⟩
 | h :: hs,d :: ds,⟨⟨q,e,hq⟩,a⟩=>by
  obtain ⟨rest,h1,h2,h3⟩:=zgj a;refine ⟨(h,q) :: rest,by rw [YAE,h1];rfl,by rw [YAb,<- h2,e];rfl,λp hp=>?_⟩;rcases YAk.mp hp with rfl | hp
  ·exact hq
  ·exact h3 p hp
 | [],_ :: _,a=>a.elim
 | _ :: _,[],a=>a.elim
theorem zh3 {n:Nat} {rs:List Rn} {one other:Int} {struck:List Int} {kind:Str} {mark:Int} {line:List Int} (h:headIs n rs one other struck kind mark line):kind ∈ zhb:=by
 rcases h with ⟨rfl,_⟩ | ⟨rfl,_⟩
 ·unfold zhb;simp
 ·unfold zhb;simp
theorem zhh {n:Nat} {rs:List Rn} {one other:Int} (F:Few2 n rs):∀ {k:Nat} {struck:List Int} {d:D},PaperIs n rs one other k struck d->PpIs 10 (k + 1) d
 | 0,_,_,⟨kind,mark,line,h,e⟩=>by
  obtain ⟨nd,hb⟩:=h.line F;exact ⟨kind,mark,line,[],zh3 h,zdg F.len nd λz hz=>⟨(hb z hz).1,(hb z hz).2.1⟩,YAF _,λp hp=>(by cases hp),e⟩
 | k + 1,struck,_,⟨kind,mark,line,ds,h,ha,e⟩=>by
  obtain ⟨nd,hb⟩:=h.line F;obtain ⟨rest,h1,rfl,h3⟩:=zgj (P:=λh q=>PaperIs n rs one other k (struck ++ [h]) q) ha;have hb':∀ z ∈ line,0 <= z/\z < (rs.length:Int):=λz hz=>⟨(hb z hz).1,(hb z hz).2.1⟩
  have:=L2.zaF (xs:=zav rs) (zcB (zbc ((line.map (Fen.runAt rs)).map Fen.Run.hand))) λx hx=>zdf hb' hx
  have h2:=F.hands;exact ⟨kind,mark,line,rest,zh3 h,zdg F.len nd hb',by rw [h1];exact YAK this h2,λp hp=>zhh F (h3 p hp),e⟩
theorem PpIs.upTo {w:Nat} {d:D}:∀ {j k:Nat},PpIs w k d->k <= j->PpIs w j d
 | j,k,h,hj=>by
  induction hj with
  | refl=>exact h
  | step _ ih=>exact ih.up
def zbK:Fn:=fnW 4 ((seqW (asgW (.nm 2) (valW (lstW (zab (valW (lstW nilA)) nilA))))
  (seqW (forW (seqI (vW 0)) (.nm 3) (asgW (.nm 2) (binW addD (vW 2) (valW (zaE [none,some 3,some 1] (seqI (vW 2)) (.nm 0) (blW (binW ltD (zeb 0) (vW 2))) (binW addD (vW 0) (valW (lstW (zab (vW 1) nilA)))))))))
  (retW (valW (zaE [none,none] (seqI (cbW zgp (zab (valW (zaE [none] (seqI (vW 2)) (.nm 0) noIf (tupW (zab (zeb 0) (zab (vW 0) nilA))))) nilA))) (.tp 2 (.cons (.nm 0) (.cons (.nm 1) .nil))) noIf (vW 1)))))))
def zca:Fn:=fnW 6 ((seqW (ownW 3 (lstW nilA))
  (seqW (forW (seqI (zaw 2 zbK (zab (zaw 1 za3 (zab (vW 1) nilA)) (zab (vW 2) nilA)))) (.nm 4) (seqW (asgW (.nm 5) (zaw 2 zbn (zab (vW 0) (zab (zaw 2 zb1 (zab (vW 1) (zab (vW 4) nilA))) nilA))))
  (ifS (blW (zky (vW 5))) (appW 3 (tupW (zab (vW 4) (zab (ixvW 5 (kW (.int 0))) (zab (ixvW 5 (kW (.int 1))) nilA))))) nilS)))
  (frzW 3 (retW (vW 3))))))
def zej:WS:=(seqW (asgW (.tp 4 (.cons (.nm 2) (.cons (.nm 3) (.cons (.nm 4) (.cons (.nm 5) .nil))))) (zaw 4 zbL (zab (vW 1) (zab (kW (.int 12)) (zab (kW (.int 6)) (zab (kW (.int 30)) nilA))))))
  (seqW (forW (zf1 (kW (.int 4))) (.nm 6) (seqW (asgW (.nm 7) (valW (zp1 (vW 3))))
  (seqW (asgW (.nm 8) (zaw 3 zca (zab (vW 2) (zab (vW 3) (zab (vW 6) nilA)))))
  (seqW (asgW (.nm 9) (zaw 3 zbs (zab (vW 2) (zab (vW 7) (zab (vW 6) nilA)))))
  (seqW (ifS (orT (blW (binW neD (isNW (vW 9)) (binW neD (vW 8) (valW (lstW nilA))))) (blW (binW neD (vW 7) (vW 3)))) (retW (kW (.bl false))) nilS)
  (seqW (ifS (blW (binW neD (isNW (zaw 3 zb5 (zab (vW 2) (zab (vW 7) (zab (vW 6) nilA))))) (binW eqD (vW 8) (valW (lstW nilA))))) (retW (kW (.bl false))) nilS)
  (seqW (ifS (blW (zky (vW 9))) (seqW (ifS (notT (truW (zaw 5 zbJ (zab (vW 2) (zab (vW 3) (zab (vW 9) (zab (vW 6) (zab (kW (.str "ring")) nilA)))))))) (retW (kW (.bl false))) nilS)
  (ifS (notT (truW (zaw 2 (zbh 13) (zab (zaw 4 zbH (zab (vW 2) (zab (vW 7) (zab (vW 9) (zab (vW 6) nilA))))) (zab (kW (.bl true)) nilA))))) (retW (kW (.bl false))) nilS)) nilS)
  (ifS (notT (truW (zaw 2 (zbh 13) (zab (zaw 3 zbs (zab (vW 2) (zab (vW 7) (zab (vW 6) nilA)))) (zab (vW 9) nilA))))) (retW (kW (.bl false))) nilS))))))))
  (retW (kW (.bl true)))))
def zd1 (many:Nat) (ls:List (List Int)) (h:Int):List (List Int):=ls ++ (ls.filter λl=>decide (l.length < many)).map (· ++ [h])
def allL (many:Nat) (hands:List Int):List (List Int):=hands.foldl (zd1 many) [[]]
theorem zfJ (many:Nat) (hs:List Int) (h:Int):allL many (hs ++ [h]) = zd1 many (allL many hs) h:=by unfold allL;rw [List.foldl_append];rfl
theorem zg0 {P:List Int->Prop} (h0:P []) (h1:∀ l x,P l->P (l ++ [x])) (l:List Int):P l:=by
 have:∀ n (l:List Int),l.length = n->P l:=by
  intro n
  induction n with
  | zero=>intro l e;rw [List.length_eq_zero_iff.mp e];exact h0
  | succ n ih=>
   intro l e;rcases snocs l with rfl | ⟨m,a,rfl⟩
   ·cases e
   ·exact h1 m a (ih m (by rw [YAs,YBr] at e;omega))
 exact this _ l rfl
theorem zkf (many:Nat) (hands:List Int):∀ l,l ∈ allL many hands ↔ l.Sublist hands/\l.length <= many:=by
 refine zg0 (P:=λhands=>∀ l,l ∈ allL many hands ↔ l.Sublist hands/\l.length <= many) ?_ ?_ hands
 ·intro l;show l ∈ [[]] ↔ _;rw [YAg,List.sublist_nil];exact ⟨λe=>⟨e,by rw [e];exact YAF _⟩,λh=>h.1⟩
 ·intro hs h ih l;rw [zfJ];unfold zd1;rw [YAr,ih,YAD];constructor
  ·rintro (⟨h1,h2⟩ | ⟨m,hm,rfl⟩)
   ·exact ⟨h1.trans (List.sublist_append_left _ _),h2⟩
   ·obtain ⟨h1,h2⟩:=YA9.mp hm;refine ⟨((ih m).mp h1).1.append (List.Sublist.refl _),?_⟩
    have:=YAM h2
    rw [YAs,YBr];omega
  ·rintro ⟨h1,h2⟩;obtain ⟨a,b,rfl,ha,hb⟩:=List.sublist_append_iff.mp h1;cases b with
   | nil=>rw [YA3] at h2 ⊢;exact .inl ⟨ha,h2⟩
   | cons x b=>
    have hb2:=hb.length_le;rw [YAE,YBr] at hb2;have eb:b = []:=List.length_eq_zero_iff.mp (by omega);subst eb;have ex:x = h:=by simpa using hb
    subst ex;rw [YAs,YBr] at h2;exact .inr ⟨a,YA9.mpr ⟨(ih a).mpr ⟨ha,by omega⟩,YAl (by omega)⟩,rfl⟩
theorem zh0 {α β:Type} {f:α->β} (inj:∀ a b,f a = f b->a = b) {xs:List α} (h:xs.Nodup):(xs.map f).Nodup:=List.Pairwise.map f (λa b ne e=>ne (inj a b e)) h
theorem zkJ (many:Nat) (hands:List Int) (nd:hands.Nodup):(allL many hands).Nodup:=by
 revert nd;refine zg0 (P:=λhands=>hands.Nodup->(allL many hands).Nodup) ?_ ?_ hands
 ·intro _;show ([[]]:List (List Int)).Nodup;simp
 ·intro hs h ih nd;have hn:h ∉ hs:=λhm=>by
   have:=YBw.mp nd
   exact this.2.2 h hm h (by simp) rfl
  rw [zfJ];unfold zd1;refine YBw.mpr ⟨ih (YBw.mp nd).1,?_,λa ha b hb e=>?_⟩
  ·refine zh0 (λa b e=>?_) ((ih (YBw.mp nd).1).filter _);exact List.append_cancel_right e
  ·subst e;obtain ⟨m,_,rfl⟩:=YAD.mp hb
   have:=((zkf many hs _).mp ha).1.subset (YAo m (YAg.mpr rfl))
   exact hn this
def lgL (many:Nat) (ns:List Nat):List Nat:=ns ++ (ns.filter λn=>decide (n < many)).map (· + 1)
def lgN (many:Nat):Nat->List Nat
 | 0=>[0]
 | k + 1=>lgL many (lgN many k)
theorem zlD (many:Nat) (hands:List Int):(allL many hands).map List.length = lgN many hands.length:=by
 refine zg0 (P:=λhands=>(allL many hands).map List.length = lgN many hands.length) rfl ?_ hands;intro hs h ih;rw [zfJ,YAs,YBr];show _ = lgL many (lgN many hs.length);rw [<- ih];unfold zd1 lgL;rw [YAy,YAH,List.filter_map,YAH];congr 1;refine YA7 λl _=>?_;show (l ++ [h]).length = l.length + 1;rw [YAs,YBr]
theorem zpJ:∀ m < 4,∀ k < 7,(lgN m k).length < 64:=by decide
theorem zj7 {many:Nat} {hands:List Int} (hm:many < 4) (hh:hands.length < 7):(allL many hands).length < 64:=by
 have:=congrArg List.length (zlD many hands)
 rw [YAd] at this;rw [this];exact zpJ many hm _ hh
theorem zlQ (many:Nat) (ls:List (List Int)) (h:Int):(zd1 many ls h).length <= ls.length + ls.length:=by
 unfold zd1;rw [YAs,YAd]
 have:=List.length_filter_le (λl:List Int=>decide (l.length < many)) ls
 omega
theorem zlK (many:Nat):∀ (hs:List Int) (ls:List (List Int)),ls.length <= (hs.foldl (zd1 many) ls).length
 | [],ls=>YAm _
 | h :: hs,ls=>YAK (by unfold zd1;rw [YAs];omega) (zlK many hs (zd1 many ls h))
def keyL (l:List Int):Pr:=((l.length:Int),l)
theorem zf0 (a:Bool) (hands:List Int) (many:Nat) (nd:hands.Nodup) (hm:many < 4) (hh:hands.length < 7):zbK [.lst a (hands.map D.int),.int many] (λd=>∃ ms:List (List Int),d = .lst true (ms.map lsD)/\ms.Perm (allL many hands)/\(ms.map keyL).Pairwise (λx y=>pLt x y = true)):=by
 unfold zbK fnW zaH;rw [YAb,YAb,zcM,zaq];refine ⟨by show 0 <= 100000;decide,by show 1 <= 100000;decide,?_⟩;have hfew:=zj7 hm hh;show zbO _ _ _ (hands.map D.int) _;refine zbb (λds ρ=>∃ (todo:List Int) (ls:List (List Int)) (s3:Sl),ds = todo.map D.int/\todo.foldl (zd1 many) ls = allL many hands/\ρ = [.val (.lst false (hands.map D.int)),.val (.int many),.val (.lst true (ls.map lsD)),s3]) ?_ ?_ _ _ ⟨hands,[[]],.un,rfl,rfl,rfl⟩
 ·rintro x ds ρ E' hn hc hr hb ⟨todo,ls,s3,e1,e2,rfl⟩;cases todo with
  | nil=>cases e1
  | cons h todo=>
   rw [YAb] at e1;injection e1 with e1 e3
   subst e1;have l1:=zlK many (h :: todo) ls;rw [e2] at l1;have l2:=zlQ many ls h;refine ⟨by rw [YAd];omega,zcD lsD (λl=>if l.length < many then some (lsD (l ++ [h])) else none) ls [] (λl hl Y N y=>?_) ?_⟩
   ·show if decide ((((l.map D.int).length:Nat):Int) < (many:Int)) = true then _ else _;rw [YAd];by_cases z:l.length < many
    ·rw [YAl (by omega),if_pos rfl];rw [if_pos z] at y;refine ⟨by show 1 <= 100000;decide,by rw [YAd];show _ + 1 <= _;omega,?_⟩;unfold lsD at y;rw [YAy] at y;exact y
    ·rw [YAz (by omega),if_neg YAx];rw [if_neg z] at y;exact y
   ·rw [YBh];have e4:ls.filterMap (λl=>if l.length < many then some (lsD (l ++ [h])) else none) = ((ls.filter λl=>decide (l.length < many)).map (· ++ [h])).map lsD:=by
     rw [YAH];clear e2 l1 l2
     induction ls with
     | nil=>rfl
     | cons l ls ih=>
      by_cases z:l.length < many
      ·rw [YAU,if_pos z,YBj,if_pos (YAl z),YAb,ih];rfl
      ·rw [YAU,if_neg z,YBj,if_neg (by simp [z]),ih]
    rw [e4];refine ⟨?_,?_⟩
    ·show (ls.map lsD).length + _ <= 100000;unfold zd1 at l2;rw [YAs,YAd] at l2;rw [YAd,YAd,YAd];omega
    ·refine hn _ ⟨todo,zd1 many ls h,.val (.int h),e3,e2,?_⟩;unfold zd1;rw [YAy];rfl
 ·rintro ρ ⟨todo,ls,s3,e1,e2,rfl⟩;cases todo with
  | cons h todo=>cases e1
  | nil=>
   have e2:ls = allL many hands:=e2;subst e2;refine ⟨by rw [YAd];omega,zaU lsD (λl=>prP true (keyL l)) _ (λl hl Y N y=>⟨by show 2 <= 100000;decide,?_⟩) ?_⟩
   ·have:(((l.map D.int).length:Nat):Int) = l.length:=by rw [YAd]
    unfold prP keyL at y;rw [<- this] at y;exact y
   refine ⟨true,(allL many hands).map keyL,by rw [YAH];rfl,by rw [YAd];exact hfew,?_,?_,λqs pm so=>?_⟩
   ·exact zh0 (λa b e=>by injection e) (zkJ many hands nd)
   ·intro x hx;obtain ⟨l,_,rfl⟩:=YAD.mp hx;rfl
   ·have hq:∀ q ∈ qs,q = keyL q.2:=λq hq=>by
     obtain ⟨l,_,rfl⟩:=YAD.mp (pm.mem_iff.mp hq);rfl
    have hlen:=pm.length_eq;rw [YAd] at hlen;refine ⟨by rw [YAd];omega,zaU (prP true) (λq=>lsD q.2) qs (λq hq Y N y=>⟨rfl,y⟩) ?_⟩;refine ⟨qs.map (·.2),by rw [YAH];rfl,?_,?_⟩
    ·have:=pm.map (·.2)
     rw [YAH] at this;have e:(allL many hands).map ((·.2) ∘ keyL) = allL many hands:=List.map_id' _
     rwa [e] at this
    ·rw [YAH];have e:qs.map (keyL ∘ (·.2)) = qs:=by
      have:qs.map (keyL ∘ (·.2)) = qs.map id:=YA7 λq h=>(hq q h).symm
      rw [this,List.map_id]
     rw [e];exact so
abbrev St3:=List Int × List Int × List Int
def stD (t:St3):D:=.tup [lsD t.1,.lst true (t.2.1.map D.int),.lst true (t.2.2.map D.int)]
structure SetsIs (n:Nat) (rs:List Rn) (many:Nat) (ts:List St3):Prop where
 ex:∃ ms:List (List Int),ms.Perm (allL many (zav rs))/\(ms.map keyL).Pairwise (λx y=>pLt x y = true)/\ts.map (·.1) = ms.filter λl=>hasH (zbf rs l)
 ok:∀ t ∈ ts,t.2.1.length = n/\t.2.2.length = n/\Fen.zf4 n (zbf rs t.1) t.2.1/\Fen.HtOk (zbf rs t.1) t.2.2
theorem zqf {rs:List Rn} {hts:List Int} (h:Fen.HtOk rs hts):hasH rs = true:=hasH_t.mpr λno=>no (Fen.gI hts) h
theorem zgY (a:Bool) (n:Nat) (rs:List Rn) (many:Nat) (F:Few n rs) (hm:many < 4) (hh:(zav rs).length < 7):zca [.int n,.lst a (rs.map runD),.int many] (λd=>∃ ts,d = .lst true (ts.map stD)/\SetsIs n rs many ts):=by
 have hl:=F.len;have hn:=F.n1;unfold zca fnW zaH;rw [YAb,YAb,YAb,zaS,zaq,zaq];refine ⟨by show 0 <= 100000;decide,rfl,zaT (zdr false rs hl) λd hd=>?_⟩;subst hd;refine ⟨rfl,zaT (zf0 true (zav rs) many (zcB (zbc _)) hm hh) λd hd=>?_⟩;obtain ⟨ms,rfl,pm,so⟩:=hd;have hlen:ms.length < 64:=by rw [pm.length_eq];exact zj7 hm hh
 show zbO _ _ _ (ms.map lsD) _;refine zbb (λds ρ=>∃ (done todo:List (List Int)) (ts:List St3) (s4 s5:Sl),ms = done ++ todo/\ds = todo.map lsD/\(ts.map (·.1) = done.filter λl=>hasH (zbf rs l))/\(∀ t ∈ ts,t.2.1.length = n/\t.2.2.length = n/\Fen.zf4 n (zbf rs t.1) t.2.1/\Fen.HtOk (zbf rs t.1) t.2.2)/\ρ = [.val (.int n),.val (.lst false (rs.map runD)),.val (.int many),.own (ts.map stD),s4,s5]) ?_ ?_ _ _ ⟨[],ms,[],.un,.un,rfl,rfl,rfl,λt ht=>(by cases ht),rfl⟩
 ·rintro x ds ρ E' hn' hc hr hb ⟨done,todo,ts,s4,s5,e1,e2,e3,e4,rfl⟩;cases todo with
  | nil=>cases e2
  | cons l todo=>
   rw [YAb] at e2;injection e2 with e2 e5
   subst e2;have hf:=List.length_filter_le (λl=>hasH (zbf rs l)) done;have hts:=congrArg List.length e3;rw [YAd] at hts;have hml:=congrArg List.length e1;rw [YAs] at hml;have e6:ms = (done ++ [l]) ++ todo:=by rw [e1];simp
   refine ⟨rfl,zaT (zgW false true rs l (by omega)) λd hd=>?_⟩;subst hd;refine ⟨rfl,zaT (zeQ true n (zbf rs l) (by omega) (F.left l)) λd hd=>?_⟩;rcases hd with ⟨rfl,no⟩ | ⟨lab,hts',rfl,q1,q2,q3,q4⟩
   ·refine hn' _ ⟨done ++ [l],todo,ts,_,_,e6,e5,?_,e4,rfl⟩;rw [e3,List.filter_append,YBj,if_neg (by rw [hasH_f.mpr no];decide)];simp
   ·have go:appW 3 (tupW (zab (vW 4) (zab (ixvW 5 (kW (.int 0))) (zab (ixvW 5 (kW (.int 1))) nilA)))) E' [.val (.int n),.val (.lst false (rs.map runD)),.val (.int many),.own (ts.map stD),.val (lsD l),.val (.tup [.lst true (lab.map D.int),.lst true (hts'.map D.int)])]:=by
     refine zp5 (i:=3) (xs:=ts.map stD) rfl ?_;refine ⟨by show 3 <= 100000;decide,by rw [YAd];omega,?_⟩;refine hn' _ ⟨done ++ [l],todo,ts ++ [(l,lab,hts')],.val (lsD l),.val (.tup [.lst true (lab.map D.int),.lst true (hts'.map D.int)]),e6,e5,?_,λt ht=>?_,?_⟩
     ·rw [YAy,e3,List.filter_append,YBj,if_pos (zqf q4)];rfl
     ·rcases YAr.mp ht with ht | ht
      ·exact e4 t ht
      ·rw [YAg.mp ht];exact ⟨q1,q2,q3,q4⟩
     ·rw [YAy];rfl
    exact go
 ·rintro ρ ⟨done,todo,ts,s4,s5,e1,e2,e3,e4,rfl⟩;cases todo with
  | cons l todo=>cases e2
  | nil=>
   rw [YA3] at e1;subst e1;exact ⟨ts,rfl,⟨ms,pm,so,e3⟩,e4⟩
theorem zp8 {l hs:List Int} (u:hs.Pairwise (· < ·)):l.Sublist hs ↔ l.Pairwise (· < ·)/\∀ h ∈ l,h ∈ hs:=by
 constructor
 ·intro h;exact ⟨u.sublist h,λx hx=>h.subset hx⟩
 ·rintro ⟨h1,h2⟩
  induction hs generalizing l with
  | nil=>
   rw [show l = [] from List.eq_nil_iff_forall_not_mem.mpr λx hx=>(by have:=h2 x hx;cases this)];exact List.Sublist.refl _
  | cons x hs ih=>
   obtain ⟨u1,u2⟩:=YBd.mp u;cases l with
   | nil=>exact List.nil_sublist _
   | cons y l=>
    obtain ⟨v1,v2⟩:=YBd.mp h1;rcases YAk.mp (h2 y YAh) with rfl | hy
    ·refine List.Sublist.cons₂ _ (ih u2 v2 λz hz=>?_);rcases YAk.mp (h2 z (YAj _ hz)) with rfl | h
     ·have:=v1 z hz;omega
     ·exact h
    ·refine List.Sublist.cons _ (ih u2 h1 λz hz=>?_);rcases YAk.mp (h2 z hz) with rfl | h
     ·rcases YAk.mp hz with rfl | hz
      ·exact hy
      ·have:=v1 z hz;have:=u1 y hy;omega
     ·exact h
theorem SetsIs.mem {n:Nat} {rs:List Rn} {many:Nat} {ts:List St3} (S:SetsIs n rs many ts) (l:List Int):(∃ t ∈ ts,t.1 = l) ↔ l ∈ zlA rs (cntR many rs):=by
 obtain ⟨ms,pm,_,e⟩:=S.ex;have u:(zav rs).Pairwise (· < ·):=zbc _
 have:(∃ t ∈ ts,t.1 = l) ↔ l ∈ ts.map (·.1):=(YAD).symm
 rw [this,e,YA9,pm.mem_iff,zkf,zp8 u,mem_sets];constructor
 ·rintro ⟨⟨⟨h1,h2⟩,h3⟩,h4⟩;exact ⟨zib h1 h2 (by omega),h4⟩
 ·rintro ⟨⟨j,hj,h⟩,h4⟩;obtain ⟨h1,h2,h3⟩:=mem_lists.mp h;refine ⟨⟨⟨h2,h3⟩,?_⟩,h4⟩;unfold cntR at hj;split at hj <;> omega
theorem zh2 {n:Nat} {rs:List Rn} {one other:Int} {struck:List Int} {k1 k2:Str} {m1 m2:Int} {l1 l2:List Int} (h:headIs n rs one other struck k1 m1 l1) (h':headIs n rs one other struck k2 m2 l2):k1 = k2/\m1 = m2/\l1 = l2:=by
 rcases h with ⟨rfl,r⟩ | ⟨rfl,rfl,r,l⟩ <;> rcases h' with ⟨rfl,r'⟩ | ⟨rfl,e,r',l'⟩
 ·cases r.uniq r';exact ⟨rfl,rfl,rfl⟩
 ·cases r.uniq r'
 ·cases r.uniq r'
 ·cases l.uniq l';exact ⟨rfl,e.symm,rfl⟩
theorem zh9 {R:Int->D->Prop}:∀ {hs:List Int} {ds es:List D},(∀ h ∈ hs,∀ d e,R h d->R h e->d = e)->All2 R hs ds->All2 R hs es->ds = es
 | [],[],[],_,_,_=>rfl
 | h :: hs,d :: ds,e :: es,u,a,b=>by
  rw [u h YAh d e a.1 b.1,zh9 (λx hx=>u x (YAj _ hx)) a.2 b.2]
 | [],_ :: _,_,_,a,_=>a.elim
 | _ :: _,[],_,_,a,_=>a.elim
 | [],[],_ :: _,_,_,b=>b.elim
 | _ :: _,_ :: _,[],_,_,b=>b.elim
theorem PaperIs.uniq {n:Nat} {rs:List Rn} {one other:Int}:∀ {k:Nat} {struck:List Int} {d e:D},PaperIs n rs one other k struck d->PaperIs n rs one other k struck e->d = e
 | 0,_,_,_,⟨kind,mark,line,h,e1⟩,⟨kind',mark',line',h',e2⟩=>by
  obtain ⟨rfl,rfl,rfl⟩:=zh2 h h';rw [e1,e2]
 | k + 1,struck,_,_,⟨kind,mark,line,ds,h,ha,e1⟩,⟨kind',mark',line',ds',h',ha',e2⟩=>by
  obtain ⟨rfl,rfl,rfl⟩:=zh2 h h'
  have:ds = ds':=zh9 (λx _ d e ⟨q,h1,h2⟩ ⟨q',h1',h2'⟩=>by rw [h1,h1',PaperIs.uniq h2 h2']) ha ha'
  rw [e1,e2,this]
def NoS (rs:List Rn) (struck:List Int) (k:Nat):Prop:=∀ ext:List Int,ext.length <= k->(∀ h ∈ ext,h ∈ zav rs)->hasH (zbf rs (struck ++ ext)) = false
theorem NoS.next {rs:List Rn} {struck:List Int} {k:Nat} {h:Int} (g:NoS rs struck (k + 1)) (hh:h ∈ zav rs):NoS rs (struck ++ [h]) k:=λext hl he=>by
 rw [YA1];exact g (h :: ext) (by rw [YAE];omega) λx hx=>(YAk.mp hx).elim (λe=>e ▸ hh) (he x)
theorem NoS.here {rs:List Rn} {struck:List Int} {k:Nat} (g:NoS rs struck k):hasH (zbf rs struck) = false:=by
 have:=g [] (YAF _) λh z=>by cases z
 rwa [YA3] at this
theorem zfF {P:Int->D->Prop}:∀ {hs:List Int} {ds:List D},All2 (λh p=>∃ q,p = .tup [.int h,q]/\P h q) hs ds->∃ rest:List (Int × D),rest.map (·.1) = hs/\ds = rest.map prQ/\∀ p ∈ rest,P p.1 p.2
 | [],[],_=>⟨[],rfl,rfl,λp hp=>by cases hp⟩
 | h :: hs,d :: ds,⟨⟨q,e,hq⟩,a⟩=>by
  obtain ⟨rest,h1,h2,h3⟩:=zfF a;refine ⟨(h,q) :: rest,by rw [YAb,h1],by rw [YAb,<- h2,e];rfl,λp hp=>?_⟩;rcases YAk.mp hp with rfl | hp
  ·exact hq
  ·exact h3 p hp
 | [],_ :: _,a=>a.elim
 | _ :: _,[],a=>a.elim
theorem zhY {n:Nat} {rs:List Rn} {one other:Int} {struck:List Int} {kind:Str} {mark:Int} {line hs:List Int} {many:Int} (F:Few2 n rs) (h:headIs n rs one other struck kind mark line) (no:hasH (zbf rs struck) = false) (e:hs = if 0 < many then za2 rs line else []) :
  kind = "ring" /\ zi7 n rs many struck kind mark line hs = true:=by
 rcases h with ⟨rfl,r⟩ | ⟨_,_,r,_⟩
 ·obtain ⟨m0,m1,_,_,nd,hb,t,wk,t0⟩:=r.some F.marks F.n1 F.apart;refine ⟨rfl,?_⟩;have w:zgI rs mark line = some (mark,t):=by unfold zgI;rw [if_neg (by rw [zfL nd];omega)];exact wk
  unfold zi7 rRng fitB;rw [w];dsimp only;rw [YAl m0,YAl m1,if_pos rfl,YAl rfl,YAz t0,YAl e,show (line.any λz=>struck.contains (Fen.runAt rs z).hand) = false from List.any_eq_false.mpr λz hz=>by rw [(hb z hz).2.2];decide];rfl
 ·rw [zfc r] at no;cases no
theorem zmr {rs:List Rn} {mark:Int} {line:List Int}:zkD rs (some none) ("ring",mark,line) = true:=rfl
theorem zgt {n:Nat} {rs:List Rn} {one other:Int} (F:Few2 n rs):∀ {k:Nat} {struck:List Int} {d:D},PaperIs n rs one other k struck d->NoS rs struck k->zbA n rs (k + 1) k struck d = true/\(zbQ (k + 1) d).all (zkD rs (some none)) = true
 | 0,struck,_,⟨kind,mark,line,h,e⟩,no=>by
  subst e;obtain ⟨rfl,hb⟩:=zhY (hs:=[]) (many:=((0:Nat):Int)) F h no.here rfl;have s:=zeV n rs 0 ((0:Nat):Int) struck "ring" mark line [];have l:=zdM 0 "ring" mark line [];refine ⟨?_,?_⟩
  ·show zbA n rs (0 + 1) _ struck (ppD "ring" mark line []) = true;rw [s,List.map_nil,hb];rfl
  ·show (zbQ (0 + 1) (ppD "ring" mark line [])).all _ = true;rw [l];rfl
 | k + 1,struck,_,⟨kind,mark,line,ds,h,ha,e⟩,no=>by
  obtain ⟨rest,h1,rfl,h3⟩:=zfF (P:=λh q=>PaperIs n rs one other k (struck ++ [h]) q) ha;subst e;have hb:=(h.line F).2;obtain ⟨rfl,hd⟩:=zhY (hs:=rest.map (·.1)) (many:=((k + 1:Nat):Int)) F h no.here (by rw [if_pos (by omega),h1]);have ih:∀ p ∈ rest,zbA n rs (k + 1) k (struck ++ [p.1]) p.2 = true/\(zbQ (k + 1) p.2).all (zkD rs (some none)) = true:=λp hp=>
   zgt F (h3 p hp) (no.next (zdf (λz hz=>⟨(hb z hz).1,(hb z hz).2.1⟩) (by rw [<- h1];exact YAW hp)))
  refine ⟨?_,?_⟩
  ·show zbA n rs (k + 1 + 1) _ struck (ppD "ring" mark line rest) = true;rw [zeV,hd,Bool.true_and,YBi];intro p hp;rw [show ((k + 1:Nat):Int) - 1 = (k:Int) by omega];exact (ih p hp).1
  ·show (zbQ (k + 1 + 1) (ppD "ring" mark line rest)).all _ = true;rw [zdM,List.all_cons,List.all_flatMap,zmr,Bool.true_and,YBi];exact λp hp=>(ih p hp).2
theorem zlh {w:Nat} (hw:w <= 1000):∀ {k:Nat} {d:D},PpIs w k d->zaL d (3 * k) = true
 | k + 1,_,⟨kind,mark,line,rest,hk,hl,hr,hq,e⟩=>by
  subst e;have hi:∀ (xs:List Int) (m:Nat),zbE (xs.map D.int) m = true:=λxs m=>by
   induction xs with
   | nil=>rfl
   | cons x xs ih=>rw [YAb,zbE,ih];rfl
  have hp:∀ (ps:List (Int × D)),(∀ p ∈ ps,zaL p.2 (3 * k) = true)->zbE (ps.map prQ) (3 * k + 1) = true:=λps h=>by
   induction ps with
   | nil=>rfl
   | cons p ps ih=>
    rw [YAb,zbE,ih λq hq=>h q (YAj _ hq)];show (decide (2 <= 1000) && (true && (zaL p.2 (3 * k) && true)) && true) = true;rw [h p YAh];rfl
  have h1:zaL (.str kind) (3 * k + 2) = true:=zqC (P:=λkind=>zaL (.str kind) (3 * k + 2) = true) hk (by show PyData.canLay0 (.str "ring") = true;decide +kernel) (by show PyData.canLay0 (.str "line") = true;decide +kernel) (by show PyData.canLay0 (.str "Ring") = true;decide +kernel) (by show PyData.canLay0 (.str "") = true;decide +kernel);rw [show 3 * (k + 1) = (3 * k + 2) + 1 by omega];show (decide (4 <= 1000) && (zaL (.str kind) (3 * k + 2) && (true && (zaL (.tup (line.map D.int)) (3 * k + 1 + 1) && (zaL (.tup (rest.map prQ)) (3 * k + 1 + 1) && true))))) = true;rw [h1,show zaL (.tup (line.map D.int)) (3 * k + 1 + 1) = true by rw [zaL,hi,YAd,YAl (by omega)];rfl,show zaL (.tup (rest.map prQ)) (3 * k + 1 + 1) = true by rw [zaL,hp rest λp h=>zlh hw (hq p h),YAd,YAl (by omega)];rfl];rfl
theorem zlV:∀ ts:List St3,zcr (ts.map stD) = true
 | []=>rfl
 | t :: ts=>by
  rw [YAb,zcr,zlV ts]
  have:∀ xs:List Int,layD (.lst true (xs.map D.int)) = true:=λxs=>by unfold layD;exact zcc xs
  unfold stD layD lsD;rw [zcr,zcr,zcr,zcr,this,this,this];rfl
theorem zqE (b:Bool) (ts:List St3):eqOk (.lst b (ts.map stD)) (.lst true [])/\eqB (.lst b (ts.map stD)) (.lst true []) = ts.isEmpty:=by
 refine ⟨⟨by unfold layD;exact zlV ts,by unfold layD;rfl,YAK (Nat.min_le_right _ _) (by decide)⟩,?_⟩;cases ts with
 | nil=>rfl
 | cons t ts=>
  unfold eqB toPy;rw [YAb,zbN,zbN,PyData.eqv];rfl
theorem zc2 {rs:List Rn} {c:Nat} {l:List Int} (h:FirstR rs c l):l ∈ zlA rs c:=by
 obtain ⟨j,hj,_,done,todo,e,_⟩:=h.ex;exact mem_sets.mpr ⟨⟨j,hj,by rw [e];simp⟩,h.yes⟩
theorem zei {rs:List Rn} {c:Nat} (h:zmA rs c) (l:List Int):l ∉ zlA rs c:=λhl=>by
 obtain ⟨⟨j,hj,hm⟩,y⟩:=mem_sets.mp hl;rw [h j hj l hm] at y;cases y
theorem SetsIs.yes {n:Nat} {rs:List Rn} {many:Nat} {ts:List St3} (S:SetsIs n rs many ts) {l:List Int} (h:FirstR rs (cntR many rs) l):ts.isEmpty = false:=by
 obtain ⟨t,ht,_⟩:=(S.mem l).mpr (zc2 h);cases ts with
 | nil=>cases ht
 | cons _ _=>rfl
theorem SetsIs.no {n:Nat} {rs:List Rn} {many:Nat} {ts:List St3} (S:SetsIs n rs many ts) (h:zmA rs (cntR many rs)):ts.isEmpty = true:=by
 cases ts with
 | nil=>rfl
 | cons t ts=>exact absurd ((S.mem t.1).mp ⟨t,YAh,rfl⟩) (zei h _)
theorem znI {rs:List Rn} {many:Nat} (no:zmA rs (cntR many rs)):NoS rs [] many:=λext hl he=>by
 obtain ⟨j,hj,hm⟩:=zl8 he (by omega:(ext.length:Int) <= many)
 have:=no j hj _ hm
 rw [zgr] at this;exact this
theorem zl9 {n:Nat} {rs:List Rn} {many:Nat} (no:NoS rs [] many):WishOk n rs 0 0 [] many (.str "ring"):=λext hl he line rn _=>by
 have:=no ext hl he
 rw [zfc rn] at this;cases this
theorem zo5:lawW 8 zej:=by
 unfold lawW zej;refine ⟨rfl,zaT (zlB 12 6 30 (by decide) (by decide) (by decide) (by decide) (by decide) (by decide)) λd ⟨size,rs,hts,fs,hd,W⟩=>?_⟩;subst hd;obtain ⟨n,rfl⟩:∃ n:Nat,size = (n:Int):=⟨size.toNat,by have:=W.s1;omega⟩;have F:Few2 n rs:=W.few2 (by decide) (by decide);have n1:=W.s1;have hh:(zav rs).length < 7:=by
  obtain ⟨nm,h1,h2⟩:=W.names
  have:=L2.zaF (xs:=nm) (zcB (zbc (rs.map Fen.Run.hand))) λk hk=>by
   obtain ⟨r,hr,rfl⟩:=YAD.mp ((zaK _ _).mp hk);exact h2 r hr
  have:(zav rs).length <= nm.length:=this
  omega
 refine ⟨rfl,⟨by decide,by decide⟩,?_⟩;refine zfC (λd=>∃ m:Nat,d = .int m/\m < 4) (λ_ ρ=>∃ s6 s7 s8 s9:Sl,ρ = [.un,.val .box,.val (.int n),.val (.lst true (rs.map runD)),.val (.lst true (hts.map D.int)),.val (.lst true (fs.map D.int)),s6,s7,s8,s9]) ?_ ?_ _ _ (λd hd=>?_) ⟨.un,.un,.un,.un,rfl⟩
 ·rintro _ rest ρ E' ⟨m,rfl,m1⟩ hn hc hr hb ⟨s6,s7,s8,s9,rfl⟩;refine ⟨rfl,zaT (zgY true n rs m F.toFew m1 hh) λd hd=>?_⟩;obtain ⟨ts,rfl,S⟩:=hd;obtain ⟨q1,q2⟩:=zqE true ts;refine ⟨rfl,zaT (zcg true n rs m F (by omega) (by omega)) λd hd=>?_⟩;rcases hd with ⟨rfl,l,fi⟩ | ⟨no,pa⟩
  ·have em:=S.yes fi;refine ⟨by show 0 <= 100000;decide,q1,zbd _ _,?_⟩;rw [q2,em,zkm];refine ⟨zhN _ _ _ _,?_⟩;rw [zjP];refine ⟨rfl,zaT (zdB true n rs m F.toFew (by omega) (by omega)) λd hd=>?_⟩;rcases hd with ⟨rfl,no⟩ | ⟨l',hts',rfl,fi',_⟩
   ·exact absurd (zc2 fi) (zei no l)
   refine ⟨by show 0 <= 100000;decide,q1,zbd _ _,?_⟩;rw [q2,em,zkm];refine ⟨rfl,zaT (zcg true n rs m F (by omega) (by omega)) λd hd=>?_⟩;rcases hd with ⟨rfl,_⟩ | ⟨no,_⟩
   ·refine ⟨rfl,zaT (zda 12 .non .non rfl rfl) λd hd=>?_⟩;subst hd;exact hn _ ⟨_,_,_,_,rfl⟩
   ·exact absurd (zc2 fi) (zei no l)
  ·have em:=S.no no;have pp:=(zhh F pa).upTo (j:=4) (by omega);have nS:=znI no;obtain ⟨so,wi⟩:=zgt F pa nS;obtain ⟨kind,mark,line,rst,_,_,_,_,ed⟩:=id pp;have hN:isN d = false:=by rw [ed];rfl
   refine ⟨by show 0 <= 100000;decide,q1,zbd _ _,?_⟩;rw [q2,em,hN,zkm];refine ⟨zhN _ _ _ _,?_⟩;rw [zjP];refine ⟨rfl,zaT (zdB true n rs m F.toFew (by omega) (by omega)) λd' hd=>?_⟩;rcases hd with ⟨rfl,_⟩ | ⟨l',hts',rfl,fi',_⟩
   rotate_left
   ·exact absurd (zc2 fi') (zei no l')
   refine ⟨by show 0 <= 100000;decide,q1,zbd _ _,?_⟩;rw [q2,em,zkm];show if (!isN d) = true then _ else _;rw [hN];refine ⟨rfl,zaT (zfW F (by decide) (by omega) (zfw _) true m d (by omega) pa (zl9 nS)) λe he=>?_⟩;subst he;have sn:=zfR (n:=n) (rs:=rs) (w:=10) (k:=m + 1) (by decide) (by omega) (by
    have:cnt 10 (m + 1) <= cnt 10 4:=by
     rcases (by omega:m = 0\/m = 1\/m = 2\/m = 3) with rfl | rfl | rfl | rfl
     ·exact YAK (zeG 10 1) (YAK (zeG 10 2) (zeG 10 3))
     ·exact YAK (zeG 10 2) (zeG 10 3)
     ·exact zeG 10 3
     ·exact YAm _
    exact YAK this (by show 1 + 10 * (1 + 10 * (1 + 10 * (1 + 10 * 0))) <= 100000;decide)) true m (zhh F pa)
   rw [so,wi] at sn;refine ⟨rfl,zaT sn λe he=>?_⟩;subst he;refine ⟨rfl,zaT (zda 12 (.bl true) (.bl true) rfl rfl) λe he=>?_⟩;subst he;refine ⟨rfl,zaT (zcg true n rs m F (by omega) (by omega)) λd2 hd2=>?_⟩;rcases hd2 with ⟨rfl,l',fi'⟩ | ⟨_,pa2⟩
   ·exact absurd (zc2 fi') (zei no l')
   rw [pa2.uniq pa];refine ⟨rfl,zaT (zda 12 d d rfl (zlh (k:=4) (by decide) pp)) λe he=>?_⟩;subst he;exact hn _ ⟨_,_,_,_,rfl⟩
 ·rintro ρ ⟨s6,s7,s8,s9,rfl⟩;rfl
 ·obtain ⟨k,e,k0,k1⟩:=zns hd;exact ⟨k.toNat,by rw [e];congr 1;omega,by omega⟩
end Fd
namespace Fen
open PySem L2
def top (i:Nat):Stmt:=PySem.Challenge.pw_fenlevel_k13_whole_no_reading_or_a_paper.main.body.getD i (.Pass ⟨0,0,0,0⟩)
abbrev zbB:Stmt:=top 1
abbrev zcl:Stmt:=top 2
abbrev zdh:Stmt:=top 3
abbrev zed:Stmt:=top 5
abbrev zls:Stmt:=top 6
abbrev zea:Stmt:=top 7
abbrev zjt:Stmt:=top 8
abbrev zd8:Stmt:=top 10
abbrev zdN:Stmt:=top 11
abbrev zmV:Stmt:=top 13
abbrev zfs:Stmt:=top 14
abbrev zcy:Stmt:=top 15
abbrev zbU:Stmt:=top 16
abbrev zew:Stmt:=top 17
abbrev zb2:Stmt:=top 18
abbrev zcU:Stmt:=top 20
abbrev zbe:Stmt:=top 21
abbrev zeh:Stmt:=top 22
abbrev zbM:Stmt:=top 23
abbrev zcn:Stmt:=top 24
abbrev zbw:Stmt:=top 25
abbrev zcq:Stmt:=top 26
abbrev zcp:Stmt:=top 27
abbrev sBox:Stmt:=top 29
abbrev zju:Stmt:=top 30
abbrev zh1:Stmt:=top 31
abbrev zmY:Stmt:=top 32
abbrev ziK:Stmt:=top 33
abbrev zir:Stmt:=top 34
abbrev zlG:Stmt:=top 35
abbrev zef:Stmt:=top 36
abbrev zhF:Stmt:=top 37
abbrev zh6:Stmt:=top 38
abbrev zl2:Stmt:=top 39
abbrev zmy:Stmt:=top 40
abbrev zfl:Stmt:=top 41
abbrev ziO:Stmt:=top 42
abbrev zil:Stmt:=top 43
abbrev sLaw:Stmt:=top 44
section
variable {P:Program} {w:PySem.World} {K:PySem.W.Frag} {mg:Str->Option Value} {base:Heap}
theorem zrT:FnScope ["_law_script"] ["_law_script"] (zas sBox):=⟨rfl,rfl,rfl,by decide +kernel,rfl,by decide +kernel,by decide +kernel⟩
theorem zqK {f:Addr} {fd:FuncData} (F:Fun K "_law_box" "_law_box" sBox f fd) (T:Txt K mg):FnOk P w K mg base CX0 1 f fd ["_law_script"] (zo2 K):=by
 refine F.ok zrT (λvs H Q E h=>?_) (λcdv A outer s H vs Q E hr h=>?_)
 ·obtain ⟨a,ns,rfl,_⟩:=h;rfl
 ·obtain ⟨a,ns,rfl,hS,hl,k⟩:=h;refine ⟨_,zaC (zbP (zeF (zah (zcw zeN rfl T.list PyProof.Rows.boot_list (zah (ze0 sl_list (pv 0) zgK (zhx zaI)) zat)) (zah zaI (zah zaI (zah zaI zat)))))),?_⟩;refine ⟨_,rfl,_,rfl,a,_,rfl,hS,λp hp=>?_⟩;rw [zsd hl];refine ⟨p,_,rfl,.inl (SqL.of zad),λc hc=>⟨by show 4 <= sizeLine;decide,λb hb=>?_⟩⟩;have hcp:c ≠ p:=λz=>by rw [z,zad] at hc;cases hc
  have hbc:b ≠ c:=λz=>by rw [z,zad] at hb;cases hb
  have hb1:upd H p (.lst (ns.map V.int)) b = none:=by rw [zaf hbc] at hb;exact hb
  have hbp:b ≠ p:=λz=>by rw [z,zad] at hb1;cases hb1
  have hc0:H c = none:=by rw [zaf hcp] at hc;exact hc
  have hb0:H b = none:=by rw [zaf hbp] at hb1;exact hb1
  refine k b c _ hb0 ⟨⟨0,0,17,zad,by decide,by decide,by decide,by decide⟩,by rw [zaf hbc.symm,zad],hl⟩ λx o e=>?_;rw [zaf (zae e hb0),zaf (zae e hc0),zaf (zae e hp)];exact e
theorem scTake:FnScope ["_law_box_here","_law_many","_law_rest","_law_cell","_law_seed"] ["_law_box_here","_law_many"] (zas zju):=⟨rfl,rfl,rfl,by decide +kernel,rfl,by decide +kernel,by decide +kernel⟩
theorem zi5 {f:Addr} {fd:FuncData} (F:Fun K "_law_take" "_law_take" zju f fd) (T:Txt K mg):FnOk P w K mg base CX0 1 f fd ["_law_box_here","_law_many"] zqt:=by
 refine F.ok scTake (λvs H Q E h=>?_) (λcdv A outer s H vs Q E hr h=>?_)
 ·obtain ⟨b,c,ns,m,rfl,_⟩:=h;rfl
 ·obtain ⟨b,c,ns,m,rfl,B,m0,m1,k⟩:=h;refine ⟨_,zak (zfX (zcI zpQ (zcQ ix_list (pv 0) zaI (λ_ _=>rfl)) zaI (zb0 _))
    (zak (zbq (i:=2) scTake.nd rfl (Or.inl rfl) (zcQ ix_list (pv 0) zaI (λ_ _=>rfl)))
    (zak (zdn (zbR zko (pv 2) (pv 1)) (zio (pv 0) zaI zcA))
    (zaC (zbP (zbR zgx (pv 2) (pv 1)))))) zci)
   (zak (zbq (i:=3) scTake.nd rfl (Or.inl rfl) zaI)
   (zak (zfX (zcI znt (zcQ ix_list (pv 0) zaI (λ_ _=>rfl)) (zbz zce rfl T.len PySem.boot_len (zah (zcQ ix_list (pv 0) zaI (λ_ _=>rfl)) zat)) (zb0 _))
    (zak (zbq (i:=3) scTake.nd rfl (Or.inl rfl) (zcQ ix_list (zcQ ix_list (pv 0) zaI (λ_ _=>rfl)) (zcQ ix_list (pv 0) zaI (λ_ _=>rfl)) (λ_ _=>rfl)))
    (zaC (zk2 (pv 0) zaI zjM zaI zjx zcA))) zci)
   (zak (zfX (zcI zp7 (pv 3) (zbR zlT zaI zaI) (zb0 _))
    (zak (zdn (zbR zko (pv 3) (pv 1)) (zio (pv 0) zaI zcA))
    (zaC (zbP (zbR zgx (pv 3) (pv 1))))) zci)
   (zak (zbq (i:=4) scTake.nd rfl (Or.inl rfl) (zcQ ix_list (pv 0) zaI (λ_ _=>rfl)))
   (zak (zbq (i:=4) scTake.nd rfl (Or.inl rfl) (zbR op_add (zbR op_add (zbR zlT (pv 4) zaI) (zbR op_mul zaI (pv 4))) (zbR op_mul zaI (zbR zgx (pv 3) zaI))))
   (zak (zdn (zbR zgx (zbR op_add (pv 4) zaI) zaI) (zio (pv 0) zaI zcA))
   (zaC (zbP (zbR zgx (zbR zpk (zcQ ix_list (pv 0) zaI (λ_ _=>rfl)) zaI) (pv 1)))))))))),?_⟩
  obtain ⟨p,r,d,e,hp0,hr0,hd0,hd1⟩:=B.ex;refine ⟨_,rfl,b,_,_,.int r,rfl,rfl,SqL.of e,rfl,_,_,rfl,rfl,_,rfl,?_⟩;refine ite2 (λh0=>?_) (λh0=>?_)
  ·refine ⟨_,rfl,b,_,_,.int r,rfl,rfl,SqL.of e,rfl,?_⟩;refine ⟨_,rfl,_,rfl,_,_,rfl,rfl,⟨m0,m1⟩,_,rfl,b,_,_,2,rfl,rfl,e,rfl,?_⟩;refine ⟨_,rfl,_,rfl,_,_,rfl,rfl,m0,?_⟩;exact k _ _ (YBF _ (by omega)) (YBu _ m0) (B.put hp0 (Int.ediv_nonneg hr0 (by omega)) hd0 hd1) Ext.upd
  refine ⟨_,rfl,b,_,_,.int p,rfl,rfl,SqL.of e,rfl,_,rfl,b,_,_,.ref c,rfl,rfl,SqL.of e,rfl,c,_,rfl,.inl (SqL.of B.cells),_,_,rfl,rfl,_,rfl,?_⟩;refine ite2 (λh1=>?_) (λh1=>?_)
  ·have hlt:=YAM h1;rw [YAd] at hlt;obtain ⟨z,hz⟩:∃ z,ns[p.toNat]? = some z:=⟨_,YAe (by omega)⟩;have hat:atI (ns.map V.int) p = some (.int z):=by
    have q:=zez (xs:=ns.map V.int) (j:=p.toNat) (v:=.int z) (by rw [YAu,hz];rfl)
    rwa [YBq hp0] at q
   refine ⟨_,rfl,b,_,_,.ref c,rfl,rfl,SqL.of e,rfl,_,rfl,b,_,_,.int p,rfl,rfl,SqL.of e,rfl,c,_,_,.int z,rfl,rfl,SqL.of B.cells,hat,?_⟩;refine ⟨_,rfl,b,_,1,.int p,rfl,rfl,SqL.of e,rfl,_,_,rfl,rfl,b,_,_,1,rfl,rfl,e,rfl,?_⟩;have e1:upd H b (boxV c (p + 1) r d) b = some (boxV c (p + 1) r d):=zad;have hp1:0 <= p + 1:=by omega
   have B1:=B.put hp1 hr0 hd0 hd1;have X1:Ext b H (upd H b (boxV c (p + 1) r d)):=Ext.upd;refine ⟨_,rfl,_,_,rfl,rfl,⟨by decide,by decide,by decide⟩,_,_,rfl,rfl,_,rfl,?_⟩;refine ite2 (λh2=>?_) (λh2=>?_)
   ·refine ⟨_,rfl,_,rfl,_,_,rfl,rfl,⟨m0,m1⟩,_,rfl,b,_,_,2,rfl,rfl,e1,rfl,_,rfl,_,rfl,_,_,rfl,rfl,m0,?_⟩;have hz0:(0:Int) <= z:=by
     have:=YAM h2
     exact Int.le_trans (by decide) this
    exact k _ _ (YBF _ (by omega)) (YBu _ m0) (B1.put hp1 (Int.ediv_nonneg hz0 (by omega)) hd0 hd1) (X1.trans Ext.upd)
   ·refine ⟨_,rfl,b,_,_,.int d,rfl,rfl,SqL.of e1,rfl,?_⟩;refine ⟨_,rfl,_,_,rfl,rfl,⟨by decide,by decide,by omega⟩,_,rfl,_,_,rfl,rfl,.inl ⟨by decide,by decide⟩,_,_,rfl,rfl,_,rfl,_,_,rfl,rfl,(by show (0:Int) < 2147483629;decide),_,_,rfl,rfl,.inl ⟨by decide,by decide⟩,_,_,rfl,rfl,?_⟩;refine ⟨_,rfl,_,_,rfl,rfl,_,_,rfl,rfl,(by show (0:Int) < 2147483629;decide),_,rfl,b,_,_,3,rfl,rfl,e1,rfl,?_⟩;refine ⟨_,rfl,b,_,_,_,rfl,rfl,SqL.of zad,rfl,_,_,rfl,rfl,⟨by decide,by decide⟩,_,rfl,_,_,rfl,rfl,m0,?_⟩;exact k _ _ (YBF _ (by omega)) (YBu _ m0) (B1.put hp1 hr0 (YBF _ (by decide)) (YBu _ (by decide))) (X1.trans Ext.upd)
  ·have e1:=e;have hp1:=hp0;have B1:=B;have X1:Ext b H H:=Ext.refl _ _;refine ⟨_,rfl,_,_,rfl,rfl,⟨by decide,by decide,by decide⟩,_,_,rfl,rfl,_,rfl,?_⟩;refine ite2 (λh2=>?_) (λh2=>?_)
   ·refine ⟨_,rfl,_,rfl,_,_,rfl,rfl,⟨m0,m1⟩,_,rfl,b,_,_,2,rfl,rfl,e1,rfl,_,rfl,_,rfl,_,_,rfl,rfl,m0,?_⟩;have hz0:(0:Int) <= 0:=Int.le_refl _;exact k _ _ (YBF _ (by omega)) (YBu _ m0) (B1.put hp1 (Int.ediv_nonneg hz0 (by omega)) hd0 hd1) (X1.trans Ext.upd)
   ·refine ⟨_,rfl,b,_,_,.int d,rfl,rfl,SqL.of e1,rfl,?_⟩;refine ⟨_,rfl,_,_,rfl,rfl,⟨by decide,by decide,by omega⟩,_,rfl,_,_,rfl,rfl,.inl ⟨by decide,by decide⟩,_,_,rfl,rfl,_,rfl,_,_,rfl,rfl,(by show (0:Int) < 2147483629;decide),_,_,rfl,rfl,.inl ⟨by decide,by decide⟩,_,_,rfl,rfl,?_⟩;refine ⟨_,rfl,_,_,rfl,rfl,_,_,rfl,rfl,(by show (0:Int) < 2147483629;decide),_,rfl,b,_,_,3,rfl,rfl,e1,rfl,?_⟩;refine ⟨_,rfl,b,_,_,_,rfl,rfl,SqL.of zad,rfl,_,_,rfl,rfl,⟨by decide,by decide⟩,_,rfl,_,_,rfl,rfl,m0,?_⟩;exact k _ _ (YBF _ (by omega)) (YBu _ m0) (B1.put hp1 hr0 (YBF _ (by decide)) (YBu _ (by decide))) (X1.trans Ext.upd)
end
end Fen
namespace Fd
open PySem L2
section
variable {P:Program} {w:World} {K:PySem.W.Frag} {mg:Str->Option Value} {base:Heap}
theorem zi5 {f:Addr} {fd:FuncData} (F:Fun K "_law_take" "_law_take" Fen.zju f fd) (T:Bt mg):FnOk P w K mg base CX0 1 f fd ["_law_box_here","_law_many"] (spD K 2 zam):=by
 refine (Fen.zi5 F ⟨T.list,T.len,T.range⟩).imp λvs H Q E ⟨β,G,ds,gh,bx,hv,hl,P',q,hP⟩=>?_;unfold zam at q;split at q
 ·rename_i m
  obtain ⟨v1,v2,rfl,e1,e2⟩:=zpO hv;cases e1;cases e2;obtain ⟨cc,p,r,d,ns,hb,p0,r0,d0,d1,hc,hn⟩:=bx.ex;refine ⟨β,cc,ns,m,rfl,⟨⟨p,r,d,hb,p0,r0,d0,d1⟩,gh _ _ hc,hn⟩,q.1.1,q.1.2,λx H' x0 x1 B X=>?_⟩;refine hP _ (q.2 x x0 x1) _ H' G ⟨Same.refl _,λa o e=>?_,λa o n e=>X a o n e,λa e=>.inl e,⟨?_,bx.still⟩,λz=>by rw [hb] at z;cases z⟩ rfl
  ·have na:a ≠ β:=λz=>by rw [z,bx.still] at e;cases e
   exact X a o na (gh a o e)
  ·obtain ⟨p',r',d',e',q'⟩:=B.ex;exact ⟨cc,p',r',d',ns,e',q'.1,q'.2.1,q'.2.2.1,q'.2.2.2,hc,hn⟩
 ·exact q.elim
def zk3 (K:PySem.W.Frag):Sp:=λvs H Q _=>∃ (a:Addr) (ns:List Int),vs = [.ref a]/\SqL K H a (ns.map V.int)/\ns.length <= 63/\∀ H',Q (.bl true) H'
theorem zqB {f:Addr} {fd:FuncData} {st:Stmt} {rest:List Stmt} {N:List Str} {n k:Nat} {B:WS} {p1 p2 p3 p4 p5:Pos} (F:Fun K "law" "law" st f fd)
  (hbd:zbZ st = .Assign [.Name "_law_box_here" p1] (.Call (.Name "_law_box" p2) [.Name "_law_script" p3] [] p4) p5 :: rest)
  (cB:Cal P w K mg base "_law_box" 1 ["_law_script"] (Fen.zo2 K))
  (hB:∀ {cdv:Value} {A:Around} {outer:List PySem.Env} {s:Shared} {H:Hp} {E:XK} {β:Addr} {H1 G1:Hp},(("_law_script" :: "_law_box_here" :: N:List Str)).Nodup->Room k (A.deeper (PyProof.Rows.envOfC "law" (zas st) s.heap.objs.size f cdv)) ->
   DSs (cxOf CX0 P w K mg base ("_law_script" :: "_law_box_here" :: N) "law" (zas st) f cdv A outer s H E).nox ⟨K,β,H1,G1⟩ rest B)
  (h:lawW n B) (hN:N.length = n:=by rfl) (S:FnScope ("_law_script" :: "_law_box_here" :: N) ["_law_script"] (zas st):=by exact ⟨rfl,rfl,rfl,by decide +kernel,rfl,by decide +kernel,by decide +kernel⟩)
  (hgl:(zas st).names.lookup ("_law_box" : Str) = some .globalImplicit:=by decide +kernel) (hs0:(zas st).names.lookup ("_law_script" : Str) = some .local:=by decide +kernel) (hs1:(zas st).names.lookup ("_law_box_here" : Str) = some .local\/(zas st).names.lookup ("_law_box_here" : Str) = some .cell:=by decide +kernel) (hk:1 <= k:=by decide):FnOk P w K mg base CX0 (k + 1) f fd ["_law_script"] (zk3 K):=by
 refine F.ok S (λvs H Q E ⟨a,ns,e,_⟩=>by rw [e];rfl) (λcdv A outer s H vs Q E hr ⟨a,ns,e,hS,hl,q⟩=>?_);subst e;have hrest:PSs (cxOf CX0 P w K mg base ("_law_script" :: "_law_box_here" :: N) "law" (zas st) f cdv A outer s H E).nox rest (λD σ H'=>∃ β H1 G1,tDS ⟨K,β,H1,G1⟩ B D σ H'):=λpins s' σ H' D I ⟨β,H1,G1,z⟩=>(@hB cdv A outer s H E β H1 G1 S.nd hr).pss pins s' σ H' D I z;rw [hbd];obtain ⟨fB,fdB,FB,mB,kB,bB⟩:=cB.ex;refine ⟨_,zak (zbq (i:=1) S.nd rfl hs1 (zi8 FB (hr.mono hk) hgl mB kB bB .nil zpR (zah (zdV (i:=0) rfl (.inl hs0)) zat)) rfl (.inl rfl)) hrest,?_⟩;refine ⟨.ref a,rfl,a,ns,rfl,hS,hl,λb cc H1 hb Bx Sm=>?_⟩;obtain ⟨p,r,d,e,p0,r0,d0,d1⟩:=Bx.ex;have hcc:=Bx.cells;have nb:b ≠ cc:=Bx.ne
 let G1:Hp:=λx=>if x = cc then some (.lst (ns.map V.int)) else none
 have gcc:G1 cc = some (.lst (ns.map V.int)):=by show (if cc = cc then _ else _) = _;rw [if_pos rfl]
 have gb:G1 b = none:=by show (if b = cc then _ else _) = _;rw [if_neg nb]
 have gh:Same G1 H1:=λx o ex=>by
  have ex':(if x = cc then some (HO.lst (ns.map V.int)) else none) = some o:=ex;split at ex'
  ·rename_i z;rw [z,hcc];exact ex'
  ·cases ex'
 have bx:BoxD b H1 G1:=⟨⟨cc,p,r,d,ns,e,p0,r0,d0,d1,gcc,Bx.few⟩,gb⟩;refine ⟨b,H1,G1,.un :: .val .box :: List.replicate n .un,G1,⟨?_,Stp.refl gh bx,λi sl ei=>?_,λi j x xs ys ei=>?_⟩,(@hB cdv A outer s H E b H1 G1 S.nd hr).mono { nx:=λ_=>False,rt:=λd=>d = .bl true,bk:=λ_=>False,ct:=λ_=>False } _ _ ⟨λρ z=>z.elim,λd z v H' G' t ev=>?_,λρ z=>z.elim,λρ z=>z.elim⟩ h⟩
 ·simp [L2.start,hN]
 ·match i with
  | 0=>cases ei;trivial
  | 1=>cases ei;exact ⟨.ref b,rfl,rfl⟩
  | i + 2=>
   rw [List.getElem?_cons_succ,List.getElem?_cons_succ,List.getElem?_replicate] at ei;split at ei <;> cases ei
   trivial
 ·match i with
  | 0=>cases ei
  | 1=>cases ei
  | i + 2=>
   rw [List.getElem?_cons_succ,List.getElem?_cons_succ,List.getElem?_replicate] at ei;split at ei <;> cases ei
 ·subst z;cases ev;exact q H'
end
end Fd
namespace Fen
open PySem L2
section
variable {P:Program} {w:PySem.World} {K:PySem.W.Frag} {mg:Str->Option Value} {base:Heap}
theorem zoP:FnScope ["runs","heights"] ["runs","heights"] (zas zea):=⟨rfl,rfl,rfl,by decide +kernel,rfl,by decide +kernel,by decide +kernel⟩
theorem zhi {f:Addr} {fd:FuncData} (F:Fun K "holds" "holds" zea f fd) (T2:Txt2 mg):FnOk P w K mg base CX0 1 f fd ["runs","heights"] (ziU K):=by
 refine F.ok zoP (λvs H Q E h=>?_) (λcdv A outer s H vs Q E hr h=>?_)
 ·obtain ⟨a,b,rs,hs,rfl,_⟩:=h;rfl
 ·obtain ⟨a,b,rs,hts,rfl,ha,R,hb,V0,hz,k⟩:=h;refine ⟨_,zaC (zbP (zbz (zhG rfl) rfl T2.all PyProof.Rows.boot_all (zah (zjX (g:=gTup K 4 (zeR (zcR 0) (zeR (zcR 1) (zeR (zcR 2) (zeR (zcR 3) gNil))))) rfl
   (CompScope.of (N:=["runs","heights"]) (osc:=zas zea) (Nc:=["one","other","rise","hand","heights"]) (sub:=[none,none,none,none,some 1]) (by decide +kernel)) (ze2 (pv 0))
   (λ_ _ _ _ _=>zcv (n:=4) rfl (zac (zay (i:=0) zgP rfl (Or.inl rfl) (Or.inr rfl)) (zac (zay (i:=1) zgP rfl (Or.inl rfl) (Or.inr rfl)) (zac (zay (i:=2) zgP rfl (Or.inl rfl) (Or.inr rfl)) (zac (zay (i:=3) zgP rfl (Or.inl rfl) (Or.inr rfl)) zax)))))
   (zrh (zdQ (zeB rfl) zbk (zdQ (zeB rfl) zbk (zdQ (zeB rfl) zbk (zdQ (zeB rfl) zbk zlX zer) (zby zbk zer)) (zby zbk (zby zbk zer))) (zby zbk (zby zbk (zby zbk zer)))))
   (zqg (zby zbk (zby zbk (zby zbk (zby zbk zer)))))
   (λ_ _ _ _ _=>pif0) (λ_ _ _ _ _=>zlU zqW (zbR zmM (zcQ (r:=rIxL K) ix_list (pv 4) (pv 1) (λ_ _=>rfl)) (zcQ (r:=rIxL K) ix_list (pv 4) (pv 0) (λ_ _=>rfl))) (pv 2) (zb0 _))) zat))),?_⟩
  refine ⟨_,rfl,a,rfl,⟨_,ha⟩,λl hl=>?_⟩;refine zkC ha R hb V0 hz hl ?_;exact ⟨l,_,rfl,SqL.of zad,k l _ hl⟩
theorem scSteps:FnScope Nst ["size","runs","struck"] (zas zbB):=⟨rfl,rfl,rfl,by decide +kernel,rfl,by decide +kernel,by decide +kernel⟩
theorem znn {f:Addr} {fd:FuncData} (F:Fun K "steps_from" "steps_from" zbB f fd) (T:Txt K mg) (T4:mg "enumerate" = none):FnOk P w K mg base CX0 1 f fd ["size","runs","struck"] (zgO K):=by
 refine F.ok scSteps (λvs H Q E h=>?_) (λcdv A outer s0 H vs Q E hr h=>?_)
 ·obtain ⟨n,a,s,rs,hs,rfl,_⟩:=h;rfl
 ·obtain ⟨n,a,s,rs,hs,rfl,ha,R,VM,hsq,hn,hz,k⟩:=h;have nd:=scSteps.nd;refine ⟨_,zak (zl0 (i:=3) rfl nd rfl rfl (CompScope.of (N:=Nst) (osc:=zas zbB) (Nc:=["mark"]) (sub:=[none]) (by decide +kernel)) (zfo rfl T.range (zah (pv 0) zat))
    (λ_ _ _ _ _=>zay (i:=0) zpD rfl (Or.inl rfl) (Or.inr rfl)) (zeB rfl) zbk (λ_ _ _ _ _=>pif0) (λ_ _ _ _ _=>zeF zat))
   (zak (zd2 YBm rfl (zmb rfl T4 (zah (pv 1) zat)) (zcv (n:=2) rfl (zac (zay (i:=4) nd rfl (Or.inl rfl)) (zac (zcv (n:=4) rfl (zac (zay (i:=5) nd rfl (Or.inl rfl)) (zac (zay (i:=6) nd rfl (Or.inl rfl)) (zac (zay (i:=7) nd rfl (Or.inl rfl)) (zac (zay (i:=8) nd rfl (Or.inl rfl)) zax))))) zax)))
    (zaC (zfX (zcI zeD (pv 8) (pv 2) (by with_unfolding_all rfl))
     (zak (zcV (zkI YBt PySem.F.slot_list_append PySem.F.type_list_append zbY (zcQ ix_list (pv 3) (pv 5) (λ_ _=>rfl)) (zah (zdK (zah (pv 4) (zah (pv 6) (zah (pv 7) zat)))) zat)))
     (zaC (zcV (zkI YBt PySem.F.slot_list_append PySem.F.type_list_append zbY (zcQ ix_list (pv 3) (pv 6) (λ_ _=>rfl)) (zah (zdK (zah (pv 4) (zah (pv 5) (zah (zpu zlI (pv 7)) zat)))) zat))))) zci)))
   (zaC (zbP (pv 3)))),?_⟩
  refine ⟨_,rfl,n,rfl,by omega,by omega,λls hls=>?_⟩;refine zkM (Pv:=λi xs H2=>∃ ad:List Addr,xs = ad.map V.ref/\ad.length = i/\H2 ls = some (.lst xs)/\Same H H2/\(∀ x ∈ ad,H2 x = some (.lst []))/\ad.Nodup/\ls ∉ ad/\∀ x ∈ ad,H x = none)
   ⟨[],rfl,rfl,zad,zal hls,(λx h=>by cases h),List.nodup_nil,(by simp),(λx h=>by cases h)⟩ (λi xs H2 _ ⟨ad,_,_,h,_⟩=>h) ?_ ?_
  ·rintro i xs H2 hi ⟨ad,rfl,hal,h2,S2,hal2,hnd,hno,hfr⟩;refine zrB ?_;refine ⟨by show 0 <= sizeLine;exact YAF _,λl hl=>⟨zal hl _ _ h2,?_,ad ++ [l],by rw [YAy];rfl,by rw [YAs,hal];rfl,zad,λc o e=>?_,λx hx=>?_,?_,?_,λx hx=>?_⟩⟩
   ·rw [YAd,YAR];omega
   ·rw [zaf (zae e hls)];exact zal hl _ _ (S2 c o e)
   ·have nls:ls ≠ l:=zae h2 hl;rcases YAr.mp hx with q | q
    ·have:=hal2 x q
     have nx:x ≠ ls:=λz=>hno (z ▸ q);rw [zaf nx,zaf (zae this hl)];exact this
    ·rw [YAg.mp q,zaf nls.symm,zad]
   ·exact zhm hnd λq=>by have:=hal2 l q;rw [hl] at this;cases this
   ·intro q;rcases YAr.mp q with q | q
    ·exact hno q
    ·exact zae h2 hl (YAg.mp q)
   ·rcases YAr.mp hx with q | q
    ·exact hfr x q
    ·rw [YAg.mp q];exact S2.free hl
  rintro xs H2 ⟨ad,rfl,hal,h2,S2,hal2,hnd,hno,hfr⟩;rw [YAC] at hal;have St0:Steps H2 ls ad λ_=>[]:=⟨h2,λm x h=>hal2 x (YAA h),(λm t _ h=>by cases h),hnd,hno⟩;have Ok0:StepsOk rs hs 0 λ_=>[]:=⟨(λm t h=>by cases h),(λi r h=>absurd h (Nat.not_lt_zero _)),(λm=>YAF _),(λm=>rfl)⟩;refine ⟨_,rfl,a,_,rfl,S2.seq ha,zjH (K:=K) (a:=a) (xs:=rs.map runV) (λi σ H3=>∃ (cs:Nat->List Tri) (o4 o5 o6 o7 o8:Option V),σ = [some (.int n),some (.ref a),some (.ref s),some (.ref ls),o4,o5,o6,o7,o8]/\Same H H3/\Steps H3 ls ad cs/\StepsOk rs hs i cs)
   ⟨_,_,_,_,_,_,rfl,S2,St0,Ok0⟩ (λi σ H3 _ ⟨_,_,_,_,_,_,_,S,_⟩=>S.seq ha) ?_ ?_⟩
  ·rintro i x t σ H3 hx ht ⟨cs,o4,o5,o6,o7,o8,rfl,S3,St,Ok⟩;obtain ⟨r,hr,rfl,hrt⟩:=R.at_ hx;have V0:=VM r (YAA hr);have hil:i < rs.length:=(YAi.mp hr).1;have S4:=S3.trans (zal (o:=.tup [.int i,.ref r.p]) ht);have St4:=St.same (zal (o:=.tup [.int i,.ref r.p]) ht);refine ⟨t,_,rfl,SqT.of zad,rfl,_,_,rfl,_,_,rfl,r.p,_,rfl,zkn S4 hrt,rfl,_,_,rfl,_,_,rfl,_,_,rfl,_,_,rfl,rfl,rfl,?_⟩;generalize upd H3 t (.tup [.int i,.ref r.p]) = H4 at *;refine ⟨_,rfl,_,rfl,s,_,rfl,.inl (S4.seq hsq),rfl,zhU hs,_,rfl,?_⟩;rw [if_pos rfl,zkt];cases hc:hs.contains r.hand with
   | true=>
    refine iteF ⟨cs,_,_,_,_,_,rfl,S4,St4,Ok.up hr hc⟩
   | false=>
    refine iteT ?_;obtain ⟨l1,e1⟩:∃ l1,ad[r.one.toNat]? = some l1:=⟨_,YAe (by omega)⟩;obtain ⟨l2,e2⟩:∃ l2,ad[r.other.toNat]? = some l2:=⟨_,YAe (by omega)⟩;have at1:atI (ad.map V.ref) r.one = some (.ref l1):=by
     have q:=zez (xs:=ad.map V.ref) (j:=r.one.toNat) (v:=.ref l1) (by rw [YAu,e1];rfl)
     rwa [YBq V0.1] at q
    have at2:atI (ad.map V.ref) r.other = some (.ref l2):=by
     have q:=zez (xs:=ad.map V.ref) (j:=r.other.toNat) (v:=.ref l2) (by rw [YAu,e2];rfl)
     rwa [YBq V0.2.2.1] at q
    have hl1:=St4.row _ _ e1;refine ⟨_,rfl,_,rfl,ls,_,_,_,rfl,rfl,SqL.of St4.top,at1,.inl ⟨rfl,_,SqL.of hl1⟩,_,rfl,_,rfl,_,rfl,by show 3 <= sizeLine;decide,λt1 ht1=>?_⟩;have few:=Ok.few r.one.toNat;refine ⟨l1,_,_,rfl,rfl,zal ht1 _ _ hl1,by rw [YAd,YAR];omega,?_⟩;have St5:=St4.push e1 ht1 (n:=i) (e:=r.other) (d:=r.rise);have hl1H:H l1 = none:=hfr l1 (YAA e1);have hl2H:H l2 = none:=hfr l2 (YAA e2);have S5:Same H (upd (upd H4 t1 (.tup [.int i,.int r.other,.int r.rise])) l1 (.lst ((cs r.one.toNat).map triV ++ [.ref t1]))):=λc o e=>by rw [zaf (zae e hl1H)];exact zal ht1 _ _ (S4 c o e)
    generalize upd (upd H4 t1 (.tup [.int i,.int r.other,.int r.rise])) l1 (.lst ((cs r.one.toNat).map triV ++ [.ref t1])) = H5 at *;have hl2:=St5.row _ _ e2;refine ⟨_,rfl,_,rfl,ls,_,_,_,rfl,rfl,SqL.of St5.top,at2,.inl ⟨rfl,_,SqL.of hl2⟩,_,rfl,_,rfl,_,rfl,_,rfl,by show 3 <= sizeLine;decide,λt2 ht2=>?_⟩;have few2:(addC cs r.one.toNat ⟨t1,i,r.other,r.rise⟩ r.other.toNat).length <= 2 * i + 1:=by
     have:=Ok.few r.other.toNat
     unfold addC;split
     ·rename_i q;rw [<- q,YAs];simp;omega
     ·omega
    refine ⟨l2,_,_,rfl,rfl,zal ht2 _ _ hl2,by rw [YAd,YAR];omega,?_⟩;have St6:=St5.push e2 ht2 (n:=i) (e:=r.one) (d:=-r.rise);refine ⟨_,_,_,_,_,_,rfl,λc o e=>?_,St6,Ok.add hr hc V0.1 V0.2.2.1⟩;rw [zaf (zae e hl2H)];exact zal ht2 _ _ (S5 c o e)
  ·rintro σ H3 ⟨cs,o4,o5,o6,o7,o8,rfl,S3,St,Ok⟩;rw [YAd] at Ok;exact ⟨_,rfl,k ls ad cs H3 S3 hal St Ok hfr hls⟩
theorem scTree:FnScope Ntr ["start","steps"] (zas zcl):=⟨rfl,rfl,rfl,by decide +kernel,rfl,by decide +kernel,by decide +kernel⟩
theorem zpq {f:Addr} {fd:FuncData} (F:Fun K "tree_from" "tree_from" zcl f fd):FnOk P w K mg base CX0 1 f fd ["start","steps"] (zj4 K):=by
 refine F.ok scTree (λvs H Q E h=>?_) (λcdv A outer s0 H vs Q E hr h=>?_)
 ·obtain ⟨start,ls,n,ad,cs,rs,hs,rfl,_⟩:=h;rfl
 ·obtain ⟨start,ls,n,ad,cs,rs,hs,rfl,st0,st1,St,hal,So,VM,hn,hz,k⟩:=h;have nd:=scTree.nd;have hu:=zn2 hr;refine ⟨_,zak (zbq (i:=2) nd rfl (Or.inl rfl) (zoZ (zn6 (pv 0) (zdK (zah zaI (zah (zdK zat) zat))) zpS) rfl rfl (by simp) (by decide)))
   (zak (zbq (i:=3) nd rfl (Or.inl rfl) (zeF (zah (pv 0) zat)))
   (zak (zkh YBm (zjB (pv 3) (λ_=>rfl))
    (zak (zbq (i:=4) nd rfl (Or.inl rfl) (zeF zat))
    (zak (zd2 YBm rfl (ze2 (pv 3)) (zay (i:=5) nd rfl (Or.inl rfl))
     (zak (zdn (zgG hu (pv 2) (pv 5) (λ_ _=>rfl)) (zcv (n:=2) rfl (zac (zay (i:=6) nd rfl (Or.inl rfl)) (zac (zay (i:=7) nd rfl (Or.inl rfl)) zax))))
     (zaC (zd2 YBm rfl (ze2 (zcQ ix_list (pv 1) (pv 5) (λ_ _=>rfl))) (zcv (n:=3) rfl (zac (zay (i:=8) nd rfl (Or.inl rfl)) (zac (zay (i:=9) nd rfl (Or.inl rfl)) (zac (zay (i:=10) nd rfl (Or.inl rfl)) zax))))
      (zaC (zfX (ziA (zfj hu (pv 9) (pv 2)))
       (zak (zoO hu (pv 2) (pv 9) (zdK (zah (zbR op_add (pv 6) (pv 10)) (zah (zbR zi9 (pv 7) (zdK (zah (pv 8) zat))) zat))) rfl)
       (zaC (zcV (zkI YBt PySem.F.slot_list_append PySem.F.type_list_append zbY (pv 4) (zah (pv 9) zat))))) zci))))))
    (zaC (zbq (i:=3) nd rfl (Or.inl rfl) (pv 4))))))
   (zaC (zbP (pv 2))))),?_⟩
  intro dt hdt;refine ⟨_,rfl,by show 0 <= sizeLine;exact YAF _,λl0 hl0=>⟨by show 2 <= sizeLine;decide,λt0 ht0=>?_⟩⟩;have hdt1:upd H dt (.dK []) dt = some (.dK []):=zad;have hdt2:=zal (o:=.tup [.int 0,.ref l0]) ht0 _ _ (zal (o:=.tup []) hl0 _ _ hdt1);refine ⟨hdt2,[(Sum.inl start,.ref t0)],rfl,by show 1 <= 15;decide,?_⟩;have SA:Same H (upd (upd (upd H dt (.dK [])) l0 (.tup [])) t0 (.tup [.int 0,.ref l0])):=((zal hdt).trans (zal hl0)).trans (zal ht0);have SB:Same H (upd (upd (upd (upd H dt (.dK [])) l0 (.tup [])) t0 (.tup [.int 0,.ref l0])) dt (.dK (mergeK [] [(Sum.inl start,.ref t0)]))):=λc o e=>by rw [zaf (zae e hdt)];exact SA c o e
  have hl01:upd (upd (upd H dt (.dK [])) l0 (.tup [])) t0 (.tup [.int 0,.ref l0]) l0 = some (.tup []):=zal (o:=.tup [.int 0,.ref l0]) ht0 _ _ zad;have TH0:TreeH K (upd (upd (upd (upd H dt (.dK [])) l0 (.tup [])) t0 (.tup [.int 0,.ref l0])) dt (.dK (mergeK [] [(Sum.inl start,.ref t0)]))) dt [⟨start,t0,0,l0,[]⟩]:=by
   refine ⟨zad,λx hx=>?_⟩;rw [YAg.mp hx];exact ⟨zeo zad hdt2 trivial,zgU (SqT.of hl01) hdt2 trivial⟩
  generalize (upd (upd (upd (upd H dt (.dK [])) l0 (.tup [])) t0 (.tup [.int 0,.ref l0])) dt (.dK (mergeK [] [(Sum.inl start,.ref t0)]))) = HA at *;have TO0:TreeOk rs hs start n [⟨start,t0,0,l0,[]⟩]:=by
   refine ⟨by simp [zau],λx hx=>?_,λx hx=>?_,λx hx z hz=>?_,λx hx y hy i j z hi hj=>?_,YAh,λx hx=>?_,λx hx z hz=>?_⟩
   ·rw [YAg.mp hx];exact ⟨st0,st1⟩
   ·rw [YAg.mp hx];rfl
   ·rw [YAg.mp hx] at hz;cases hz
   ·rw [YAg.mp hx] at hi;simp at hi
   ·rw [YAg.mp hx];show 0 < 1;decide
   ·rw [YAg.mp hx] at hz;cases hz
  clear hdt1 hdt2 SA hl01 hl0 ht0;refine ⟨_,rfl,by show 1 <= sizeLine;decide,λln0 hln0=>?_⟩;obtain ⟨W,hW⟩:∃ W:Nat->L2.St->Hp->Prop,W = λm σ H2=>∃ (ns:List Nd) (nw:List Int) (ln:Addr) (o4 o5 o6 o7 o8 o9 o10:Option V),σ = [some (.int start),some (.ref ls),some (.ref dt),some (.ref ln),o4,o5,o6,o7,o8,o9,o10]/\m = 2 * (n - ns.length) + (if nw = [] then 0 else 1)/\Same H H2/\TreeH K H2 dt ns/\TreeOk rs hs start n ns/\H2 ln = some (.lst (nw.map V.int))/\(∀ z ∈ nw,z ∈ zau ns)/\(∀ x ∈ ns,x.m ∈ nw\/Closed cs ns x.m)/\∃ q,itT (stepsF rs hs rs.length) start q = (ns.map za5,nw):=⟨_,rfl⟩;refine ⟨W,⟨_,by
   rw [hW];exact ⟨[⟨start,t0,0,l0,[]⟩],[start],ln0,_,_,_,_,_,_,_,rfl,rfl,SB.trans (zal hln0),TH0.same (zal hln0),TO0,zad,λz hz=>hz,(λx hx=>.inl (by rw [YAg.mp hx];exact YAh)),0,rfl⟩⟩,λm σ H2 hw=>?_⟩
  rw [hW] at hw;obtain ⟨ns,nw,ln,o4,o5,o6,o7,o8,o9,o10,rfl,hm,S2,TH,TO,hln,hnk,hcl,kq,hkq⟩:=hw;refine ⟨_,rfl,_,.inl ⟨_,SqL.of hln,rfl⟩,?_⟩;refine ite2 (λhne=>?_) (λhne=>?_)
  ·have hnw:nw ≠ []:=λe=>by rw [e] at hne;simp at hne
   refine ⟨λσ' H'=>∃ m',m' < m/\W m' σ' H',λ_ _ h=>h,?_⟩;refine ⟨by show 0 <= sizeLine;exact YAF _,λlf hlf=>?_⟩;have fl:H lf = none:=S2.free hlf;have nll:ln ≠ lf:=zae hln hlf;have TI0:TI K H rs hs start n dt ln lf nw ns.length (upd H2 lf (.lst [])) ns []:=
    ⟨S2.trans (zal hlf),TH.same (zal hlf),TO,zal hlf _ _ hln,zad,(λz hz=>by cases hz),hnk,by simp⟩
   generalize upd H2 lf (.lst []) = H3 at *;refine ⟨_,rfl,ln,rfl,⟨_,SqL.of TI0.hln⟩,zeZ (K:=K) (a:=ln) (xs:=nw.map V.int) (λi σ H4=>∃ (ns':List Nd) (fr:List Int) (o5 o6 o7 o8 o9 o10:Option V),σ = [some (.int start),some (.ref ls),some (.ref dt),some (.ref ln),some (.ref lf),o5,o6,o7,o8,o9,o10]/\TI K H rs hs start n dt ln lf nw ns.length H4 ns' fr/\(∀ x ∈ ns',x.m ∈ nw.drop i\/x.m ∈ fr\/Closed cs ns' x.m)/\(ns'.map za5,fr) = (nw.take i).foldl (exM (stepsF rs hs rs.length)) (ns.map za5,[]))
    ⟨ns,[],_,_,_,_,_,_,rfl,TI0,(λx hx=>(hcl x hx).elim .inl λh=>.inr (.inr h)),rfl⟩ (λi σ H4 _ ⟨_,_,_,_,_,_,_,_,_,X,_⟩=>SqL.of X.hln) ?_ ?_⟩
   ·rintro i v σ H4 hv ⟨ns1,fr1,p5,p6,p7,p8,p9,p10,rfl,X1,C1,P1⟩;obtain ⟨z,hz1,rfl⟩:=zpn hv;obtain ⟨p,hp,rfl⟩:=mem_keys.mp (X1.nwk z (YAA hz1));have pm:=X1.tok.inm p hp;have dg:DGet H4 dt (.int p.m) (some (.ref p.t)):=by
     have:=DGet.k (k:=Sum.inl p.m) X1.th.dict
     rw [zfN X1.tok.nod hp] at this;exact this
    refine ⟨_,rfl,_,rfl,dt,_,rfl,dg,p.t,_,rfl,SqT.of (X1.th.node p hp).1,rfl,_,_,rfl,_,_,rfl,rfl,?_⟩;obtain ⟨l1,e1⟩:∃ l1,ad[p.m.toNat]? = some l1:=⟨_,YAe (by omega)⟩;have at1:atI (ad.map V.ref) p.m = some (.ref l1):=by
     have q:=zez (xs:=ad.map V.ref) (j:=p.m.toNat) (v:=.ref l1) (by rw [YAu,e1];rfl)
     rwa [YBq pm.1] at q
    have St4:=St.same X1.same;refine ⟨_,rfl,_,rfl,ls,_,_,_,rfl,rfl,SqL.of St4.top,at1,l1,rfl,⟨_,SqL.of (St4.row _ _ e1)⟩,zeZ (K:=K) (a:=l1) (xs:=(cs p.m.toNat).map triV) (λj σ H5=>∃ (ns':List Nd) (fr:List Int) (o8 o9 o10:Option V),σ = [some (.int start),some (.ref ls),some (.ref dt),some (.ref ln),some (.ref lf),some (.int p.m),some (.int p.h),some (.ref p.lt),o8,o9,o10]/\TI K H rs hs start n dt ln lf nw ns.length H5 ns' fr/\p ∈ ns' /\
     (∀ x ∈ ns',x.m ∈ nw.drop (i + 1)\/x.m ∈ fr\/Closed cs ns' x.m\/(x.m = p.m/\∀ t ∈ (cs p.m.toNat).take j,t.e ∈ zau ns'))/\(ns'.map za5,fr) = ((stepsF rs hs rs.length p.m.toNat).take j).foldl (ex1 (za5 p)) (ns1.map za5,fr1))
     ⟨ns1,fr1,_,_,_,rfl,X1,hp,(λx hx=>?_),rfl⟩ (λj σ H5 _ ⟨_,_,_,_,_,_,X,_⟩=>SqL.of ((St.same X.same).row _ _ e1)) ?_ ?_⟩
    ·rcases C1 x hx with q | q | q
     ·rw [zpC hz1] at q;rcases YAk.mp q with q | q
      ·exact .inr (.inr (.inr ⟨q,λt ht=>by rw [List.take_zero] at ht;cases ht⟩))
      ·exact .inl q
     ·exact .inr (.inl q)
     ·exact .inr (.inr (.inl q))
    ·rintro j v σ H5 hv2 ⟨ns2,fr2,q8,q9,q10,rfl,X2,hp2,C2,P2⟩;obtain ⟨t,ht,rfl⟩:∃ t,(cs p.m.toNat)[j]? = some t/\v = .ref t.p:=by
      rw [YAu] at hv2;cases e:(cs p.m.toNat)[j]? with
      | none=>rw [e] at hv2;cases hv2
      | some t=>rw [e] at hv2;exact ⟨t,rfl,(Option.some.inj hv2).symm⟩
     have htm:=YAA ht;have hsj:(stepsF rs hs rs.length p.m.toNat)[j]? = some (triC t):=by rw [<- So.cont,YAu,ht];rfl
     have St5:=St.same X2.same;refine ⟨t.p,_,rfl,SqT.of (St5.tri _ t (by omega) htm),rfl,_,_,rfl,_,_,rfl,_,_,rfl,rfl,?_⟩;refine ⟨_,rfl,_,rfl,dt,_,rfl,DGet.k (k:=Sum.inl t.e) X2.th.dict,_,rfl,?_⟩;cases hv3:valV (ns2.map ndK) (Sum.inl t.e) with
     | some v3=>
      have hk:t.e ∈ zau ns2:=by
       by_cases c:t.e ∈ zau ns2
       ·exact c
       ·rw [valV_none.mpr c] at hv3;cases hv3
      refine iteF ⟨ns2,fr2,_,_,_,rfl,X2,hp2,(λx hx=>?_),by
       rw [zey _ _ hsj,<- P2];unfold ex1;rw [if_pos (by rw [ziG];exact hk)]⟩
      rcases C2 x hx with q | q | q | ⟨q1,q2⟩
      ·exact .inl q
      ·exact .inr (.inl q)
      ·exact .inr (.inr (.inl q))
      ·refine .inr (.inr (.inr ⟨q1,λu hu=>?_⟩));rw [zco ht] at hu;rcases YAr.mp hu with hu | hu
       ·exact q2 u hu
       ·rw [YAg.mp hu];exact hk
     | none=>
      have hk:t.e ∉ zau ns2:=valV_none.mp hv3;have few:=X2.tok.few p hp2;have hlen:=X2.tok.len;refine iteT ?_;refine ⟨_,rfl,_,rfl,_,_,rfl,rfl,_,rfl,_,rfl,by show 1 <= sizeLine;decide,λtn htn=>?_⟩;refine ⟨p.lt,tn,_,_,rfl,rfl,zch (tp:=true) (zal htn) (X2.th.node p hp2).2,SqT.of zad,(by rw [YAd,YAR];show _ + 1 <= _;omega),λlt H6 S6 hlt=>?_⟩;refine ⟨by show 2 <= sizeLine;decide,λtt htt=>?_⟩;have X3:=X2.grow (((zal (o:=.tup [.int t.n]) htn).trans S6).trans (zal (o:=.tup [.int (p.h + t.d),.ref lt]) htt));have hlt':SqT K (upd H6 tt (.tup [.int (p.h + t.d),.ref lt])) lt ((p.line ++ [t.n]).map V.int):=by
       rw [YAy];exact zch (tp:=true) (zal htt) hlt
      have htt':upd H6 tt (.tup [.int (p.h + t.d),.ref lt]) tt = some (.tup [.int (p.h + t.d),.ref lt]):=zad;generalize upd H6 tt (.tup [.int (p.h + t.d),.ref lt]) = H7 at *;refine ⟨_,rfl,_,rfl,dt,_,rfl,DPut.k (k:=Sum.inl t.e) X3.th.dict (by rw [YAd,YAR];omega),?_⟩;have ndl:dt ≠ lf:=λz=>by have:=X3.th.dict;rw [z,X3.hlf] at this;cases this
      have hlf8:upd H7 dt (.dK (putK (ns2.map ndK) (Sum.inl t.e) (.ref tt))) lf = some (.lst (fr2.map V.int)):=by rw [zaf ndl.symm];exact X3.hlf
      have hcnt:=X2.cnt;refine ⟨_,rfl,.inl ⟨rfl,_,SqL.of hlf8⟩,_,rfl,lf,_,_,rfl,rfl,hlf8,by rw [YAd,YAR];omega,?_⟩;have X4:=X3.add VM hdt fl nll hp2 (So.sound _ t htm) hk htt' hlt';refine ⟨_,_,_,_,_,rfl,X4,YAB _ hp2,(λx hx=>?_),by
       rw [zey _ _ hsj,<- P2];unfold ex1;rw [if_neg (by rw [ziG];exact hk),YAy];rfl⟩
      rcases YAr.mp hx with hx | hx
      ·rcases C2 x hx with q | q | q | ⟨q1,q2⟩
       ·exact .inl q
       ·exact .inr (.inl (YAB _ q))
       ·exact .inr (.inr (.inl q.snoc))
       ·refine .inr (.inr (.inr ⟨q1,λu hu=>?_⟩));rw [zbW];rw [zco ht] at hu;rcases YAr.mp hu with hu | hu
        ·exact YAB _ (q2 u hu)
        ·rw [YAg.mp hu];exact YAo _ YAh
      ·rw [YAg.mp hx];exact .inr (.inl (YAo _ YAh))
    ·rintro σ H5 ⟨ns2,fr2,q8,q9,q10,rfl,X2,hp2,C2,P2⟩;refine ⟨ns2,fr2,_,_,_,_,_,_,rfl,X2,(λx hx=>?_),by
      have el:((cs p.m.toNat).map triV).length = (stepsF rs hs rs.length p.m.toNat).length:=by rw [<- So.cont,YAd,YAd]
      rw [el,YBK] at P2;rw [zey _ _ hz1,<- P1,P2];unfold exM;rw [zbS X1.tok.nod hp]⟩
     rcases C2 x hx with q | q | q | ⟨q1,q2⟩
     ·exact .inl q
     ·exact .inr (.inl q)
     ·exact .inr (.inr q)
     ·refine .inr (.inr λt ht=>q2 t ?_);rw [YAd,YBK,<- q1];exact ht
   ·rintro σ H4 ⟨ns1,fr1,p5,p6,p7,p8,p9,p10,rfl,X1,C1,P1⟩;refine ⟨_,rfl,2 * (n - ns1.length) + (if fr1 = [] then 0 else 1),?_,?_⟩
    ·have h1:=X1.cnt;have h2:=X1.tok.len;rw [hm,if_neg hnw];by_cases c:fr1 = []
     ·rw [if_pos c];have hz0:fr1.length = 0:=by rw [c];rfl
      omega
     ·rw [if_neg c]
      have:0 < fr1.length:=List.length_pos_iff.mpr c
      omega
    ·rw [hW];refine ⟨ns1,fr1,lf,_,_,_,_,_,_,_,rfl,rfl,X1.same,X1.th,X1.tok,X1.hlf,X1.frk,(λx hx=>?_),kq + 1,by
      rw [YAd,YBK] at P1;show exL _ (itT _ start kq).1 (itT _ start kq).2 = _;rw [hkq,P1];rfl⟩
     rcases C1 x hx with q | q | q
     ·rw [YAd,YBJ] at q;cases q
     ·exact .inl q
     ·exact .inr q
  ·have hnw:nw = []:=by
    cases nw with
    | nil=>rfl
    | cons a b=>simp at hne
   refine ⟨_,rfl,k dt ns H2 S2 hdt TH TO (zl4 VM TO So λx hx=>(hcl x hx).elim (λq=>by rw [hnw] at q;cases q) λq=>q) ⟨kq,by rw [hkq,hnw]⟩⟩
theorem scSomeLine:FnScope ["size","runs","struck","one","other","tree","height","line"] ["size","runs","struck","one","other"] (zas zbU):=⟨rfl,rfl,rfl,by decide +kernel,rfl,by decide +kernel,by decide +kernel⟩
theorem zc4 {f:Addr} {fd:FuncData} (F:Fun K "some_line" "some_line" zbU f fd) (cF:Cal P w K mg base "steps_from" 1 ["size","runs","struck"] (zgO K)) (cR:Cal P w K mg base "tree_from" 1 ["start","steps"] (zj4 K)):FnOk P w K mg base CX0 2 f fd ["size","runs","struck","one","other"] (zkB K):=by
 refine F.ok scSomeLine (λvs H Q E h=>?_) (λcdv A outer s0 H vs Q E hr h=>?_)
 ·obtain ⟨n,a,s,rs,hs,one,other,rfl,_⟩:=h;rfl
 ·obtain ⟨n,a,s,rs,hs,one,other,rfl,ha,R,VM,hsq,h0,h1,hn,hz,k⟩:=h;have nd:=scSomeLine.nd;have hu:=zn2 hr;refine ⟨_,zak (zbq (i:=5) nd rfl (Or.inl rfl) (zeL cR hr rfl (zah (pv 3) (zah (zeL cF hr rfl (zah (pv 0) (zah (pv 1) (zah (pv 2) zat)))) zat))))
   (zak (zfX (ziA (zfj hu (pv 4) (pv 5))) (zaC (zbP zj0)) zci)
   (zak (zdn (zgG hu (pv 5) (pv 4) (λ_ _=>rfl)) (zcv (n:=2) rfl (zac (zay (i:=6) nd rfl (Or.inl rfl)) (zac (zay (i:=7) nd rfl (Or.inl rfl)) zax))))
   (zaC (zbP (pv 7))))),?_⟩
  refine ⟨_,rfl,_,rfl,_,rfl,_,rfl,n,a,s,rs,hs,rfl,ha,R,VM,hsq,hn,hz,λls ad cs H1 S1 hal St So _ _=>?_⟩;refine ⟨one,ls,n,ad,cs,rs,hs,rfl,h0,h1,St,hal,So,VM,hn,hz,λdt ns H2 S2 hdt TH TO hk hT=>?_⟩;have S3:=S1.trans S2;refine ⟨_,rfl,_,rfl,dt,_,rfl,DGet.k (k:=Sum.inl other) TH.dict,_,rfl,?_⟩;cases hv:valV (ns.map ndK) (Sum.inl other) with
  | none=>
   refine iteT ?_;exact k .non H2 S3 ⟨ns,TO,hT,hk,.inl ⟨rfl,valV_none.mp hv⟩⟩
  | some v=>
   have hk1:other ∈ zau ns:=by
    by_cases c:other ∈ zau ns
    ·exact c
    ·rw [valV_none.mpr c] at hv;cases hv
   obtain ⟨x,hx,rfl⟩:=mem_keys.mp hk1;have dg:DGet H2 dt (.int x.m) (some (.ref x.t)):=by
    have:=DGet.k (k:=Sum.inl x.m) TH.dict
    rw [zfN TO.nod hx] at this;exact this
   refine iteF ⟨_,rfl,_,rfl,dt,_,rfl,dg,x.t,_,rfl,SqT.of (TH.node x hx).1,rfl,_,_,rfl,_,_,rfl,rfl,?_⟩;exact ⟨_,rfl,k _ H2 S3 ⟨ns,TO,hT,hk,.inr ⟨x,hx,rfl,rfl,(TH.node x hx).2⟩⟩⟩
theorem scTrees:FnScope ["size","runs","struck","steps","trees","reached","mark","tree"] ["size","runs","struck"] (zas zdh):=⟨rfl,rfl,rfl,by decide +kernel,rfl,by decide +kernel,by decide +kernel⟩
theorem znf {f:Addr} {fd:FuncData} (F:Fun K "trees_of" "trees_of" zdh f fd) (T:Txt K mg) (cF:Cal P w K mg base "steps_from" 1 ["size","runs","struck"] (zgO K)) (cR:Cal P w K mg base "tree_from" 1 ["start","steps"] (zj4 K)):FnOk P w K mg base CX0 2 f fd ["size","runs","struck"] (zfK K):=by
 refine F.ok scTrees (λvs H Q E h=>?_) (λcdv A outer s0 H vs Q E hr h=>?_)
 ·obtain ⟨n,a,s,rs,hs,rfl,_⟩:=h;rfl
 ·obtain ⟨n,a,s,rs,hs,rfl,ha,R,VM,hsq,hn,hz,k⟩:=h;have nd:=scTrees.nd;have hu:=zn2 hr;refine ⟨_,zak (zbq (i:=3) nd rfl (Or.inl rfl) (zeL cF hr rfl (zah (pv 0) (zah (pv 1) (zah (pv 2) zat)))))
   (zak (zbq (i:=4) nd rfl (Or.inl rfl) (zeF zat))
   (zak (zbq (i:=5) nd rfl (Or.inl rfl) zjy)
   (zak (zd2 YBm rfl (zfo rfl T.range (zah (pv 0) zat)) (zay (i:=6) nd rfl (Or.inl rfl))
    (zaC (zfX (ziA (zfj hu (pv 6) (pv 5)))
     (zak (zbq (i:=7) nd rfl (Or.inl rfl) (zeL cR hr rfl (zah (pv 6) (zah (pv 3) zat))))
     (zak (zcV (zml (pv 5) (pv 7) ⟨rfl,rfl,rfl,rfl⟩))
     (zaC (zcV (zkI YBt PySem.F.slot_list_append PySem.F.type_list_append zbY (pv 4) (zah (pv 7) zat)))))) zci)))
   (zaC (zbP (pv 4)))))),?_⟩
  refine ⟨_,rfl,_,rfl,_,rfl,n,a,s,rs,hs,rfl,ha,R,VM,hsq,hn,hz,λls ad cs H1 S1 hal St So _ _=>?_⟩;refine ⟨by show 0 <= sizeLine;exact YAF _,λlt hlt=>?_⟩;intro dr hdr;have S2:=zal (o:=.lst []) hlt;have S3:=S2.trans (zal (o:=.dK []) hdr);have hlt3:upd (upd H1 lt (.lst [])) dr (.dK []) lt = some (.lst (([]:List TR).map trV)):=zal hdr _ _ zad;have hdr3:upd (upd H1 lt (.lst [])) dr (.dK []) dr = some (.dK (([]:List Nd).map ndK)):=zad;have fdr:H1 dr = none:=S2.free hdr;generalize upd (upd H1 lt (.lst [])) dr (.dK []) = H3 at *;refine ⟨_,rfl,n,rfl,by omega,by omega,?_⟩;refine zm1 (n:=((n:Nat):Int).toNat) (λi σ H4=>∃ (ts:List TR) (rns:List Nd) (o6 o7:Option V),σ = [some (.int n),some (.ref a),some (.ref s),some (.ref ls),some (.ref lt),some (.ref dr),o6,o7]/\Same H1 H4/\H4 lt = some (.lst (ts.map trV))/\H4 dr = some (.dK (rns.map ndK))/\(∀ t ∈ ts,TreeAt K H4 n rs hs t/\t.d ≠ dr)/\Firsts i (usable hs rs) (ts.map TR.st)/\(zau rns).Nodup/\(∀ x ∈ rns,0 <= x.m/\x.m < n)/\(∀ j,j ∈ zau rns ↔ ∃ m:Int,0 <= m/\m < i/\Conn (usable hs rs) m j)/\ts.length <= i/\(∀ t ∈ ts,H1 t.d = none)/\(ts.map TR.d).Nodup)
   ⟨[],[],_,_,rfl,S3,hlt3,hdr3,(λt h=>by cases h),⟨List.Pairwise.nil,λm=>⟨(λh=>by cases h),λh=>absurd h.2.1 (by have:=h.1;omega)⟩⟩,List.nodup_nil,(λx h=>by cases h),(λj=>⟨(λh=>by cases h),λ⟨m,h0,h1,_⟩=>absurd h1 (by omega)⟩),YAm _,(λt h=>by cases h),List.nodup_nil⟩ ?_ ?_
  ·rintro i σ H4 hi ⟨ts,rns,o6,o7,rfl,S4,h4t,h4r,hts,hF,hnd,hin,hk,hlen,hfd,hdd⟩;rw [YAC] at hi;have e0:(0:Int) + (i:Int) = (i:Int):=by omega
   have i0:(0:Int) <= 0 + (i:Int):=by omega
   have i1:(0:Int) + (i:Int) < (n:Int):=by omega
   have hrl:rns.length <= n:=by
    have h:=zaF (xs:=(List.range n).map Int.ofNat) hnd λk hk=>by
     obtain ⟨x,hx,rfl⟩:=mem_keys.mp hk
     have:=hin x hx
     refine YAD.mpr ⟨x.m.toNat,YA4.mpr (by omega),?_⟩;show ((x.m.toNat:Nat):Int) = x.m;omega
    unfold zau at h
    simpa using h
   refine ⟨_,rfl,_,rfl,dr,_,rfl,DGet.k (k:=Sum.inl (0 + (i:Int))) h4r,_,rfl,?_⟩;cases hv:valV (rns.map ndK) (Sum.inl (0 + (i:Int))) with
   | some v=>
    have hk1:(0 + (i:Int)) ∈ zau rns:=by
     by_cases c:(0 + (i:Int)) ∈ zau rns
     ·exact c
     ·rw [valV_none.mpr c] at hv;cases hv
    have hex:=(hk _).mp hk1;rw [e0] at hex;refine iteF ⟨ts,rns,_,_,rfl,S4,h4t,h4r,hts,hF.no hex,hnd,hin,(λj=>?_),by omega,hfd,hdd⟩;rw [hk j];constructor
    ·rintro ⟨m,a1,a2,a3⟩;exact ⟨m,a1,by omega,a3⟩
    ·rintro ⟨m,a1,a2,a3⟩;by_cases e:m = i
     ·obtain ⟨q,q0,q1,qc⟩:=hex;exact ⟨q,q0,q1,qc.trans (e ▸ a3)⟩
     ·exact ⟨m,a1,by omega,a3⟩
   | none=>
    have hk1:=valV_none.mp hv;have hex:¬ ∃ m:Int,0 <= m/\m < i/\Conn (usable hs rs) m i:=λh=>hk1 ((hk _).mpr (by rw [e0];exact h));refine iteT ?_;refine ⟨_,rfl,_,rfl,0 + i,ls,n,ad,cs,rs,hs,rfl,i0,i1,St.same S4,hal,So,VM,hn,hz,λdt ns H5 S5 hdt TH TO hkk hT=>?_⟩;have h5r:=S5 _ _ h4r;have h5t:=S5 _ _ h4t;have ndt:dr ≠ dt:=zae h4r hdt;have hnl:=TO.len;refine ⟨_,rfl,dr,rfl,.inl ⟨_,.inl h5r⟩,_,rfl,dt,_,_,rfl,ndt,h5r,TH.dict,(by rw [YAd,YAd,YAR];omega),?_⟩;have hdis:∀ j ∈ zau ns,j ∉ zau rns:=λj hj hj2=>by
     obtain ⟨m,m0,m1,mc⟩:=(hk j).mp hj2
     have:=(hkk j).mp hj
     rw [e0] at this;exact hex ⟨m,m0,m1,mc.trans this.symm⟩
    have kk1:∀ l:List Nd,(l.map ndK).map (·.1) = (zau l).map Sum.inl:=λl=>by unfold zau;rw [YAH,YAH];rfl
    have emg:mergeK (rns.map ndK) (ns.map ndK) = (rns ++ ns).map ndK:=by
     rw [zcE,YAy]
     ·intro kk hkx hkr;rw [kk1] at hkx hkr;obtain ⟨x,hx,rfl⟩:=YAD.mp hkx;obtain ⟨y,hy,e⟩:=YAD.mp hkr;have e':y = x:=Sum.inl.inj e;exact hdis x hx (e' ▸ hy)
     ·rw [kk1];exact List.Pairwise.map _ (λa b h z=>h (Sum.inl.inj z)) TO.nod
    rw [emg];have ltr:lt ≠ dr:=λz=>by rw [z,h5r] at h5t;cases h5t
    have h6t:upd H5 dr (.dK ((rns ++ ns).map ndK)) lt = some (.lst (ts.map trV)):=by rw [zaf ltr];exact h5t
    refine ⟨_,rfl,.inl ⟨rfl,_,SqL.of h6t⟩,_,rfl,lt,_,_,rfl,rfl,h6t,(by rw [YAd,YAR];omega),?_⟩;have new:TreeAt K H5 n rs hs ⟨dt,0 + i,ns⟩:=⟨TH,TO,hkk,hT,i0,i1⟩;refine ⟨ts ++ [⟨dt,0 + i,ns⟩],rns ++ ns,_,_,rfl,λc o e=>?_,?_,?_,λt ht=>?_,?_,?_,λx hx=>?_,(λj=>?_),by rw [YAs];exact Nat.add_le_add_right hlen 1,(λt ht=>?_),?_⟩
    ·rw [zaf (zae e hlt),zaf (zae e fdr)];exact S5 _ _ (S4 c o e)
    ·rw [zad,YAy];rfl
    ·rw [zaf ltr.symm,zad]
    ·have up:∀ t:TR,TreeAt K H5 n rs hs t->t.d ≠ dr->TreeAt K (upd (upd H5 dr (.dK ((rns ++ ns).map ndK))) lt (.lst (ts.map trV ++ [.ref dt]))) n rs hs t:=λt ht hne=>by
      have t6:=ht.upd (o':=.dK ((rns ++ ns).map ndK)) h5r trivial hne;refine t6.upd h6t trivial λz=>?_
      have:=t6.th.dict
      rw [z,h6t] at this;cases this
     rcases YAr.mp ht with q | q
     ·exact ⟨up t ((hts t q).1.same S5) (hts t q).2,(hts t q).2⟩
     ·rw [YAg.mp q];exact ⟨up _ new ndt.symm,ndt.symm⟩
    ·rw [YAy];show Firsts (i + 1) _ (ts.map TR.st ++ [0 + (i:Int)]);rw [e0];exact hF.yes hex
    ·unfold zau;rw [YAy];exact YBw.mpr ⟨hnd,TO.nod,λx hx y hy e=>hdis y hy (e ▸ hx)⟩
    ·rcases YAr.mp hx with q | q
     ·exact hin x q
     ·exact TO.inm x q
    ·unfold zau;rw [YAy,YAr];show (j ∈ zau rns\/j ∈ zau ns) ↔ _;rw [hk j,hkk j,e0];constructor
     ·rintro (⟨m,a1,a2,a3⟩ | a3)
      ·exact ⟨m,a1,by omega,a3⟩
      ·exact ⟨i,by omega,by omega,a3⟩
     ·rintro ⟨m,a1,a2,a3⟩;by_cases e:m = i
      ·exact .inr (e ▸ a3)
      ·exact .inl ⟨m,a1,by omega,a3⟩
    ·rcases YAr.mp ht with q | q
     ·exact hfd t q
     ·rw [YAg.mp q];exact S4.free hdt
    ·rw [YAy];refine zhm hdd λq=>?_;obtain ⟨t,ht,e⟩:=YAD.mp q
     have:=(hts t ht).1.th.dict
     rw [e] at this;exact zae this hdt rfl
  ·rintro σ H4 ⟨ts,rns,o6,o7,rfl,S4,h4t,h4r,hts,hF,hnd,hin,hk,hlen,hfd,hdd⟩;rw [YAC] at hF hlen;exact ⟨_,rfl,k lt ts H4 (S1.trans S4) (S1.free hlt) h4t (λt ht=>(hts t ht).1) hF hlen (λt ht=>S1.free (hfd t ht)) hdd⟩
theorem scFlat:FnScope ["size","runs","heights","tree","mark","height","line"] ["size","runs"] (zas zjt):=⟨rfl,rfl,rfl,by decide +kernel,rfl,by decide +kernel,by decide +kernel⟩
theorem zjl {f:Addr} {fd:FuncData} (F:Fun K "flat" "flat" zjt f fd) (cT:Cal P w K mg base "trees_of" 2 ["size","runs","struck"] (zfK K)) (cH:Cal P w K mg base "holds" 1 ["runs","heights"] (ziU K)):FnOk P w K mg base CX0 3 f fd ["size","runs"] (zqh K):=by
 refine F.ok scFlat (λvs H Q E h=>?_) (λcdv A outer s0 H vs Q E hr h=>?_)
 ·obtain ⟨n,a,rs,rfl,_⟩:=h;rfl
 ·obtain ⟨n,a,rs,rfl,ha,R,VM,hn,hz,kN,k⟩:=h;have nd:=scFlat.nd;have hr1:Room 1 _:=hr.mono (by decide);refine ⟨_,zak (zbq (i:=2) nd rfl (Or.inl rfl) (zbR zms (zeF (zah zaI zat)) (pv 0)))
   (zak (zd2 YBm rfl (ze2 (zeL cT hr rfl (zah (pv 0) (zah (pv 1) (zah (zeF zat) zat))))) (zay (i:=3) nd rfl (Or.inl rfl))
    (zaC (zd2 YBm rfl (znD (pv 3)) (zcv (n:=2) rfl (zac (zay (i:=4) nd rfl (Or.inl rfl)) (zac (zcv (n:=2) rfl (zac (zay (i:=5) nd rfl (Or.inl rfl)) (zac (zay (i:=6) nd rfl (Or.inl rfl)) zax))) zax)))
     (zaC (zdn (pv 5) (zio (pv 2) (pv 4) zcA))))))
   (zak (zfX (zqa (zeL cH hr1 rfl (zah (pv 1) (zah (pv 2) zat)))) (zaC (zbP (pv 2))) zci)
   (zaC (zbP zj0)))),?_⟩
  refine ⟨by show 1 <= sizeLine;decide,λl0 hl0=>?_⟩;have S0:=zal (o:=.lst [.int 0]) hl0;refine ⟨_,rfl,l0,n,_,rfl,rfl,zad,by omega,by omega,(by rw [YAR];show 1 * _ <= _;omega),λlh hlh=>?_⟩;have S1:=S0.trans (zal (o:=.lst (List.replicate ((n:Int)).toNat [V.int 0]).flatten) hlh);have fh:H lh = none:=S0.free hlh;have efl:(List.replicate ((n:Int)).toNat [V.int 0]).flatten = (List.replicate n (0:Int)).map V.int:=by
   rw [YAC,List.map_replicate];exact zjz _ n
  have hlh1:(upd (upd H l0 (.lst [.int 0])) lh (.lst (List.replicate ((n:Int)).toNat [V.int 0]).flatten)) lh = some (.lst ((List.replicate n (0:Int)).map V.int)):=by rw [zad,efl]
  generalize (upd (upd H l0 (.lst [.int 0])) lh (.lst (List.replicate ((n:Int)).toNat [V.int 0]).flatten)) = H1 at *;refine ⟨_,rfl,_,rfl,by show 0 <= sizeLine;exact YAF _,λle hle=>?_⟩;have S2:=S1.trans (zal (o:=.lst []) hle);have hlh2:=zal (o:=.lst []) hle _ _ hlh1;refine ⟨n,a,le,rs,[],rfl,S2.seq ha,R.same S2,VM,SqL.of zad,hn,hz,λlt ts H3 S3 hlt hlt3 hts hF htl hfd hdd=>?_⟩;have S4:=S2.trans S3;have hlh3:=S3 _ _ hlh2;have nlt:lt ≠ lh:=(zae hlh2 hlt).symm;have flt:H lt = none:=S2.free hlt;have ffd:∀ t ∈ ts,H t.d = none:=λt h=>S2.free (hfd t h);generalize upd H1 le (.lst []) = H2 at *;have one:=λ{t u:TR} (a1:t ∈ ts) (b1:u ∈ ts) {x y:Nd} (hx:x ∈ t.ns) (hy:y ∈ u.ns) (e:x.m = y.m)=>zmC hts hF a1 b1 hx hy e;have cover:=λ{i:Int} (h0:0 <= i) (h1:i < n)=>zdz hts hF h0 h1;refine ⟨lt,rfl,⟨_,SqL.of hlt3⟩,zeZ (K:=K) (a:=lt) (xs:=ts.map trV) (λi σ H4=>∃ (hts':List Int) (o3 o4 o5 o6:Option V),σ = [some (.int n),some (.ref a),some (.ref lh),o3,o4,o5,o6]/\Same H H4/\H4 lt = some (.lst (ts.map trV))/\H4 lh = some (.lst (hts'.map V.int))/\hts'.length = n/\(∀ t ∈ ts.drop i,TreeAt K H4 n rs [] t)/\∀ t ∈ ts.take i,∀ x ∈ t.ns,gI hts' x.m = x.h)
   ⟨_,_,_,_,_,rfl,S4,hlt3,hlh3,by simp,hts,(λt h=>by cases h)⟩ (λi σ H4 _ ⟨_,_,_,_,_,_,_,h,_⟩=>SqL.of h) ?_ ?_⟩
  ·rintro i v σ H4 hv ⟨hts1,o3,o4,o5,o6,rfl,S5,h4t,h4h,l1,hT,hW⟩;obtain ⟨t,ht,rfl⟩:∃ t,ts[i]? = some t/\v = .ref t.d:=by
    rw [YAu] at hv;cases e:ts[i]? with
    | none=>rw [e] at hv;cases hv
    | some t=>rw [e] at hv;exact ⟨t,rfl,(Option.some.inj hv).symm⟩
   obtain ⟨hi1,hi2⟩:=YAi.mp ht;have htm:t ∈ ts:=YAA ht;have edrop:ts.drop i = t :: ts.drop (i + 1):=by rw [YAT hi1,hi2]
   have Tt:TreeAt K H4 n rs [] t:=hT t (by rw [edrop];exact YAh);have rest:∀ u ∈ ts.drop (i + 1),u.d ≠ t.d:=λu hu e=>by
    obtain ⟨j,hj⟩:=List.getElem?_of_mem hu;rw [List.getElem?_drop] at hj;have h1:(ts.map TR.d)[i + 1 + j]? = some t.d:=by rw [YAu,hj,<- e];rfl
    have h2:(ts.map TR.d)[i]? = some t.d:=by rw [YAu,ht];rfl
    have:=zjT hdd h1 h2
    omega
   refine ⟨_,rfl,t.d,_,rfl,Tt.th.dict,λo=>?_⟩;have n1:t.d ≠ lt:=λz=>by have:=Tt.th.dict;rw [z,h4t] at this;cases this
   have n2:t.d ≠ lh:=λz=>by have:=Tt.th.dict;rw [z,h4h] at this;cases this
   refine zm6 (d:=t.d) (o:=o) (kvs:=t.ns.map ndK) (λj σ H5=>∃ (hts':List Int) (o4 o5 o6:Option V),σ = [some (.int n),some (.ref a),some (.ref lh),some (.ref t.d),o4,o5,o6]/\Same H H5/\H5 lt = some (.lst (ts.map trV))/\H5 t.d = some (.frz o (.dK (t.ns.map ndK)))/\H5 lh = some (.lst (hts'.map V.int))/\hts'.length = n/\(∀ u ∈ ts.drop (i + 1),TreeAt K H5 n rs [] u)/\(∀ u ∈ ts.take i,∀ x ∈ u.ns,gI hts' x.m = x.h)/\(∀ x ∈ t.ns.take j,gI hts' x.m = x.h)/\∀ x ∈ t.ns,H5 x.t = some (.tup [.int x.h,.ref x.lt]))
    ⟨hts1,_,_,_,rfl,λc o' e=>?_,?_,zad,?_,l1,λu hu=>?_,hW,(λx h=>by cases h),λx hx=>?_⟩ (λj σ H5 _ ⟨_,_,_,_,_,_,_,h,_⟩=>h) ?_ ?_
   ·rw [zaf (zae e (ffd t htm))];exact S5 c o' e
   ·rw [zaf n1.symm];exact h4t
   ·rw [zaf n2.symm];exact h4h
   ·exact (hT u (by rw [edrop];exact YAj _ hu)).upd Tt.th.dict trivial (rest u hu)
   ·exact zeo (Tt.th.node x hx).1 Tt.th.dict trivial
   ·rintro j kk vv tt σ H5 hkv htt ⟨hts2,q4,q5,q6,rfl,S6,h5t,h5d,h5h,l2,hT5,hW5,hV5,hN5⟩;obtain ⟨x,hx,ek⟩:∃ x,t.ns[j]? = some x/\(kk,vv) = ndK x:=by
     rw [YAu] at hkv;cases e:t.ns[j]? with
     | none=>rw [e] at hkv;cases hkv
     | some x=>rw [e] at hkv;exact ⟨x,rfl,(Option.some.inj hkv).symm⟩
    unfold ndK at ek;injection ek with ek1 ek2
    subst ek1 ek2;have hxm:x ∈ t.ns:=YAA hx;have xb:=Tt.tok.inm x hxm;have Sn:=zal (o:=.tup [kV (Sum.inl x.m),.ref x.t]) htt;refine ⟨tt,_,rfl,SqT.of zad,rfl,_,_,rfl,_,_,rfl,x.t,_,rfl,SqT.of (Sn _ _ (hN5 x hxm)),rfl,_,_,rfl,_,_,rfl,rfl,rfl,?_⟩;have h6h:=Sn _ _ h5h;refine ⟨_,rfl,_,rfl,_,rfl,lh,_,x.m,_,rfl,rfl,h6h,zpX xb.1 (by rw [YAd,l2];exact xb.2),?_⟩;have n3:t.d ≠ lh:=n2;refine ⟨hts2.set x.m.toNat x.h,_,_,_,rfl,λc o' e=>?_,?_,?_,by rw [zad,zne],by rw [List.length_set];exact l2,λu hu=>?_,λu hu y hy=>?_,λy hy=>?_,λy hy=>?_⟩
    ·rw [zaf (zae e fh)];exact Sn _ _ (S6 c o' e)
    ·rw [zaf nlt];exact Sn _ _ h5t
    ·rw [zaf n3];exact Sn _ _ h5d
    ·have u6:=(hT5 u hu).same Sn;refine u6.upd h6h trivial λz=>?_
     have:=u6.th.dict
     rw [z,h6h] at this;cases this
    ·have hum:u ∈ ts:=List.mem_of_mem_take hu;have yb:=(hts u hum).tok.inm y hy;rw [zjO (by omega) yb.1];by_cases c:y.m = ((x.m.toNat:Nat):Int)
     ·rw [if_pos c];exact one htm hum hxm hy (by omega)
     ·rw [if_neg c];exact hW5 u hu y hy
    ·rw [zco hx] at hy;have yt:y ∈ t.ns:=by
      rcases YAr.mp hy with q | q
      ·exact List.mem_of_mem_take q
      ·rw [YAg.mp q];exact hxm
     have yb:=Tt.tok.inm y yt;rw [zjO (by omega) yb.1];by_cases c:y.m = ((x.m.toNat:Nat):Int)
     ·rw [if_pos c];exact one htm htm hxm yt (by omega)
     ·rw [if_neg c];rcases YAr.mp hy with q | q
      ·exact hV5 y q
      ·rw [YAg.mp q] at c;exact absurd (by omega) c
    ·exact zeo (Sn _ _ (hN5 y hy)) h6h trivial
   ·rintro σ H5 ⟨hts2,q4,q5,q6,rfl,S6,h5t,h5d,h5h,l2,hT5,hW5,hV5,hN5⟩;rw [YAd,YBK] at hV5;refine ⟨hts2,_,_,_,_,rfl,S6,h5t,h5h,l2,hT5,λu hu y hy=>?_⟩;rw [zco ht] at hu;rcases YAr.mp hu with q | q
    ·exact hW5 u q y hy
    ·rw [YAg.mp q] at hy;exact hV5 y hy
  ·rintro σ H4 ⟨hts1,o3,o4,o5,o6,rfl,S5,h4t,h4h,l1,hT,hW⟩;rw [YAd,YBK] at hW;refine ⟨_,rfl,_,rfl,a,lh,rs,hts1,rfl,S5.seq ha,R.same S5,SqL.of h4h,by rw [l1];exact VM,hz,λl o hl=>⟨_,rfl,?_⟩⟩;have S6:=S5.trans (zal (o:=o) hl);refine ite2 (λhb=>?_) (λhb=>?_)
   ·refine ⟨_,rfl,k lh hts1 _ S6 fh (zal hl _ _ h4h) ⟨l1,holds_iff.mp hb,λm m0 m1 mf=>?_⟩⟩;have hm:=(hF.2 m).mpr ⟨m0,m1,by rw [zgg];exact mf⟩;obtain ⟨t,htm,e⟩:=YAD.mp hm;obtain ⟨x,hx,ex⟩:=mem_keys.mp (hts t htm).tok.start;rw [<- e,<- ex,hW t htm x hx];exact zmQ (hts t htm) hx ex
   ·refine kN _ S6 λf hf=>hb (holds_iff.mpr λr hr=>?_);have V0:=VM r hr;obtain ⟨t,htm,x,hx,ex⟩:=cover V0.1 V0.2.1;have Tt:=hts t htm;have ko:r.other ∈ zau t.ns:=(Tt.keys _).mpr (by
     have:=(Tt.keys _).mp (mem_keys.mpr ⟨x,hx,ex⟩)
     rw [zgg] at this ⊢;exact this.trans (Conn.edge hr))
    obtain ⟨y,hy,ey⟩:=mem_keys.mp ko;have h1:=zhn hf (Tt.tok.walk x hx);have h2:=zhn hf (Tt.tok.walk y hy);have h3:=hf r hr;have e1:=hW t htm x hx;have e2:=hW t htm y hy;rw [ex] at e1 h1;rw [ey] at e2 h2;rw [e1,e2];omega
theorem scAcross:FnScope ["first","second","shared"] ["first","second"] (zas zew):=⟨rfl,rfl,rfl,by decide +kernel,rfl,by decide +kernel,by decide +kernel⟩
theorem zmF {f:Addr} {fd:FuncData} (F:Fun K "across" "across" zew f fd) (T:Txt K mg) (T6:mg "min" = none):FnOk P w K mg base CX0 1 f fd ["first","second"] (zgE K):=by
 refine F.ok scAcross (λvs H Q E h=>?_) (λcdv A0 outer s0 H vs Q E hr h=>?_)
 ·obtain ⟨a,b,A,B,rfl,_⟩:=h;rfl
 ·obtain ⟨a,b,A,B,rfl,ha,hb,hA,hB,k⟩:=h;have nd:=scAcross.nd;refine ⟨_,zak (zbq (i:=2) nd rfl (Or.inl rfl) zaI)
   (zak (zp6 (zkh YBm (PW.pt (zmz (zcI znt (pv 2) (zbz (ziD rfl) rfl T6 PyProof.Rows.boot_min (zah (zbz zce rfl T.len PySem.boot_len (zah (pv 0) zat)) (zah (zbz zce rfl T.len PySem.boot_len (zah (pv 1) zat)) zat))) (zb0 _))
     (zjh (zcI zqW (zcQ ix_tup (pv 0) (pv 2) (λ_ _=>rfl)) (zcQ ix_tup (pv 1) (pv 2) (λ_ _=>rfl)) (zb0 _)))))
    (zaC (zos (i:=2) nd rfl (Or.inl rfl) zaI zjx))))
   (zaC (zbP (zbR zi9 (zo0 (ze0 zmZ (pv 0) (zhx (pv 2)) zgK) (zpu zlI zaI)) (ze0 zmZ (pv 1) (zhx (pv 2)) zgK))))),?_⟩
  refine ⟨λσ' H'=>σ' = [some (.ref a),some (.ref b),some (.int (comm A B:Nat))]/\H' = H,?_,?_⟩
  ·refine ⟨λm σ H2=>∃ j:Nat,σ = [some (.ref a),some (.ref b),some (.int j)]/\H2 = H/\j <= A.length/\j <= B.length/\A.take j = B.take j/\m = A.length - j,⟨_,0,rfl,rfl,YAF _,YAF _,rfl,rfl⟩,?_⟩;rintro m σ H2 ⟨j,rfl,rfl,j1,j2,je,rfl⟩;refine ⟨_,rfl,_,rfl,a,_,rfl,.inr ha,_,rfl,b,_,rfl,.inr hb,_,_,rfl,_,_,rfl,rfl,_,rfl,?_⟩;rw [YAd,YAd];refine ite2 (λh=>?_) (λh=>?_)
   ·have hlt:=YAM h;have l1:j < A.length:=by split at hlt <;> omega
    have l2:j < B.length:=by split at hlt <;> omega
    refine ⟨_,rfl,_,rfl,a,_,_,_,rfl,rfl,ha,zqP (by omega) (by omega),_,rfl,_,rfl,b,_,_,_,rfl,rfl,hb,zqP (by omega) (by omega),rfl,_,rfl,?_⟩;refine ite2 (λh2=>?_) (λh2=>?_)
    ·have e:=V.int.inj (YAM h2);refine ⟨λσ' H'=>σ' = [some (.ref a),some (.ref b),some (.int (j + 1:Nat))]/\H' = H2,λσ' H' ⟨e1,e2⟩=>⟨_,by omega,j + 1,e1,e2,l1,l2,zmX je l1 l2 e,rfl⟩,?_⟩;exact ⟨_,rfl,_,_,rfl,rfl,rfl,rfl⟩
    ·refine ⟨?_,rfl⟩
     have:j = comm A B:=zjm j1 j2 je (.inr (.inr λz=>h2 (YAl (by
      unfold gI;rw [YAC,YAt,YAt,z]))))
     rw [<- this]
   ·refine iteF ⟨?_,rfl⟩
    have:j = comm A B:=zjm j1 j2 je (by
     have:¬ (j:Int) < _:=λz=>h (YAl z)
     split at this
     ·right;left;omega
     ·left;omega)
    rw [<- this]
  ·rintro σ H2 ⟨rfl,rfl⟩;obtain ⟨c1,c2,_,_⟩:=zeg A B;refine ⟨_,rfl,_,rfl,(comm A B:Nat),rfl,a,_,rfl,ha,λp1 H1 S1 q1=>?_⟩;rw [zjA c1] at q1;refine ⟨_,rfl,p1,_,rfl,rfl,q1,λp2 hp2=>?_⟩;have S2:=S1.trans (zal (o:=.tup ((A.drop (comm A B)).map V.int).reverse) hp2);refine ⟨_,rfl,_,rfl,(comm A B:Nat),rfl,b,_,rfl,zch (tp:=true) S2 hb,λp3 H3 S3 q3=>?_⟩;rw [zjA c2] at q3;refine ⟨p2,p3,_,_,rfl,rfl,zch (tp:=true) S3 (SqT.of zad),q3,?_,λp H' S q=>?_⟩
   ·simp only [List.length_reverse,YAd,List.length_drop];rw [YAR];omega
   ·refine k p H' ((S2.trans S3).trans S) ?_;unfold zba;rw [YAy,List.map_reverse];exact q
theorem scRing:FnScope Nr ["size","runs","struck"] (zas zb2):=⟨rfl,rfl,rfl,by decide +kernel,rfl,by decide +kernel,by decide +kernel⟩
theorem zpI {f:Addr} {fd:FuncData} (F:Fun K "open_ring" "open_ring" zb2 f fd) (T4:mg "enumerate" = none) (cT:Cal P w K mg base "trees_of" 2 ["size","runs","struck"] (zfK K)) (cA:Cal P w K mg base "across" 1 ["first","second"] (zgE K)):FnOk P w K mg base CX0 3 f fd ["size","runs","struck"] (zqD K):=by
 refine F.ok scRing (λvs H Q E h=>?_) (λcdv A outer s0 H vs Q E hr h=>?_)
 ·obtain ⟨n,a,s,rs,hs,rfl,_⟩:=h;rfl
 ·obtain ⟨n,a,s,rs,hs,rfl,ha,R,VM,hsq,hn,hz,k⟩:=h;have nd:=scRing.nd;have hr1:Room 1 _:=hr.mono (by decide);have hu:=zn2 hr;refine ⟨_,zak (zbq (i:=3) nd rfl (Or.inl rfl) zjy)
   (zak (zd2 YBm rfl (ze2 (zeL cT hr rfl (zah (pv 0) (zah (pv 1) (zah (pv 2) zat))))) (zay (i:=4) nd rfl (Or.inl rfl))
    (zaC (zcV (zml (pv 3) (pv 4) ⟨rfl,rfl,rfl,rfl⟩))))
   (zak (zd2 YBm rfl (zmb rfl T4 (zah (pv 1) zat)) (zcv (n:=2) rfl (zac (zay (i:=5) nd rfl (Or.inl rfl)) (zac (zcv (n:=4) rfl (zac (zay (i:=6) nd rfl (Or.inl rfl)) (zac (zay (i:=7) nd rfl (Or.inl rfl)) (zac (zay (i:=8) nd rfl (Or.inl rfl)) (zac (zay (i:=9) nd rfl (Or.inl rfl)) zax))))) zax)))
    (zak (zdn (zgG hu (pv 3) (pv 6) (λ_ _=>rfl)) (zcv (n:=2) rfl (zac (zay (i:=10) nd rfl (Or.inl rfl)) (zac (zay (i:=11) nd rfl (Or.inl rfl)) zax))))
    (zak (zdn (zgG hu (pv 3) (pv 7) (λ_ _=>rfl)) (zcv (n:=2) rfl (zac (zay (i:=12) nd rfl (Or.inl rfl)) (zac (zay (i:=13) nd rfl (Or.inl rfl)) zax))))
    (zaC (zfX (PW.pt (zmz (zcI zeD (pv 9) (pv 2) (by with_unfolding_all rfl)) (zjh (zcI zsc (zbR zmM (pv 12) (pv 10)) (pv 8) (zb0 _)))))
     (zaC (zbP (zdK (zah (pv 6) (zah (zbR zi9 (zdK (zah (pv 5) zat)) (zeL cA hr1 rfl (zah (pv 13) (zah (pv 11) zat)))) zat))))) zci)))))
   (zaC (zbP zj0)))),?_⟩
  intro dr hdr;have S1:=zal (o:=.dK []) hdr;have hdr1:upd H dr (.dK []) dr = some (.dK (([]:List Nd).map ndK)):=zad;generalize upd H dr (.dK []) = H1 at *;refine ⟨_,rfl,_,rfl,_,rfl,n,a,s,rs,hs,rfl,S1.seq ha,R.same S1,VM,S1.seq hsq,by omega,hz,λlt ts H3 S3 hlt hlt3 hts hF htl hfd hdd=>?_⟩;have ndl:lt ≠ dr:=(zae hdr1 hlt).symm;have ntd:∀ t ∈ ts,t.d ≠ dr:=λt ht=>(zae hdr1 (hfd t ht)).symm;refine ⟨lt,rfl,⟨_,SqL.of hlt3⟩,zeZ (K:=K) (a:=lt) (xs:=ts.map trV) (λi σ H4=>∃ (o4 o5 o6 o7 o8 o9 o10 o11 o12 o13:Option V),σ = [some (.int n),some (.ref a),some (.ref s),some (.ref dr),o4,o5,o6,o7,o8,o9,o10,o11,o12,o13]/\Same H H4/\H4 lt = some (.lst (ts.map trV))/\H4 dr = some (.dK ((za6 (ts.take i)).map ndK))/\(∀ t ∈ ts,TreeAt K H4 n rs hs t)/\(zau (za6 (ts.take i))).Nodup)
   ⟨_,_,_,_,_,_,_,_,_,_,rfl,S1.trans S3,hlt3,S3 _ _ hdr1,hts,List.nodup_nil⟩ (λi σ H4 _ ⟨_,_,_,_,_,_,_,_,_,_,_,_,h,_⟩=>SqL.of h) ?_ ?_⟩
  ·rintro i v σ H4 hv ⟨o4,o5,o6,o7,o8,o9,o10,o11,o12,o13,rfl,S4,h4t,h4r,hT,hnd⟩;obtain ⟨t,ht,rfl⟩:∃ t,ts[i]? = some t/\v = .ref t.d:=by
    rw [YAu] at hv;cases e:ts[i]? with
    | none=>rw [e] at hv;cases hv
    | some t=>rw [e] at hv;exact ⟨t,rfl,(Option.some.inj hv).symm⟩
   have htm:=YAA ht;have Tt:=hT t htm;have hdis:∀ j ∈ zau t.ns,j ∉ zau (za6 (ts.take i)):=λj hj hj2=>by
    obtain ⟨x,hx,rfl⟩:=mem_keys.mp hj2;obtain ⟨u,hu1,hxu⟩:=mem_reach.mp hx;obtain ⟨i',hi'⟩:=List.getElem?_of_mem hu1;have li:=(YAi.mp hi').1;rw [YBv] at li;rw [List.getElem?_take_of_lt (by omega)] at hi';exact zjg hT hF hi' ht (by omega) (mem_keys.mpr ⟨x,hxu,rfl⟩) hj
   have ereach:za6 (ts.take (i + 1)) = za6 (ts.take i) ++ t.ns:=by
    unfold za6;rw [zco ht,List.flatMap_append];simp
   have hlenr:(za6 (ts.take i)).length <= n:=by
    have h:=zaF (xs:=(List.range n).map Int.ofNat) hnd λkk hk=>by
     obtain ⟨x,hx,rfl⟩:=mem_keys.mp hk;obtain ⟨u,hu1,hxu⟩:=mem_reach.mp hx
     have:=(hT u (List.mem_of_mem_take hu1)).tok.inm x hxu
     refine YAD.mpr ⟨x.m.toNat,YA4.mpr (by omega),?_⟩;show ((x.m.toNat:Nat):Int) = x.m;omega
    unfold zau at h
    simpa using h
   have hnl:=Tt.tok.len;refine ⟨_,rfl,dr,rfl,.inl ⟨_,.inl h4r⟩,_,rfl,t.d,_,_,rfl,(ntd t htm).symm,h4r,Tt.th.dict,(by rw [YAd,YAd,YAR];omega),?_⟩;have kk1:∀ l:List Nd,(l.map ndK).map (·.1) = (zau l).map Sum.inl:=λl=>by unfold zau;rw [YAH,YAH];rfl
   have emg:mergeK ((za6 (ts.take i)).map ndK) (t.ns.map ndK) = (za6 (ts.take (i + 1))).map ndK:=by
    rw [zcE,ereach,YAy]
    ·intro kk hkx hkr;rw [kk1] at hkx hkr;obtain ⟨x,hx,rfl⟩:=YAD.mp hkx;obtain ⟨y,hy,e⟩:=YAD.mp hkr;have e':y = x:=Sum.inl.inj e;exact hdis x hx (e' ▸ hy)
    ·rw [kk1];exact List.Pairwise.map _ (λa b h z=>h (Sum.inl.inj z)) Tt.tok.nod
   rw [emg];refine ⟨_,_,_,_,_,_,_,_,_,_,rfl,λc o e=>?_,?_,zad,λu hu1=>(hT u hu1).upd h4r trivial (ntd u hu1),?_⟩
   ·rw [zaf (zae e hdr)];exact S4 c o e
   ·rw [zaf ndl];exact h4t
   ·rw [ereach];unfold zau at hnd hdis ⊢;rw [YAy,YBw];exact ⟨hnd,Tt.tok.nod,λx hx y hy e=>hdis y hy (e ▸ hx)⟩
  ·rintro σ H4 ⟨o4,o5,o6,o7,o8,o9,o10,o11,o12,o13,rfl,S4,h4t,h4r,hT,hnd⟩;rw [YAd,YBK] at h4r hnd;have RC:Reach K H4 n rs hs ts:=⟨hT,hF,hnd⟩;have R4:=R.same S4;have node:∀ m:Int,0 <= m->m < n->∃ x ∈ za6 ts,x.m = m:=λm m0 m1=>by
    obtain ⟨t,ht,x,hx,e⟩:=zdz hT hF m0 m1;exact ⟨x,mem_reach.mpr ⟨t,ht,hx⟩,e⟩
   have dg:∀ (x:Nd),x ∈ za6 ts->∀ H5,Same H4 H5->DGet H5 dr (.int x.m) (some (.ref x.t))/\H5 x.t = some (.tup [.int x.h,.ref x.lt])/\SqT K H5 x.lt (x.line.map V.int)/\x.line.length <= 40:=λx hx H5 S5=>by
    have:=DGet.k (k:=Sum.inl x.m) (S5 _ _ h4r)
    rw [zfN hnd hx] at this;obtain ⟨t,ht,hxt⟩:=mem_reach.mp hx;have q:=(hT t ht).th.node x hxt;have q1:=(hT t ht).tok.few x hxt;have q2:=(hT t ht).tok.len;exact ⟨this,S5 _ _ q.1,zch (tp:=true) S5 q.2,by omega⟩
   have look:=λ(x:Nd) (hx:x ∈ za6 ts)=>zbS hnd hx;refine ⟨_,rfl,a,_,rfl,S4.seq ha,zjH (K:=K) (a:=a) (xs:=rs.map runV) (λi σ H5=>∃ (o5 o6 o7 o8 o9 o10 o11 o12 o13:Option V),σ = [some (.int n),some (.ref a),some (.ref s),some (.ref dr),o4,o5,o6,o7,o8,o9,o10,o11,o12,o13]/\Same H4 H5/\ringF ((za6 ts).map za5) hs 0 rs = ringF ((za6 ts).map za5) hs i (rs.drop i))
    ⟨_,_,_,_,_,_,_,_,_,rfl,zlp _,rfl⟩ (λi σ H5 _ ⟨_,_,_,_,_,_,_,_,_,_,S,_⟩=>(S4.trans S).seq ha) ?_ ?_⟩
   ·rintro i x t σ H5 hx ht ⟨o5,o6,o7,o8,o9,o10,o11,o12,o13,rfl,S5,hF5⟩;obtain ⟨r,hr,rfl,hrt⟩:=R4.at_ hx;have V0:=VM r (YAA hr);have hil:i < rs.length:=(YAi.mp hr).1;have edrop:rs.drop i = r :: rs.drop (i + 1):=by rw [YAT hil,(YAi.mp hr).2]
    have S6:=S5.trans (zal (o:=.tup [.int i,.ref r.p]) ht);refine ⟨t,_,rfl,SqT.of zad,rfl,_,_,rfl,_,_,rfl,r.p,_,rfl,zkn S6 hrt,rfl,_,_,rfl,_,_,rfl,_,_,rfl,_,_,rfl,rfl,rfl,?_⟩;generalize upd H5 t (.tup [.int i,.ref r.p]) = H6 at *;obtain ⟨x,hx1,ex⟩:=node r.one V0.1 V0.2.1;obtain ⟨y,hy1,ey⟩:=node r.other V0.2.2.1 V0.2.2.2;obtain ⟨x1,x2,x3,x4⟩:=dg x hx1 H6 S6;obtain ⟨y1,y2,y3,y4⟩:=dg y hy1 H6 S6;have lx:=look x hx1;have ly:=look y hy1;rw [ex] at x1 lx;rw [ey] at y1 ly;refine ⟨_,rfl,_,rfl,dr,_,rfl,x1,x.t,_,rfl,SqT.of x2,rfl,_,_,rfl,_,_,rfl,rfl,?_⟩;refine ⟨_,rfl,_,rfl,dr,_,rfl,y1,y.t,_,rfl,SqT.of y2,rfl,_,_,rfl,_,_,rfl,rfl,?_⟩;refine ⟨_,rfl,_,rfl,s,_,rfl,.inl ((S4.trans S6).seq hsq),rfl,zhU hs,_,rfl,?_⟩;rw [if_pos rfl,zkt];rw [edrop,zeA,lx,ly] at hF5;cases hc:hs.contains r.hand with
    | true=>
     rw [if_neg (λz=>by rw [hc] at z;cases z.1)] at hF5;exact iteF (iteF ⟨_,_,_,_,_,_,_,_,_,rfl,S6,hF5⟩)
    | false=>
     refine iteT ⟨_,rfl,_,rfl,_,_,rfl,rfl,_,rfl,rfl,_,rfl,?_⟩;by_cases e:y.h - x.h = r.rise
     ·rw [if_neg (λz=>z.2 e)] at hF5;exact zrG (by show V.int (y.h - x.h) = _;rw [e]) ⟨_,_,_,_,_,_,_,_,_,rfl,S6,hF5⟩
     ·rw [if_pos ⟨hc,e⟩] at hF5;refine ite2 (λ_=>?_) (λh2=>absurd (nb2 h2) λz=>e (V.int.inj z));refine ⟨_,rfl,_,rfl,by show 1 <= sizeLine;decide,λtq htq=>?_⟩;have S7:=zal (o:=.tup [.int i]) htq;refine ⟨_,rfl,_,rfl,y.lt,x.lt,y.line,x.line,rfl,zch (tp:=true) S7 y3,zch (tp:=true) S7 x3,by omega,by omega,λp7 H7 S8 q7=>?_⟩;have hal:=zga y.line x.line;refine ⟨tq,p7,_,_,rfl,rfl,zch (tp:=true) S8 (SqT.of zad),q7,?_,λp8 H8 S9 q8=>?_⟩
      ·rw [YAd,YAR];show 1 + _ <= _;omega
      ·refine ⟨by show 2 <= sizeLine;decide,λp9 hp9=>?_⟩;have SA:=zal (o:=.tup [.int r.one,.ref p8]) hp9;have SB:=(((S6.trans S7).trans S8).trans S9).trans SA;refine k _ ts _ (S4.trans SB) (RC.same SB) ?_;rw [hF5];exact ⟨p9,p8,rfl,zad,zch (tp:=true) SA q8⟩
   ·rintro σ H5 ⟨o5,o6,o7,o8,o9,o10,o11,o12,o13,rfl,S5,hF5⟩;refine k .non ts H5 (S4.trans S5) (RC.same S5) ?_;rw [hF5,YAd,YBJ];rfl
end
end Fen
namespace Fd
open PySem L2
section
variable {P:Program} {w:World} {K:PySem.W.Frag} {mg:Str->Option Value} {base:Heap}
theorem zc4 {f:Addr} {fd:FuncData} (F:Fun K "some_line" "some_line" Fen.zbU f fd) (cF:Fen.Cal P w K mg base "steps_from" 1 ["size","runs","struck"] (Fen.zgO K)) (cR:Fen.Cal P w K mg base "tree_from" 1 ["start","steps"] (Fen.zj4 K)):FnOk P w K mg base CX0 2 f fd ["size","runs","struck","one","other"] (spD K 5 zcN):=by
 refine (Fen.zc4 F cF cR).imp λvs H Q E ⟨β,G,ds,gh,bx,hv,hl,P',q,hP⟩=>?_;obtain ⟨n,a,b,rs,hs,one,other,rfl,VM,h0,h1,hn,hz,k⟩:=q;obtain ⟨v1,ws1,rfl,e1,hv⟩:=hv;obtain ⟨v2,ws2,rfl,e2,hv⟩:=hv;obtain ⟨v3,ws3,rfl,e3,hv⟩:=hv;obtain ⟨v4,ws4,rfl,e4,hv⟩:=hv;obtain ⟨v5,ws5,rfl,e5,hv⟩:=hv;cases hv;cases e1;cases e4;cases e5;obtain ⟨x,vs,rfl,gx,hx⟩:=zfM e2;obtain ⟨y,us,rfl,gy,hy⟩:=zfM e3;obtain ⟨rs',rfl,R,er⟩:=zdS hx;rw [reps_ints] at hy;subst hy;refine ⟨n,x,y,rs',hs,one,other,rfl,SqL.of (gh _ _ gx),R.same gh,er.symm.inMarks VM,SqL.of (gh _ _ gy),h0,h1,hn,by rw [er.len];exact hz,λv H' S SL=>?_⟩;obtain ⟨ns,a1,a2,a3,a4⟩:=SL;have st:=zec (nl:=λ_=>False) gh bx S (λa z=>z.elim);rcases a4 with ⟨rfl,k2⟩ | ⟨z,hz,ez,rfl,q⟩
 ·exact hP _ (k none (er.lineIs ⟨ns,a1,a2,a3,.inl ⟨rfl,k2⟩⟩)) _ H' _ st rfl
 ·exact hP _ (k (some z.line) (er.lineIs ⟨ns,a1,a2,a3,.inr ⟨z,hz,ez,rfl⟩⟩)) _ H' _ st (zim (ze3 (gh.trans S) q))
theorem ziv {f:Addr} {fd:FuncData} (F:Fun K "open_ring" "open_ring" Fen.zb2 f fd) (T4:mg "enumerate" = none) (cT:Fen.Cal P w K mg base "trees_of" 2 ["size","runs","struck"] (Fen.zfK K)) (cA:Fen.Cal P w K mg base "across" 1 ["first","second"] (Fen.zgE K)):FnOk P w K mg base CX0 3 f fd ["size","runs","struck"] (spD K 3 zcK):=by
 refine (Fen.zpI F T4 cT cA).imp λvs H Q E ⟨β,G,ds,gh,bx,hv,hl,P',q,hP⟩=>?_;obtain ⟨n,a,b,rs,hs,rfl,VM,hn,hz,k⟩:=q;obtain ⟨v1,ws1,rfl,e1,hv⟩:=hv;obtain ⟨v2,ws2,rfl,e2,hv⟩:=hv;obtain ⟨v3,ws3,rfl,e3,hv⟩:=hv;cases hv;cases e1;obtain ⟨x,vs,rfl,gx,hx⟩:=zfM e2;obtain ⟨y,us,rfl,gy,hy⟩:=zfM e3;obtain ⟨rs',rfl,R,er⟩:=zdS hx;rw [reps_ints] at hy;subst hy;refine ⟨n,x,y,rs',hs,rfl,SqL.of (gh _ _ gx),R.same gh,er.symm.inMarks VM,SqL.of (gh _ _ gy),hn,by rw [er.len];exact hz,λv ts H' S Re Rr=>?_⟩;have st:=zec (nl:=λ_=>False) gh bx S (λa z=>z.elim);have key:=k _ (er.ringIs ⟨K,H',ts,Re,rfl⟩);refine hP _ key _ H' _ st ?_;cases z:Fen.ringF ((Fen.za6 ts).map Fen.za5) hs 0 rs' with
 | none=>rw [z] at Rr;exact Rr
 | some ml=>
  rw [z] at Rr;obtain ⟨p,lt,rfl,hp,hq⟩:=Rr;exact ⟨p,_,rfl,ze3 (gh.trans S) (SqT.of hp),_,_,rfl,rfl,_,_,rfl,zim (ze3 (gh.trans S) hq),rfl⟩
theorem zjl {f:Addr} {fd:FuncData} (F:Fun K "flat" "flat" Fen.zjt f fd) (cT:Fen.Cal P w K mg base "trees_of" 2 ["size","runs","struck"] (Fen.zfK K)) (cH:Fen.Cal P w K mg base "holds" 1 ["runs","heights"] (Fen.ziU K)):FnOk P w K mg base CX0 3 f fd ["size","runs"] (spD K 2 zj9):=by
 refine (Fen.zjl F cT cH).imp λvs H Q E ⟨β,G,ds,gh,bx,hv,hl,P',q,hP⟩=>?_;obtain ⟨n,a,rs,rfl,VM,hn,hz,k1,k2⟩:=q;obtain ⟨v1,ws1,rfl,e1,hv⟩:=hv;obtain ⟨v2,ws2,rfl,e2,hv⟩:=hv;cases hv;cases e1;obtain ⟨x,vs,rfl,gx,hx⟩:=zfM e2;obtain ⟨rs',rfl,R,er⟩:=zdS hx;refine ⟨n,x,rs',rfl,SqL.of (gh _ _ gx),R.same gh,er.symm.inMarks VM,hn,by rw [er.len];exact hz,λH' S no=>?_,λl hts H' S hl' hl2 fo=>?_⟩
 ·exact hP _ (k1 (er.noHts no)) _ H' _ (zec (nl:=λ_=>False) gh bx S (λa z=>z.elim)) rfl
 ·exact hP _ (k2 hts (er.flatOk fo)) _ H' _ (zec (nl:=λa=>a = l) gh bx S (λa z=>z ▸ hl')) ⟨l,_,rfl,zmt (gh.trans S) rfl hl2,λ_=>hl',reps_ints.mpr rfl⟩
end
end Fd
namespace Fd
open PySem L2 Fen
section
variable {P:Program} {w:World} {K:PySem.W.Frag} {mg:Str->Option Value} {base:Heap}
local macro_rules | `(tactic| decreasing_trivial)=>`(tactic| first | assumption | exact Bt.len ‹_› | exact Bt.range ‹_› | exact Bt.list ‹_› | exact Bt.isinstance ‹_› | exact Bt.all ‹_› | exact Bt.tuple ‹_› | exact Bt.sorted ‹_› | exact Bt.set ‹_› | exact Bt.zip ‹_› | exact Bt.enumerate ‹_› | exact Bt.any ‹_› | exact Bt.min ‹_› | exact Bt.max ‹_› | exact Bt.int ‹_› | exact Bt.bool ‹_› | exact Bt.str ‹_› | exact Room.mono ‹_› (by first | decide | omega) | exact Room.units ‹_› | exact PyProof.Rows.boot_list | exact PyProof.Rows.boot_tuple | exact PyProof.Rows.boot_int | exact PyProof.Rows.boot_bool | exact PyProof.Rows.boot_str | decide | exact ndB_of (by kernel_rfl))
theorem zjs (F:Fun K "hands_of" "hands_of" zed f fd) (T:Bt mg)  : FnOk P w K mg base CX0 1 f fd ["runs"] (spD K 1 zbC):=
 zbv (N:=["runs"]) F λ_ _=>
 (zar (zaA (DF.de (zod (Nc:=["one","other","rise","hand"]) (.tp 4 (.cons (.nm 0) (.cons (.nm 1) (.cons (.nm 2) (.cons (.nm 3) .nil))))) (zbp (dv 0)) (zbi (n:=4) rfl (zac (gn 0) (zac (gn 1) (zac (gn 2) (zac (gn 3) zax))))) zaP (dv 3)))))
theorem zoW (F:Fun K "left" "left" zls f fd) (T:Bt mg)  : FnOk P w K mg base CX0 1 f fd ["runs","struck"] (spD K 2 zhL):=
 zbv (N:=["runs","struck"]) F λ_ _=>
 (zar (zaA (DF.de (zaQ (Nc:=["one","other","rise","hand","struck"]) (.tp 4 (.cons (.nm 0) (.cons (.nm 1) (.cons (.nm 2) (.cons (.nm 3) .nil))))) (zbp (dv 0)) (zbi (n:=4) rfl (zac (gn 0) (zac (gn 1) (zac (gn 2) (zac (gn 3) zax))))) (zkq (zht (dv 3) (dv 4))) (zcz (zaa (dv 0) (zaa (dv 1) (zaa (dv 2) (zaa (dv 3) zai)))))))))
theorem zhi (F:Fun K "holds" "holds" zea f fd) (T:Bt mg)  : FnOk P w K mg base CX0 1 f fd ["runs","heights"] (spD K 2 zoU):=
 zbv (N:=["runs","heights"]) F λ_ _=>
 (zar (zaA (zgL (zaa (DF.de (zaQ (Nc:=["one","other","rise","hand","heights"]) (.tp 4 (.cons (.nm 0) (.cons (.nm 1) (.cons (.nm 2) (.cons (.nm 3) .nil))))) (zbp (dv 0)) (zbi (n:=4) rfl (zac (gn 0) (zac (gn 1) (zac (gn 2) (zac (gn 3) zax))))) zaP (d_eq (zhp (zbm 4 (dv 1)) (zbm 4 (dv 0))) (dv 2)))) zai))))
theorem zi4 (F:Fun K "lists_of" "lists_of" zd8 f fd) (T:Bt mg)  : FnOk P w K mg base CX0 1 f fd ["hands","length"] (spD K 2 zcs):=
 zbv (N:=["hands","length","lists","turn"]) F λ_ _=>
 (zag (za1 2 (DF.de (zb4 (zaa (DF.de (zb4 zai)) zai))))
  (zag (zen (.nm 3) (zdP (dv 1)) (gn 3) (zar (zpE 2 (Nc:=["chosen","hand","hands"]) (.nm 0) (.nm 1) (zbp (dv 2)) (gn 0) (zbp (dv 2)) (gn 1) (zkq (DW.dt (w_or (zdE (zc7 (dv 0))) (zdu (t_lt (zbm 0 (znT zaj)) (dv 1)))))) (zcj (dv 0) (DF.de (zb4 (zaa (dv 1) zai)))))))
  (zar (zaA (dv 2)))))
theorem zkx (F:Fun K "reading" "reading" zdN f fd) (T:Bt mg) (c_hands_of:Cal P w K mg base "hands_of" 1 ["runs"] (spD K 1 zbC)) (c_lists_of:Cal P w K mg base "lists_of" 1 ["hands","length"] (spD K 2 zcs)) (c_flat:Cal P w K mg base "flat" 3 ["size","runs"] (spD K 2 zj9)) (c_left:Cal P w K mg base "left" 1 ["runs","struck"] (spD K 2 zhL)):FnOk P w K mg base CX0 4 f fd ["size","runs","many"] (spD K 3 zb5):=
 zbv (N:=["size","runs","many","hands","length","struck","heights"]) F λ_ _=>
 (zag (za1 3 (zao c_hands_of (zaa (dv 1) zai)))
  (zag (zen (.nm 4) (zdP (zcj (zrz (zaa (dv 2) (zaa (zcX 3) zai))) zaj)) (gn 4) (zar (zen (.nm 5) (zbp (zao c_lists_of (zaa (dv 3) (zaa (dv 4) zai)))) (gn 5) (zag (za1 6 (zao c_flat (zaa (dv 0) (zaa (zao c_left (zaa (dv 1) (zaa (dv 5) zai))) zai))))
  (zar (s_if (zkd (dv 6)) (zar (zaA (zcz (zaa (dv 5) (zaa (dv 6) zai))))) za0))))))
  (zar (zaA zd6))))
theorem zpg (F:Fun K "step" "step" zmV f fd) (T:Bt mg)  : FnOk P w K mg base CX0 1 f fd ["run","mark"] (spD K 2 ziH):=
 zbv (N:=["run","mark","one","other","rise","hand"]) F λ_ _=>
 (zag (zfg (.tp 4 (.cons (.nm 2) (.cons (.nm 3) (.cons (.nm 4) (.cons (.nm 5) .nil))))) (dv 0) (zbi (n:=4) rfl (zac (gn 2) (zac (gn 3) (zac (gn 4) (zac (gn 5) zax))))))
  (zag (s_if (t_eq (dv 1) (dv 2)) (zar (zaA (zcz (zaa (dv 3) (zaa (dv 4) zai))))) za0)
  (zag (s_if (t_eq (dv 1) (dv 3)) (zar (zaA (zcz (zaa (dv 2) (zaa (znT (dv 4)) zai))))) za0)
  (zar (zaA zd6)))))
theorem zln (F:Fun K "walked" "walked" zfs f fd) (T:Bt mg) (c_step:Cal P w K mg base "step" 1 ["run","mark"] (spD K 2 ziH)):FnOk P w K mg base CX0 2 f fd ["runs","mark","line"] (spD K 3 zel):=
 zbv (N:=["runs","mark","line","end","total","number","taken","rise"]) F λ_ _=>
 (zag (s_if (t_lt (zjN (dv 2)) (zcX 2)) (zar (zaA zd6)) za0)
  (zag (za1 3 (dv 1))
  (zag (za1 4 zaj)
  (zag (zen (.nm 5) (zbp (dv 2)) (gn 5) (zag (s_if (DW.dt (w_or (t_lt (dv 5) zaj) (zdu (t_ge (dv 5) (zcX 0))))) (zar (zaA zd6)) za0)
  (zag (za1 6 (zao c_step (zaa (zbm 0 (dv 5)) (zaa (dv 3) zai))))
  (zag (s_if (zkN (dv 6)) (zar (zaA zd6)) za0)
  (zag (zfg (.tp 2 (.cons (.nm 3) (.cons (.nm 7) .nil))) (dv 6) (zbi (n:=2) rfl (zac (gn 3) (zac (gn 7) zax))))
  (zar (zrv 4 (dv 7))))))))
  (zar (zaA (zcz (zaa (dv 3) (zaa (dv 4) zai)))))))))
theorem zhd (F:Fun K "line_hands" "line_hands" zcy f fd) (T:Bt mg) (c_hands_of:Cal P w K mg base "hands_of" 1 ["runs"] (spD K 1 zbC)):FnOk P w K mg base CX0 2 f fd ["runs","line"] (spD K 2 za4):=
 zbv (N:=["runs","line"]) F λ_ _=>
 (zar (zaA (zao c_hands_of (zaa (DF.de (zaQ (Nc:=["number","runs"]) (.nm 0) (zbp (dv 1)) (gn 0) zaP (zbm 1 (dv 0)))) zai))))
theorem ziM (F:Fun K "fits_kind" "fits_kind" zcU f fd) (T:Bt mg)  : FnOk P w K mg base CX0 1 f fd ["kind","mark","end","rise"] (spD K 4 zb6):=
 zbv (N:=["kind","mark","end","rise"]) F λ_ _=>
 (zag (s_if (t_eq (dv 0) zcY) (zar (zaA (zhE (d_eq (dv 2) (dv 1)) (ziq (d_ne (dv 3) zaj))))) za0)
  (zar (zaA (d_eq (dv 0) zcY))))
theorem zb9 (F:Fun K "is_paper_without" "is_paper_without" zbe f fd) (hm:mg "is_paper_without" = some (.ref f)) (hb:Binds K fd ["size","runs","paper","many","struck"] []) (T:Bt mg) (c_walked:Cal P w K mg base "walked" 2 ["runs","mark","line"] (spD K 3 zel)) (c_line_hands:Cal P w K mg base "line_hands" 2 ["runs","line"] (spD K 2 za4)) (c_fits_kind:Cal P w K mg base "fits_kind" 1 ["kind","mark","end","rise"] (spD K 4 zb6)):∀ n,FnOk P w K mg base CX0 (3 + n) f fd ["size","runs","paper","many","struck"] (spD K 5 (zaz n))
 | 0=>⟨λvs H Q E ⟨β,G,ds,_,_,_,h,_⟩=>h,λA outer s H args us vs Q E _ _ _ _ ⟨β,G,ds,_,_,_,_,P,z,_⟩=>z.elim⟩
 | n + 1=>by
  have cSelf:Cal P w K mg base "is_paper_without" (3 + n) ["size","runs","paper","many","struck"] (spD K 5 (zaz n)):=Cal.of F (zb9 F hm hb T c_walked c_line_hands c_fits_kind n) hm hb;exact zbv (N:=["size","runs","paper","many","struck","kind","mark","line","rest","walk","end","rise","hands","wanted"]) (k:=3 + n) F λ_ _=>
   (zag (zfg (.tp 4 (.cons (.nm 5) (.cons (.nm 6) (.cons (.nm 7) (.cons (.nm 8) .nil))))) (dv 2) (zbi (n:=4) rfl (zac (gn 5) (zac (gn 6) (zac (gn 7) (zac (gn 8) zax))))))
  (zag (za1 9 (zao c_walked (zaa (dv 1) (zaa (dv 6) (zaa (dv 7) zai)))))
  (zag (s_if (DW.dt (w_or (znH (dv 6) (dv 0)) (zdu (zkN (dv 9))))) (zar (zaA zb8)) za0)
  (zag (zfg (.tp 2 (.cons (.nm 10) (.cons (.nm 11) .nil))) (dv 9) (zbi (n:=2) rfl (zac (gn 10) (zac (gn 11) zax))))
  (zag (za1 12 (zao c_line_hands (zaa (dv 1) (zaa (dv 7) zai))))
  (zag (s_if (DW.dt (w_or (zdE (zc7 (zao c_fits_kind (zaa (dv 5) (zaa (dv 6) (zaa (dv 10) (zaa (dv 11) zai))))))) (zdu (zc7 (zqR (zaa (DF.de (zaQ (Nc:=["hand","struck"]) (.nm 0) (zbp (dv 12)) (gn 0) zaP (d_in (dv 0) (dv 1)))) zai)))))) (zar (zaA zb8)) za0)
  (zag (za1 13 (d_if (t_gt (dv 3) zaj) (dv 12) (DF.de (zb4 zai))))
  (zag (s_if (t_ne (DF.de (zaQ (Nc:=["hand","inner"]) (.tp 2 (.cons (.nm 0) (.cons (.nm 1) .nil))) (zbp (dv 8)) (zbi (n:=2) rfl (zac (gn 0) (zac (gn 1) zax))) zaP (dv 0))) (dv 13)) (zar (zaA zb8)) za0)
  (zar (zaA (zgL (zaa (DF.de (zaQ (Nc:=["hand","inner","size","runs","many","struck"]) (.tp 2 (.cons (.nm 0) (.cons (.nm 1) .nil))) (zbp (dv 8)) (zbi (n:=2) rfl (zac (gn 0) (zac (gn 1) zax))) zaP (zao cSelf (zaa (dv 2) (zaa (dv 3) (zaa (dv 1) (zaa (zhp (dv 4) zaj) (zaa (zcj (dv 5) (DF.de (zb4 (zaa (dv 0) zai)))) zai)))))))) zai))))))))))))
theorem ziW (F:Fun K "is_paper" "is_paper" zeh f fd) (T:Bt mg) (c_is_paper_without:Cal P w K mg base "is_paper_without" (3 + 6) ["size","runs","paper","many","struck"] (spD K 5 (zaz 6))):FnOk P w K mg base CX0 10 f fd ["size","runs","paper","many"] (spD K 4 zct):=
 zbv (N:=["size","runs","paper","many"]) F λ_ _=>
 (zar (zaA (zao c_is_paper_without (zaa (dv 0) (zaa (dv 1) (zaa (dv 2) (zaa (dv 3) (zaa (DF.de (zb4 zai)) zai))))))))
theorem zc6 (F:Fun K "lines_within" "lines_within" zbM f fd) (hm:mg "lines_within" = some (.ref f)) (hb:Binds K fd ["paper"] []) (T:Bt mg)  : ∀ n,FnOk P w K mg base CX0 (1 + n) f fd ["paper"] (spD K 1 (zaX n))
 | 0=>⟨λvs H Q E ⟨β,G,ds,_,_,_,h,_⟩=>h,λA outer s H args us vs Q E _ _ _ _ ⟨β,G,ds,_,_,_,_,P,z,_⟩=>z.elim⟩
 | n + 1=>by
  have cSelf:Cal P w K mg base "lines_within" (1 + n) ["paper"] (spD K 1 (zaX n)):=Cal.of F (zc6 F hm hb T  n) hm hb;exact zbv (N:=["paper","kind","mark","line","rest","found","hand","inner"]) (k:=1 + n) F λ_ _=>
   (zag (zfg (.tp 4 (.cons (.nm 1) (.cons (.nm 2) (.cons (.nm 3) (.cons (.nm 4) .nil))))) (dv 0) (zbi (n:=4) rfl (zac (gn 1) (zac (gn 2) (zac (gn 3) (zac (gn 4) zax))))))
  (zag (zmu 5 (zb4 (zaa (zcz (zaa (dv 1) (zaa (dv 2) (zaa (dv 3) zai)))) zai)))
  (zag (zen (.tp 2 (.cons (.nm 6) (.cons (.nm 7) .nil))) (zbp (dv 4)) (zbi (n:=2) rfl (zac (gn 6) (zac (gn 7) zax))) (zar (zrZ 5 (zao cSelf (zaa (dv 7) zai)))))
  (zar (zlZ 5 (zaA (dv 5)))))))
theorem zg3 (F:Fun K "shows_none" "shows_none" zcn f fd) (T:Bt mg) (c_is_paper:Cal P w K mg base "is_paper" 10 ["size","runs","paper","many"] (spD K 4 zct)) (c_lines_within:Cal P w K mg base "lines_within" (1 + 6) ["paper"] (spD K 1 (zaX 6))):FnOk P w K mg base CX0 11 f fd ["size","runs","paper","many"] (spD K 4 zbH):=
 zbv (N:=["size","runs","paper","many"]) F λ_ _=>
 (zag (s_if (zdE (zc7 (zao c_is_paper (zaa (dv 0) (zaa (dv 1) (zaa (dv 2) (zaa (dv 3) zai))))))) (zar (zaA zb8)) za0)
  (zar (zaA (zgL (zaa (DF.de (zaQ (Nc:=["kind","mark","line"]) (.tp 3 (.cons (.nm 0) (.cons (.nm 1) (.cons (.nm 2) .nil)))) (zbp (zao c_lines_within (zaa (dv 2) zai))) (zbi (n:=3) rfl (zac (gn 0) (zac (gn 1) (zac (gn 2) zax)))) zaP (d_eq (dv 0) zcY))) zai)))))
theorem zcP (F:Fun K "paper_without" "paper_without" zbw f fd) (hm:mg "paper_without" = some (.ref f)) (hb:Binds K fd ["size","runs","many","struck","ends"] []) (T:Bt mg) (c_open_ring:Cal P w K mg base "open_ring" 3 ["size","runs","struck"] (spD K 3 zcK)) (c_line_hands:Cal P w K mg base "line_hands" 2 ["runs","line"] (spD K 2 za4)) (c_some_line:Cal P w K mg base "some_line" 2 ["size","runs","struck","one","other"] (spD K 5 zcN)):∀ n,FnOk P w K mg base CX0 (4 + n) f fd ["size","runs","many","struck","ends"] (spD K 5 (zaB n))
 | 0=>⟨λvs H Q E ⟨β,G,ds,_,_,_,h,_⟩=>h,λA outer s H args us vs Q E _ _ _ _ ⟨β,G,ds,_,_,_,_,P,z,_⟩=>z.elim⟩
 | n + 1=>by
  have cSelf:Cal P w K mg base "paper_without" (4 + n) ["size","runs","many","struck","ends"] (spD K 5 (zaB n)):=Cal.of F (zcP F hm hb T c_open_ring c_line_hands c_some_line n) hm hb;exact zbv (N:=["size","runs","many","struck","ends","kind","found","one","other","mark","line","hands","rest"]) (k:=4 + n) F λ_ _=>
   (zag (za1 5 zcY)
  (zag (za1 6 (zao c_open_ring (zaa (dv 0) (zaa (dv 1) (zaa (dv 3) zai)))))
  (zag (s_if (zkN (dv 6)) (zag (za1 5 zcY)
  (zag (zfg (.tp 2 (.cons (.nm 7) (.cons (.nm 8) .nil))) (dv 4) (zbi (n:=2) rfl (zac (gn 7) (zac (gn 8) zax))))
  (zar (za1 6 (zcz (zaa (dv 7) (zaa (zao c_some_line (zaa (dv 0) (zaa (dv 1) (zaa (dv 3) (zaa (dv 7) (zaa (dv 8) zai)))))) zai))))))) za0)
  (zag (zfg (.tp 2 (.cons (.nm 9) (.cons (.nm 10) .nil))) (dv 6) (zbi (n:=2) rfl (zac (gn 9) (zac (gn 10) zax))))
  (zag (za1 11 (d_if (t_gt (dv 2) zaj) (zao c_line_hands (zaa (dv 1) (zaa (dv 10) zai))) (DF.de (zb4 zai))))
  (zag (zoz 12 (Nc:=["hand","size","runs","ends","many","struck"]) (.nm 0) (zbp (dv 11)) (gn 0) zaP (zcz (zaa (dv 0) (zaa (zao cSelf (zaa (dv 1) (zaa (dv 2) (zaa (zhp (dv 4) zaj) (zaa (zcj (dv 5) (DF.de (zb4 (zaa (dv 0) zai)))) (zaa (dv 3) zai)))))) zai))))
  (zar (zaA (zcz (zaa (dv 5) (zaa (dv 9) (zaa (dv 10) (zaa (zpl (zaa (dv 12) zai)) zai)))))))))))))
theorem zhg (F:Fun K "some_paper" "some_paper" zcq f fd) (T:Bt mg) (c_paper_without:Cal P w K mg base "paper_without" (4 + 6) ["size","runs","many","struck","ends"] (spD K 5 (zaB 6))):FnOk P w K mg base CX0 11 f fd ["size","runs","many","one","other"] (spD K 5 zbI):=
 zbv (N:=["size","runs","many","one","other"]) F λ_ _=>
 (zar (zaA (zao c_paper_without (zaa (dv 0) (zaa (dv 1) (zaa (dv 2) (zaa (DF.de (zb4 zai)) (zaa (zcz (zaa (dv 3) (zaa (dv 4) zai))) zai))))))))
theorem zgT (F:Fun K "none_paper" "none_paper" zcp f fd) (T:Bt mg) (c_some_paper:Cal P w K mg base "some_paper" 11 ["size","runs","many","one","other"] (spD K 5 zbI)) (c_reading:Cal P w K mg base "reading" 4 ["size","runs","many"] (spD K 3 zb5)):FnOk P w K mg base CX0 12 f fd ["size","runs","many"] (spD K 3 zbs):=
 zbv (N:=["size","runs","many"]) F λ_ _=>
 (zag (s_if (zkd (zao c_reading (zaa (dv 0) (zaa (dv 1) (zaa (dv 2) zai))))) (zar (zaA zd6)) za0)
  (zar (zaA (zao c_some_paper (zaa (dv 0) (zaa (dv 1) (zaa (dv 2) (zaa zaj (zaa zaj zai)))))))))
theorem zhf (F:Fun K "_law_great" "_law_great" zh1 f fd) (T:Bt mg) (c__law_take:Cal P w K mg base "_law_take" 1 ["_law_box_here","_law_many"] (spD K 2 zam)):FnOk P w K mg base CX0 2 f fd ["_law_box_here"] (spD K 1 zbr):=
 zbv (N:=["_law_box_here","_law_ways","_law_found","_law_k"]) F λ_ _=>
 (zag (za1 1 (zao c__law_take (zaa (dv 0) (zaa zaj zai))))
  (zag (s_if (t_eq (dv 1) zaj) (zar (zaA (zao c__law_take (zaa (dv 0) (zaa zaj zai))))) za0)
  (zag (s_if (t_eq (dv 1) zaj) (zar (zaA (zao c__law_take (zaa (dv 0) (zaa zaj zai))))) za0)
  (zag (za1 2 zaj)
  (zag (zen (.nm 3) (zdP zaj) (gn 3) (zar (za1 2 (zcj (zna (dv 2) zaj) (zao c__law_take (zaa (dv 0) (zaa zaj zai)))))))
  (zar (zaA (dv 2))))))))
theorem zeJ (F:Fun K "_law_same" "_law_same" zmY f fd) (hm:mg "_law_same" = some (.ref f)) (hb:Binds K fd ["_law_found","_law_due"] []) (T:Bt mg)  : ∀ n,FnOk P w K mg base CX0 (1 + n) f fd ["_law_found","_law_due"] (spD K 2 (zbh n))
 | 0=>⟨λvs H Q E ⟨β,G,ds,_,_,_,h,_⟩=>h,λA outer s H args us vs Q E _ _ _ _ ⟨β,G,ds,_,_,_,_,P,z,_⟩=>z.elim⟩
 | n + 1=>by
  have cSelf:Cal P w K mg base "_law_same" (1 + n) ["_law_found","_law_due"] (spD K 2 (zbh n)):=Cal.of F (zeJ F hm hb T  n) hm hb;exact zbv (N:=["_law_found","_law_due"]) (k:=1 + n) F λ_ _=>
   (zag (s_if (DW.dt (w_or (zc7 (zcf (dv 1))) (zdu (zc7 (zcf (dv 1)))))) (zag (s_if (DW.dt (w_or (t_ne (zcf (dv 0)) (zcf (dv 1))) (zdu (t_ne (zcf (dv 0)) (zcf (dv 1)))))) (zar (zaA zb8)) za0)
  (zar (zaA (zhE (d_eq (zcX 0) (zcX 1)) (ziq (zgL (zaa (DF.de (zaQ (Nc:=["_law_one","_law_other"]) (.tp 2 (.cons (.nm 0) (.cons (.nm 1) .nil))) (zr7 (dv 0) (dv 1)) (zbi (n:=2) rfl (zac (gn 0) (zac (gn 1) zax))) zaP (zao cSelf (zaa (dv 0) (zaa (dv 1) zai))))) zai))))))) za0)
  (zag (s_if (DW.dt (w_or (zkN (dv 0)) (zdu (zkN (dv 1))))) (zar (zaA (zhE (zn1 (dv 0)) (ziq (zn1 (dv 1)))))) za0)
  (zag (s_if (DW.dt (w_or (t_ne (zcf (dv 0)) (zcf (dv 1))) (zdu (t_ne (zcf (dv 0)) (zcf (dv 1)))))) (zar (zaA zb8)) za0)
  (zar (zaA (zhE (d_eq (zcf (dv 0)) (zcf (dv 1))) (ziq (d_eq (dv 0) (dv 1)))))))))
theorem zdT (F:Fun K "_law_other_rise" "_law_other_rise" ziK f fd) (T:Bt mg) (c__law_take:Cal P w K mg base "_law_take" 1 ["_law_box_here","_law_many"] (spD K 2 zam)) (c__law_great:Cal P w K mg base "_law_great" 2 ["_law_box_here"] (spD K 1 zbr)):FnOk P w K mg base CX0 3 f fd ["_law_box_here","_law_rise"] (spD K 2 zaY):=
 zbv (N:=["_law_box_here","_law_rise"]) F λ_ _=>
 (zar (zaA (zcj (dv 1) (d_ix (DF.de (zb4 (zaa zaj (zaa (znT zaj) (zaa (zcj zaj (zao c__law_take (zaa (dv 0) (zaa zaj zai)))) (zaa (zao c__law_great (zaa (dv 0) zai)) (zaa (znT (zao c__law_great (zaa (dv 0) zai))) zai))))))) (zao c__law_take (zaa (dv 0) (zaa zaj zai)))))))
theorem zgQ (F:Fun K "_law_world" "_law_world" zir f fd) (T:Bt mg) (c__law_take:Cal P w K mg base "_law_take" 1 ["_law_box_here","_law_many"] (spD K 2 zam)) (c__law_other_rise:Cal P w K mg base "_law_other_rise" 3 ["_law_box_here","_law_rise"] (spD K 2 zaY)):FnOk P w K mg base CX0 4 f fd ["_law_box_here","_law_most_marks","_law_most_hands","_law_most_runs"] (spD K 4 zbL):=
 zbv (N:=["_law_box_here","_law_most_marks","_law_most_hands","_law_most_runs","_law_size","_law_hands_here","_law_wide","_law_heights","_law_names","_law_false","_law_bad","_law_runs","_law_k","_law_one","_law_other","_law_hand","_law_rise"]) F λ_ _=>
 (zag (za1 4 (zcj zaj (zao c__law_take (zaa (dv 0) (zaa (dv 1) zai)))))
  (zag (za1 5 (zcj zaj (zao c__law_take (zaa (dv 0) (zaa (dv 2) zai)))))
  (zag (za1 6 (d_ix (DF.de (zb4 (zaa zaj (zaa zaj (zaa (zrE zaj zaj) zai))))) (zao c__law_take (zaa (dv 0) (zaa zaj zai)))))
  (zag (zoz 7 (Nc:=["_law_k","_law_box_here","_law_wide"]) (.nm 0) (zdP (dv 4)) (gn 0) zaP (zao c__law_take (zaa (dv 1) (zaa (dv 2) zai))))
  (zag (za1 8 (DF.de (zaQ (Nc:=["_law_k","_law_box_here"]) (.nm 0) (zdP (dv 5)) (gn 0) zaP (d_if (t_eq (zao c__law_take (zaa (dv 1) (zaa zaj zai))) zaj) (zqU (zna zaj (dv 0)) zaj) (dv 0)))))
  (zag (za1 9 (DF.de (ziJ (DF.de (zaQ (Nc:=["_law_k","_law_names","_law_box_here","_law_hands_here"]) (.nm 0) (zdP (zao c__law_take (zaa (dv 0) (zaa zaj zai)))) (gn 0) zaP (zbm 1 (zao c__law_take (zaa (dv 2) (zaa (dv 3) zai)))))))))
  (zag (za1 10 (zcj zaj (zao c__law_take (zaa (dv 0) (zaa zaj zai)))))
  (zag (zmu 11 (zb4 zai))
  (zag (zen (.nm 12) (zdP (zna (zao c__law_take (zaa (dv 0) (zaa (zcj (dv 3) zaj) zai))) (zpY (zaa (d_gt (dv 4) zaj) zai)))) (gn 12) (zag (za1 13 (zao c__law_take (zaa (dv 0) (zaa (dv 4) zai))))
  (zag (za1 14 (zqU (zcj (zcj (dv 13) zaj) (zao c__law_take (zaa (dv 0) (zaa (zhp (dv 4) zaj) zai)))) (dv 4)))
  (zag (za1 15 (zbm 8 (zao c__law_take (zaa (dv 0) (zaa (dv 5) zai)))))
  (zag (za1 16 (zhp (zbm 7 (dv 14)) (zbm 7 (dv 13))))
  (zag (s_if (DW.dt (znS (t_in (dv 15) (dv 9)) (zle (t_lt (zao c__law_take (zaa (dv 0) (zaa zaj zai))) (dv 10))))) (zar (za1 16 (zao c__law_other_rise (zaa (dv 0) (zaa (dv 16) zai))))) za0)
  (zar (zpZ 11 (zcz (zaa (dv 13) (zaa (dv 14) (zaa (dv 16) (zaa (dv 15) zai)))))))))))))
  (zar (zlZ 11 (zaA (zcz (zaa (dv 4) (zaa (dv 11) (zaa (dv 7) (zaa (dv 9) zai)))))))))))))))))
theorem zh5 (F:Fun K "_law_left" "_law_left" zlG f fd) (T:Bt mg)  : FnOk P w K mg base CX0 1 f fd ["_law_runs","_law_struck"] (spD K 2 zb1):=
 zbv (N:=["_law_runs","_law_struck"]) F λ_ _=>
 (zar (zaA (DF.de (zaQ (Nc:=["_law_run","_law_struck"]) (.nm 0) (zbp (dv 0)) (gn 0) (zkq (zht (zbm 0 zaj) (dv 1))) (dv 0)))))
theorem zfq (F:Fun K "_law_settled" "_law_settled" zef f fd) (T:Bt mg)  : FnOk P w K mg base CX0 1 f fd ["_law_size","_law_runs"] (spD K 2 zbn):=
 zbv (N:=["_law_size","_law_runs","_law_labels","_law_heights","_law_one","_law_other","_law_rise","_law_hand","_law_by","_law_home","_law_at"]) F λ_ _=>
 (zag (zmu 2 (zm8 (dv 0)))
  (zag (zmu 3 (zrV (DF.de (zb4 (zaa zaj zai))) (dv 0)))
  (zag (zen (.tp 4 (.cons (.nm 4) (.cons (.nm 5) (.cons (.nm 6) (.cons (.nm 7) .nil))))) (zbp (dv 1)) (zbi (n:=4) rfl (zac (gn 4) (zac (gn 5) (zac (gn 6) (zac (gn 7) zax))))) (zag (za1 8 (zhp (zcj (zbm 3 (dv 4)) (dv 6)) (zbm 3 (dv 5))))
  (zar (s_if (t_eq (zbm 2 (dv 4)) (zbm 2 (dv 5))) (zar (s_if (t_ne (dv 8) zaj) (zar (zaA zd6)) za0)) (zag (za1 9 (DF.de (zb4 (zaa (zbm 2 (dv 4)) (zaa (zbm 2 (dv 5)) zai)))))
  (zar (zen (.nm 10) (zdP (dv 0)) (gn 10) (zar (s_if (t_eq (zbm 2 (dv 10)) (zbm 9 zaj)) (zag (zr0 2 (zbm 9 zaj) (dv 10))
  (zar (zpb 3 (dv 10) (dv 8)))) za0)))))))))
  (zar (zlZ 3 (zlZ 2 (zaA (zcz (zaa (dv 2) (zaa (dv 3) zai))))))))))
theorem zg6 (F:Fun K "_law_hands" "_law_hands" zhF f fd) (T:Bt mg)  : FnOk P w K mg base CX0 1 f fd ["_law_runs"] (spD K 1 za3):=
 zbv (N:=["_law_runs"]) F λ_ _=>
 (zar (zaA (DF.de (ziJ (DF.de (zaQ (Nc:=["_law_run"]) (.nm 0) (zbp (dv 0)) (gn 0) zaP (zbm 0 zaj)))))))
theorem zhv (F:Fun K "_law_lists" "_law_lists" zh6 f fd) (T:Bt mg)  : FnOk P w K mg base CX0 1 f fd ["_law_hands_here","_law_many"] (spD K 2 zbK):=
 zbv (N:=["_law_hands_here","_law_many","_law_some","_law_hand"]) F λ_ _=>
 (zag (za1 2 (DF.de (zb4 (zaa (DF.de (zb4 zai)) zai))))
  (zag (zen (.nm 3) (zbp (dv 0)) (gn 3) (zar (za1 2 (zcj (dv 2) (DF.de (zaQ (Nc:=["_law_one","_law_hand","_law_many"]) (.nm 0) (zbp (dv 2)) (gn 0) (zkq (t_lt (zcX 0) (dv 2))) (zcj (dv 0) (DF.de (zb4 (zaa (dv 1) zai))))))))))
  (zar (zaA (DF.de (zaQ (Nc:=["_law_size","_law_one"]) (.tp 2 (.cons (.nm 0) (.cons (.nm 1) .nil))) (zbp (zo6 (zaa (DF.de (zaQ (Nc:=["_law_one"]) (.nm 0) (zbp (dv 2)) (gn 0) zaP (zcz (zaa (zcX 0) (zaa (dv 0) zai))))) zai))) (zbi (n:=2) rfl (zac (gn 0) (zac (gn 1) zax))) zaP (dv 1)))))))
theorem ziL (F:Fun K "_law_sets" "_law_sets" zl2 f fd) (T:Bt mg) (c__law_lists:Cal P w K mg base "_law_lists" 1 ["_law_hands_here","_law_many"] (spD K 2 zbK)) (c__law_hands:Cal P w K mg base "_law_hands" 1 ["_law_runs"] (spD K 1 za3)) (c__law_settled:Cal P w K mg base "_law_settled" 1 ["_law_size","_law_runs"] (spD K 2 zbn)) (c__law_left:Cal P w K mg base "_law_left" 1 ["_law_runs","_law_struck"] (spD K 2 zb1)):FnOk P w K mg base CX0 2 f fd ["_law_size","_law_runs","_law_many"] (spD K 3 zca):=
 zbv (N:=["_law_size","_law_runs","_law_many","_law_found","_law_some","_law_here"]) F λ_ _=>
 (zag (zmu 3 (zb4 zai))
  (zag (zen (.nm 4) (zbp (zao c__law_lists (zaa (zao c__law_hands (zaa (dv 1) zai)) (zaa (dv 2) zai)))) (gn 4) (zag (za1 5 (zao c__law_settled (zaa (dv 0) (zaa (zao c__law_left (zaa (dv 1) (zaa (dv 4) zai))) zai))))
  (zar (s_if (zkd (dv 5)) (zar (zpZ 3 (zcz (zaa (dv 4) (zaa (zbm 5 zaj) (zaa (zbm 5 zaj) zai)))))) za0))))
  (zar (zlZ 3 (zaA (dv 3))))))
theorem ziF (F:Fun K "_law_walk" "_law_walk" zmy f fd) (T:Bt mg)  : FnOk P w K mg base CX0 1 f fd ["_law_runs","_law_mark","_law_line"] (spD K 3 zb7):=
 zbv (N:=["_law_runs","_law_mark","_law_line","_law_here","_law_height","_law_at","_law_one","_law_other","_law_rise","_law_hand"]) F λ_ _=>
 (zag (za1 3 (dv 1))
  (zag (za1 4 zaj)
  (zag (s_if (t_ne (zjN (dv 2)) (zcX 2)) (zar (zaA zd6)) za0)
  (zag (zen (.nm 5) (zbp (dv 2)) (gn 5) (zag (s_if (DW.dt (w_or (zdE (zop zaj (dv 5) (zcX 0))) (zdu (zht (dv 3) (d_sl (zbm 0 (dv 5)) zrf (zrk zaj)))))) (zar (zaA zd6)) za0)
  (zag (zfg (.tp 4 (.cons (.nm 6) (.cons (.nm 7) (.cons (.nm 8) (.cons (.nm 9) .nil))))) (zbm 0 (dv 5)) (zbi (n:=4) rfl (zac (gn 6) (zac (gn 7) (zac (gn 8) (zac (gn 9) zax))))))
  (zar (s_if (t_eq (dv 3) (dv 6)) (zar (zp4 3 4 (dv 7) (zcj (dv 4) (dv 8)))) (zar (zp4 3 4 (dv 6) (zhp (dv 4) (dv 8)))))))))
  (zar (zaA (zcz (zaa (dv 3) (zaa (dv 4) zai)))))))))
theorem zdo (F:Fun K "_law_formed" "_law_formed" zfl f fd) (hm:mg "_law_formed" = some (.ref f)) (hb:Binds K fd ["_law_paper","_law_deep"] []) (T:Bt mg)  : ∀ n,FnOk P w K mg base CX0 (1 + n) f fd ["_law_paper","_law_deep"] (spD K 2 (zaV n))
 | 0=>⟨λvs H Q E ⟨β,G,ds,_,_,_,h,_⟩=>h,λA outer s H args us vs Q E _ _ _ _ ⟨β,G,ds,_,_,_,_,P,z,_⟩=>z.elim⟩
 | n + 1=>by
  have cSelf:Cal P w K mg base "_law_formed" (1 + n) ["_law_paper","_law_deep"] (spD K 2 (zaV n)):=Cal.of F (zdo F hm hb T  n) hm hb;exact zbv (N:=["_law_paper","_law_deep","_law_kind","_law_mark","_law_line","_law_rest"]) (k:=1 + n) F λ_ _=>
   (zag (s_if (DW.dt (w_or (zdE (zc7 (zcf (dv 0)))) (w_or (t_ne (zcX 0) zaj) (zdu (t_eq (dv 1) zaj))))) (zar (zaA zb8)) za0)
  (zag (zfg (.tp 4 (.cons (.nm 2) (.cons (.nm 3) (.cons (.nm 4) (.cons (.nm 5) .nil))))) (dv 0) (zbi (n:=4) rfl (zac (gn 2) (zac (gn 3) (zac (gn 4) (zac (gn 5) zax))))))
  (zag (s_if (DW.dt (w_or (zdE (zc7 (zcf (dv 2)))) (w_or (zdE (zc7 (zcf (dv 4)))) (zdu (zdE (zc7 (zcf (dv 5)))))))) (zar (zaA zb8)) za0)
  (zag (s_if (zdE (zc7 (zgL (zaa (DF.de (zaQ (Nc:=["_law_one"]) (.nm 0) (zbp (zcj (zcz (zaa (dv 3) zai)) (dv 4))) (gn 0) zaP (zhE (zcf (dv 0)) (ziq (zrc (zcf (dv 0))))))) zai)))) (zar (zaA zb8)) za0)
  (zag (s_if (zdE (zc7 (zgL (zaa (DF.de (zaQ (Nc:=["_law_pair"]) (.nm 0) (zbp (dv 5)) (gn 0) zaP (zhE (zcf (dv 0)) (ziq (d_eq (zcX 0) zaj))))) zai)))) (zar (zaA zb8)) za0)
  (zag (s_if (zdE (zc7 (zgL (zaa (DF.de (zaQ (Nc:=["_law_pair"]) (.nm 0) (zbp (dv 5)) (gn 0) zaP (zhE (zcf (zbm 0 zaj)) (ziq (zrc (zcf (zbm 0 zaj))))))) zai)))) (zar (zaA zb8)) za0)
  (zar (zaA (zgL (zaa (DF.de (zaQ (Nc:=["_law_pair","_law_deep"]) (.nm 0) (zbp (dv 5)) (gn 0) zaP (zao cSelf (zaa (zbm 0 zaj) (zaa (zhp (dv 1) zaj) zai))))) zai))))))))))
theorem zdY (F:Fun K "_law_sound" "_law_sound" ziO f fd) (hm:mg "_law_sound" = some (.ref f)) (hb:Binds K fd ["_law_size","_law_runs","_law_paper","_law_many","_law_struck","_law_wish"] []) (T:Bt mg) (c__law_walk:Cal P w K mg base "_law_walk" 1 ["_law_runs","_law_mark","_law_line"] (spD K 3 zb7)) (c__law_hands:Cal P w K mg base "_law_hands" 1 ["_law_runs"] (spD K 1 za3)):∀ n,FnOk P w K mg base CX0 (2 + n) f fd ["_law_size","_law_runs","_law_paper","_law_many","_law_struck","_law_wish"] (spD K 6 (zaG n))
 | 0=>⟨λvs H Q E ⟨β,G,ds,_,_,_,h,_⟩=>h,λA outer s H args us vs Q E _ _ _ _ ⟨β,G,ds,_,_,_,_,P,z,_⟩=>z.elim⟩
 | n + 1=>by
  have cSelf:Cal P w K mg base "_law_sound" (2 + n) ["_law_size","_law_runs","_law_paper","_law_many","_law_struck","_law_wish"] (spD K 6 (zaG n)):=Cal.of F (zdY F hm hb T c__law_walk c__law_hands n) hm hb;exact zbv (N:=["_law_size","_law_runs","_law_paper","_law_many","_law_struck","_law_wish","_law_kind","_law_mark","_law_line","_law_rest","_law_found","_law_hands_here"]) (k:=2 + n) F λ_ _=>
   (zag (zfg (.tp 4 (.cons (.nm 6) (.cons (.nm 7) (.cons (.nm 8) (.cons (.nm 9) .nil))))) (dv 2) (zbi (n:=4) rfl (zac (gn 6) (zac (gn 7) (zac (gn 8) (zac (gn 9) zax))))))
  (zag (s_if (DW.dt (w_or (zdE (zop zaj (dv 7) (dv 0))) (zdu (zht (dv 6) (zcz (zaa zcY (zaa zcY zai))))))) (zar (zaA zb8)) za0)
  (zag (za1 10 (zao c__law_walk (zaa (dv 1) (zaa (dv 7) (zaa (dv 8) zai)))))
  (zag (s_if (DW.dt (w_or (zkN (dv 10)) (zdu (zc7 (zqR (zaa (DF.de (zaQ (Nc:=["_law_at","_law_struck","_law_runs"]) (.nm 0) (zbp (dv 8)) (gn 0) zaP (d_in (d_ix (zbm 2 (dv 0)) zaj) (dv 1)))) zai)))))) (zar (zaA zb8)) za0)
  (zag (s_if (DW.dt (znS (t_eq (dv 6) zcY) (zle (DW.dt (w_or (t_eq (dv 8) (zcz zai)) (w_or (t_ne (zbm 10 zaj) (dv 7)) (zdu (t_eq (zbm 10 zaj) zaj)))))))) (zar (zaA zb8)) za0)
  (zag (s_if (DW.dt (znS (t_eq (dv 6) zcY) (znS (t_ne (dv 5) zcY) (zle (t_ne (zcj (zcz (zaa (dv 7) zai)) (dv 10)) (dv 5)))))) (zar (zaA zb8)) za0)
  (zag (za1 11 (zna (zao c__law_hands (zaa (DF.de (zaQ (Nc:=["_law_at","_law_runs"]) (.nm 0) (zbp (dv 8)) (gn 0) zaP (zbm 1 (dv 0)))) zai)) (zpY (zaa (d_gt (dv 3) zaj) zai))))
  (zag (s_if (t_ne (DF.de (zaQ (Nc:=["_law_pair"]) (.nm 0) (zbp (dv 9)) (gn 0) zaP (zbm 0 zaj))) (dv 11)) (zar (zaA zb8)) za0)
  (zar (zaA (zgL (zaa (DF.de (zaQ (Nc:=["_law_hand","_law_one","_law_size","_law_runs","_law_wish","_law_many","_law_struck"]) (.tp 2 (.cons (.nm 0) (.cons (.nm 1) .nil))) (zbp (dv 9)) (zbi (n:=2) rfl (zac (gn 0) (zac (gn 1) zax))) zaP (zao cSelf (zaa (dv 2) (zaa (dv 3) (zaa (dv 1) (zaa (zhp (dv 5) zaj) (zaa (zcj (dv 6) (DF.de (zb4 (zaa (dv 0) zai)))) (zaa (dv 4) zai))))))))) zai))))))))))))
theorem zgS (F:Fun K "_law_shows" "_law_shows" zil f fd) (T:Bt mg) (c__law_formed:Cal P w K mg base "_law_formed" (1 + 6) ["_law_paper","_law_deep"] (spD K 2 (zaV 6))) (c__law_sound:Cal P w K mg base "_law_sound" (2 + 6) ["_law_size","_law_runs","_law_paper","_law_many","_law_struck","_law_wish"] (spD K 6 (zaG 6))):FnOk P w K mg base CX0 9 f fd ["_law_size","_law_runs","_law_paper","_law_many","_law_wish"] (spD K 5 zbJ):=
 zbv (N:=["_law_size","_law_runs","_law_paper","_law_many","_law_wish"]) F λ_ _=>
 (zar (zaA (zhE (zao c__law_formed (zaa (dv 2) (zaa (zcj (dv 3) zaj) zai))) (ziq (zao c__law_sound (zaa (dv 0) (zaa (dv 1) (zaa (dv 2) (zaa (dv 3) (zaa (DF.de (zb4 zai)) (zaa (dv 4) zai)))))))))))
theorem zqH (F:Fun K "law" "law" sLaw f fd) (T:Bt mg) (cB:Cal P w K mg base "_law_box" 1 ["_law_script"] (Fen.zo2 K)) (c__law_world:Cal P w K mg base "_law_world" 4 ["_law_box_here","_law_most_marks","_law_most_hands","_law_most_runs"] (spD K 4 zbL)) (c__law_sets:Cal P w K mg base "_law_sets" 2 ["_law_size","_law_runs","_law_many"] (spD K 3 zca)) (c_none_paper:Cal P w K mg base "none_paper" 12 ["size","runs","many"] (spD K 3 zbs)) (c__law_same:Cal P w K mg base "_law_same" (1 + 13) ["_law_found","_law_due"] (spD K 2 (zbh 13))) (c_reading:Cal P w K mg base "reading" 4 ["size","runs","many"] (spD K 3 zb5)) (c__law_shows:Cal P w K mg base "_law_shows" 9 ["_law_size","_law_runs","_law_paper","_law_many","_law_wish"] (spD K 5 zbJ)) (c_shows_none:Cal P w K mg base "shows_none" 11 ["size","runs","paper","many"] (spD K 4 zbH)) (hw:lawW 8 zej):FnOk P w K mg base CX0 15 f fd ["_law_script"] (zk3 K):=by
 refine zqB (N:=["_law_size","_law_runs","_law_heights","_law_false","_law_many","_law_handed","_law_sets_here","_law_found"]) (k:=14) F rfl cB (λ_ _=>?_) hw;unfold zej;exact (zag (zfg (.tp 4 (.cons (.nm 2) (.cons (.nm 3) (.cons (.nm 4) (.cons (.nm 5) .nil))))) (zao c__law_world (zaa (dv 1) (zaa zaj (zaa zaj (zaa zaj zai))))) (zbi (n:=4) rfl (zac (gn 2) (zac (gn 3) (zac (gn 4) (zac (gn 5) zax))))))
  (zag (zen (.nm 6) (zdP zaj) (gn 6) (zag (za1 7 (DF.de (zqm (dv 3))))
  (zag (za1 8 (zao c__law_sets (zaa (dv 2) (zaa (dv 3) (zaa (dv 6) zai)))))
  (zag (za1 9 (zao c_none_paper (zaa (dv 2) (zaa (dv 7) (zaa (dv 6) zai)))))
  (zag (s_if (DW.dt (w_or (t_ne (zn1 (dv 9)) (d_ne (dv 8) (DF.de (zb4 zai)))) (zdu (t_ne (dv 7) (dv 3))))) (zar (zaA zb8)) za0)
  (zag (s_if (t_ne (zn1 (zao c_reading (zaa (dv 2) (zaa (dv 7) (zaa (dv 6) zai))))) (d_eq (dv 8) (DF.de (zb4 zai)))) (zar (zaA zb8)) za0)
  (zag (s_if (zkd (dv 9)) (zag (s_if (zdE (zc7 (zao c__law_shows (zaa (dv 2) (zaa (dv 3) (zaa (dv 9) (zaa (dv 6) (zaa zcY zai)))))))) (zar (zaA zb8)) za0)
  (zar (s_if (zdE (zc7 (zao c__law_same (zaa (zao c_shows_none (zaa (dv 2) (zaa (dv 7) (zaa (dv 9) (zaa (dv 6) zai))))) (zaa zb8 zai))))) (zar (zaA zb8)) za0))) za0)
  (zar (s_if (zdE (zc7 (zao c__law_same (zaa (zao c_none_paper (zaa (dv 2) (zaa (dv 7) (zaa (dv 6) zai)))) (zaa (dv 9) zai))))) (zar (zaA zb8)) za0)))))))))
  (zar (zaA zb8))))
end
end Fd
namespace Hd
open PySem L2 Fen PySem.W PySem.Calls PyProof.Rows
noncomputable section
noncomputable abbrev dE (P:Params) (k:Str) (n:Nat) (v:Value):DictEntry:=⟨PyData.keyHash P k,.str k n,v⟩
noncomputable def dN:Stmt->Str
 | .FunctionDef x ..=>x
 | _ => ""
noncomputable abbrev cO (s:Stmt) (a:Nat) (l:Int) (lt:Nat) (n:Int) (v:Addr) (g h:Value) (q:Addr) (d:Nat):Obj:=⟨.type "code",none,.fields #[.str (dN s) a,.str (dN s) (a+1),.str "/claim/cut.py" (a+2),.int l lt,.int n 0,.int 0 0,.int 0 0,.int 3 0,.ref v,.bool true,.int 181 0,.ref (v+1),.none,g,h,.ref q,.int (d-1) 0,.int l lt,.str "/claim/cut.py" d],#[]⟩
noncomputable abbrev cP (s:Stmt) (a:Nat) (l:Int) (lt:Nat) (n:Int) (v:Addr) (d:Nat):Obj:=cO s a l lt n v .none .none (v+2) d
noncomputable abbrev fD (x:Str) (s:Stmt) (m:Str) (t:Nat) (c:Addr):FuncData:=PySem.W.fnOf x x (zc8 s) (zbZ s) (zas s) .none .none .none (.str m t) none (.ref c) .none
noncomputable abbrev fO (s:Stmt) (m:Str) (t:Nat) (c:Addr):Obj:=⟨.type "function",none,.func (fD (dN s) s m t c),#[]⟩
noncomputable abbrev fI (s:Stmt):Obj:=⟨.none,none,.func ⟨dN s,dN s,zc8 s,.stmts (zbZ s),zas s,0,[],.none,.none,.none,.none,none,.none,.none,0⟩,#[]⟩
noncomputable abbrev cT:Obj:=⟨.type "tuple",none,.seq #[] 0,#[]⟩
noncomputable abbrev cF:Obj:=⟨.none,none,.fields #[],#[]⟩
noncomputable def tS:Nat->List Str->List Value
 | _,[]=>[]
 | n,x :: l=>.str x n :: tS (n + 1) l
noncomputable abbrev cN (n:Nat) (l:List Str):Obj:=⟨.type "tuple",none,.seq (tS n l).toArray 0,#[]⟩
noncomputable def cV:List (Int × Nat × Nat)->List Value
 | []=>[]
 | (l,t,c) :: r=>.int l t :: .int 0 0 :: .ref c :: cV r
noncomputable def bT (f:Nat->Obj) (n:Nat):Nat->Nat->Nat->BT
 | 0,_,_=>.nil
 | k + 1,a,b=>match Nat.blt b n with
  | true=>.node (f b) (bT f n k (Nat.mul 2 a) (Nat.add a b)) (bT f n k (Nat.mul 2 a) (Nat.add (Nat.mul 2 a) b))
  | false=>.nil
noncomputable abbrev u0:Str := "fenlevel.trees"
noncomputable abbrev u1:Str := "fenlevel.runs"
noncomputable abbrev u2:Str := "fenlevel.readings"
noncomputable abbrev u3:Str := "fenlevel.rings"
noncomputable abbrev u4:Str := "fenlevel.papers"
noncomputable abbrev u5:Str := "law_fenlevel_k13_whole_no_reading_or_a_paper"
noncomputable def c0 (P:Params) (d c:Obj):List Obj:=[PySem.W.boot_o_0 P,PySem.W.boot_o_1 P,PySem.W.boot_o_2 P,d,PySem.W.boot_o_4 P,PySem.W.boot_o_5 P,PySem.W.boot_o_6 P,PySem.W.boot_o_7 P,PySem.W.boot_o_8 P,PySem.W.boot_o_9 P,PySem.W.boot_o_10 P,cT,c,⟨.type "code",none,.fields #[.str "<module>" 182,.str "<module>" 183,.str "/claim/cut.py" 184,.int 1 0,.int 0 0,.int 0 0,.int 0 0,.int 0 0,.ref 11,.bool false,.int 181 0,.ref 12,.none,.none,.none,.none,.int 185 0,.int 1 0,.str "/claim/cut.py" 186],#[]⟩,⟨.type "frame",none,.plain,#[some (.ref 13),some (.ref 3),some (.ref 3),none,some (.str "__main__" 164),none,some (.ref 0)]⟩,cT,cF,fI zbB,cP zbB 189 2 0 3 15 193,fO zbB u0 187 18,cT,cF,cN 198 ["start","steps","tree","newest","fresh","mark","height","line","number","end","rise"],cT]
noncomputable def c1 (P:Params):List Obj:=[fI zcl,cO zcl 195 9 0 2 20 (.ref 22) (.ref 23) 24 210,fO zcl u0 187 25,cT,cF,cN 215 ["size","runs","struck","steps","trees","reached","mark","tree"],cT,fI zdh,cO zdh 212 22 0 3 27 (.ref 29) (.ref 30) 31 224,fO zdh u0 187 32,cT,cF,fI zed,cP zed 228 33 0 1 34 232,fO zed u1 226 37,cT,cF,fI zls,cP zls 234 35 0 2 39 238,fO zls u1 226 42,cT,cF,fI zea,cP zea 240 37 0 2 44 244]
noncomputable def c2 (P:Params):List Obj:=[fO zea u1 226 47,cT,cF,cN 249 ["size","runs","heights","tree","mark","height","line"],cT,fI zjt,cO zjt 246 39 0 2 49 (.ref 51) (.ref 52) 53 257,fO zjt u1 226 54,cT,cF,fI zd8,cP zd8 261 48 0 2 56 265,fO zd8 u2 259 59,cT,cF,cN 270 ["size","runs","many","hands","length","struck","heights"],cT,fI zdN,cO zdN 267 53 0 3 61 (.ref 63) (.ref 64) 65 278,fO zdN u2 259 66,cT,cF,cN 285 ["run","mark","one","other","rise","hand"],cT]
noncomputable def c3 (P:Params):List Obj:=[fI zmV,cO zmV 282 62 0 2 68 (.ref 70) (.ref 71) 72 292,fO zmV u3 280 73,cT,cF,cN 297 ["runs","mark","line","end","total","number","taken","rise"],cT,fI zfs,cO zfs 294 69 0 3 75 (.ref 77) (.ref 78) 79 306,fO zfs u3 280 80,cT,cF,fI zcy,cP zcy 308 83 0 2 82 312,fO zcy u3 280 85,cT,cF,cN 317 ["size","runs","struck","one","other","tree","height","line"],cT,fI zbU,cO zbU 314 85 0 5 87 (.ref 89) (.ref 90) 91 326,fO zbU u3 280 92,cT,cF]
noncomputable def c4 (P:Params):List Obj:=[cN 331 ["first","second","shared"],cT,fI zew,cO zew 328 91 0 2 94 (.ref 96) (.ref 97) 98 335,fO zew u3 280 99,cT,cF,cN 340 ["size","runs","struck","reached","tree","number","one","other","rise","hand","low","to_one","high","to_other"],cT,fI zb2,cO zb2 337 96 0 3 101 (.ref 103) (.ref 104) 105 355,fO zb2 u3 280 106,cT,cF,cN 362 ["kind","mark","end","rise"],cT,fI zcU,cO zcU 359 107 0 4 108 (.ref 110) (.ref 111) 112 367,fO zcU u4 357 113,cT,cF,fI zbe,cP zbe 369 111 0 5 115 373,fO zbe u4 357 118]
noncomputable def c5 (P:Params):List Obj:=[cT,cF,cN 378 ["size","runs","paper","many"],cT,fI zeh,cO zeh 375 124 0 4 120 (.ref 122) (.ref 123) 124 383,fO zeh u4 357 125,cT,cF,cN 388 ["paper","kind","mark","line","rest","found","hand","inner"],cT,fI zbM,cO zbM 385 126 0 1 127 (.ref 129) (.ref 130) 131 397,fO zbM u4 357 132,cT,cF,fI zcn,cP zcn 399 132 0 4 134 403,fO zcn u4 357 137,cT,cF,fI zbw,cP zbw 405 136 0 5 139 409,fO zbw u4 357 142]
noncomputable def c6 (P:Params):List Obj:=[cT,cF,cN 414 ["size","runs","many","one","other"],cT,fI zcq,cO zcq 411 147 0 5 144 (.ref 146) (.ref 147) 148 420,fO zcq u4 357 149,cT,cF,cN 425 ["size","runs","many"],cT,fI zcp,cO zcp 422 149 0 3 151 (.ref 153) (.ref 154) 155 429,fO zcp u4 357 156,cT,cF,cN 436 ["_law_script"],cT,fI sBox,cO sBox 433 154 0 1 158 (.ref 160) (.ref 161) 162 438,fO sBox u5 431 163,cT,cF,cN 443 ["_law_box_here","_law_many","_law_rest","_law_cell","_law_seed"]]
noncomputable def c7 (P:Params):List Obj:=[cT,fI zju,cO zju 440 156 0 2 165 (.ref 167) (.ref 168) 169 449,fO zju u5 431 170,cT,cF,cN 454 ["_law_box_here","_law_ways","_law_found","_law_k"],cT,fI zh1,cO zh1 451 172 0 1 172 (.ref 174) (.ref 175) 176 459,fO zh1 u5 431 177,cT,cF,fI zmY,cP zmY 461 182 0 2 179 465,fO zmY u5 431 182,cT,cF,cN 470 ["_law_box_here","_law_rise"],cT,fI ziK,cO ziK 467 192 0 2 184 (.ref 186) (.ref 187) 188 473,fO ziK u5 431 189,cT]
noncomputable def c8 (P:Params):List Obj:=[cF,fI zir,cP zir 475 194 0 4 191 479,fO zir u5 431 194,cT,cF,fI zlG,cP zlG 481 212 0 2 196 485,fO zlG u5 431 199,cT,cF,cN 490 ["_law_size","_law_runs","_law_labels","_law_heights","_law_one","_law_other","_law_rise","_law_hand","_law_by","_law_home","_law_at"],cT,fI zef,cO zef 487 214 0 2 201 (.ref 203) (.ref 204) 205 502,fO zef u5 431 206,cT,cF,fI zhF,cP zhF 504 229 0 1 208 508,fO zhF u5 431 211,cT,cF,fI zh6]
noncomputable def c9 (P:Params):List Obj:=[cP zh6 510 231 0 2 213 514,fO zh6 u5 431 216,cT,cF,cN 519 ["_law_size","_law_runs","_law_many","_law_found","_law_some","_law_here"],cT,fI zl2,cO zl2 516 236 0 3 218 (.ref 220) (.ref 221) 222 526,fO zl2 u5 431 223,cT,cF,cN 531 ["_law_runs","_law_mark","_law_line","_law_here","_law_height","_law_at","_law_one","_law_other","_law_rise","_law_hand"],cT,fI zmy,cO zmy 528 243 0 3 225 (.ref 227) (.ref 228) 229 542,fO zmy u5 431 230,cT,cF,fI zfl,cP zfl 544 257 0 2 232 548,fO zfl u5 431 235,cT,cF,fI ziO]
noncomputable def c10 (P:Params):List Obj:=[cP ziO 550 270 0 6 237 554,fO ziO u5 431 240,cT,cF,cN 559 ["_law_size","_law_runs","_law_paper","_law_many","_law_wish"],cT,fI zil,cO zil 556 285 0 5 242 (.ref 244) (.ref 245) 246 565,fO zil u5 431 247,cT,cF,cN 570 ["_law_script","_law_box_here","_law_size","_law_runs","_law_heights","_law_false","_law_many","_law_handed","_law_sets_here","_law_found"],cT,fI sLaw,cO sLaw 567 287 0 1 249 (.ref 251) (.ref 252) 253 581,fO sLaw u5 431 254]
noncomputable def oB (P:Params) (d c:Obj):List Obj:=c0 P d c ++ (c1 P ++ (c2 P ++ (c3 P ++ (c4 P ++ (c5 P ++ (c6 P ++ (c7 P ++ (c8 P ++ (c9 P ++ (c10 P))))))))))
noncomputable def e3 (P:Params):List DictEntry:=[dE P "__doc__" 166 (.none),dE P "__package__" 167 (.none),dE P "__loader__" 168 (.builtin "__main__.__loader__#opaque"),dE P "__spec__" 169 (.none),dE P "__annotations__" 170 (.ref 6),dE P "__builtins__" 171 (.ref 4),dE P "__file__" 173 (.str "/claim/cut.py" 172),dE P "__cached__" 174 (.none),dE P "steps_from" 194 (.ref 19),dE P "tree_from" 211 (.ref 26),dE P "trees_of" 225 (.ref 33),dE P "hands_of" 233 (.ref 38),dE P "left" 239 (.ref 43),dE P "holds" 245 (.ref 48),dE P "flat" 258 (.ref 55),dE P "lists_of" 266 (.ref 60),dE P "reading" 279 (.ref 67),dE P "step" 293 (.ref 74),dE P "walked" 307 (.ref 81),dE P "line_hands" 313 (.ref 86),dE P "some_line" 327 (.ref 93),dE P "across" 336 (.ref 100),dE P "open_ring" 356 (.ref 107),dE P "fits_kind" 368 (.ref 114),dE P "is_paper_without" 374 (.ref 119),dE P "is_paper" 384 (.ref 126),dE P "lines_within" 398 (.ref 133),dE P "shows_none" 404 (.ref 138),dE P "paper_without" 410 (.ref 143),dE P "some_paper" 421 (.ref 150),dE P "none_paper" 430 (.ref 157),dE P "_law_box" 439 (.ref 164),dE P "_law_take" 450 (.ref 171),dE P "_law_great" 460 (.ref 178),dE P "_law_same" 466 (.ref 183),dE P "_law_other_rise" 474 (.ref 190),dE P "_law_world" 480 (.ref 195),dE P "_law_left" 486 (.ref 200),dE P "_law_settled" 503 (.ref 207),dE P "_law_hands" 509 (.ref 212),dE P "_law_lists" 515 (.ref 217),dE P "_law_sets" 527 (.ref 224),dE P "_law_walk" 543 (.ref 231),dE P "_law_formed" 549 (.ref 236),dE P "_law_sound" 555 (.ref 241),dE P "_law_shows" 566 (.ref 248),dE P "law" 582 (.ref 255)]
noncomputable def d3 (P:Params) (x:Str) (t k:Nat):Obj:=⟨.type "dict",none,.dict (dE P "__name__" 165 (.str x t) :: (e3 P).take k).toArray (k + 1),#[]⟩
noncomputable def v4:List Value:=cV [(2,0,18),(9,0,25),(22,0,32),(33,0,37),(35,0,42),(37,0,47),(39,0,54),(48,0,59),(53,0,66),(62,0,73),(69,0,80),(83,0,85),(85,0,92),(91,0,99),(96,0,106),(107,0,113),(111,0,118),(124,0,125),(126,0,132),(132,0,137),(136,0,142),(147,0,149),(149,0,156),(154,0,163),(156,0,170),(172,0,177),(182,0,182),(192,0,189),(194,0,194),(212,0,199),(214,0,206),(229,0,211),(231,0,216),(236,0,223),(243,0,230),(257,0,235),(270,0,240),(285,0,247),(287,0,254)]
noncomputable def d4 (k:Nat):Obj:=⟨.none,none,.fields (v4.take k).toArray,#[]⟩
noncomputable def bE:List Stmt:=PySem.W.behindTheImports PySem.Challenge.pw_fenlevel_k13_whole_no_reading_or_a_paper
noncomputable def eN:PySem.Env:={ scope:=(PySem.Challenge.pw_fenlevel_k13_whole_no_reading_or_a_paper).main.scope,locals:=mainNs,globals:=mainNs,cells:=[],code:=.ref 13,frame:=some 14 }
noncomputable def cB:Code:=.body bE eN
noncomputable def fB:List Frame:=[topFrame ⟨0,0,0,0⟩]
noncomputable def sA (w:PySem.World) (os:OsState):Shared:=⟨⟨⟨(oB w.params (d3 w.params "__main__" 164 8) (d4 0)).take 15⟩,{}⟩,#[],{},187,os⟩
noncomputable def sB0 (w:PySem.World) (os:OsState):SharedT:=⟨bT (λi=>(oB w.params (d3 w.params "__main__" 164 8) (d4 0)).getD i cT) 15 12 1 0,15,{},#[],{},187,os⟩
noncomputable def sB1 (w:PySem.World) (os:OsState):SharedT:=⟨bT (λi=>(oB w.params (d3 w.params "fenlevel.rings" 280 19) (d4 33)).getD i cT) 82 12 1 0,82,{},#[],{},308,os⟩
noncomputable def sB2 (w:PySem.World) (os:OsState):SharedT:=⟨bT (λi=>(oB w.params (d3 w.params "law_fenlevel_k13_whole_no_reading_or_a_paper" 431 31) (d4 69)).getD i cT) 158 12 1 0,158,{},#[],{},433,os⟩
noncomputable def sB3 (w:PySem.World) (os:OsState):SharedT:=⟨bT (λi=>(oB w.params (d3 w.params "law_fenlevel_k13_whole_no_reading_or_a_paper" 431 44) (d4 108)).getD i cT) 237 12 1 0,237,{},#[],{},550,os⟩
noncomputable def sB4 (w:PySem.World) (os:OsState):SharedT:=⟨bT (λi=>(oB w.params (d3 w.params "law_fenlevel_k13_whole_no_reading_or_a_paper" 431 47) (d4 117)).getD i cT) 256 12 1 0,256,{},#[],{},583,os⟩
noncomputable def hE (P:Params):Heap:=⟨⟨oB P (d3 P "law_fenlevel_k13_whole_no_reading_or_a_paper" 431 47) (d4 117)⟩,{}⟩
noncomputable def St0:Prop:=∀ (w:PySem.World) (os:OsState),topGo treeTable PySem.Challenge.pw_fenlevel_k13_whole_no_reading_or_a_paper w 11 (some (.ref 6)) 12 ⟨PySem.W.boot_heap w.params,Array.mk [],PySem.W.boot_drawn,PySem.W.boot_toks,os⟩ (topStub PySem.Challenge.pw_fenlevel_k13_whole_no_reading_or_a_paper) = some (sA w os,⟨denote treeTable cB,cB,⟨0,0,0,0⟩,fB⟩)
noncomputable def St1:Prop:=∀ (w:PySem.World) (os:OsState),segRun treeTable PySem.Challenge.pw_fenlevel_k13_whole_no_reading_or_a_paper w 11 (some (.ref 6)) 1 1 (sA w os) (blockOf bE eN cB ⟨0,0,0,0⟩ fB) = some (.next,(sB0 w os).abs,cB,⟨0,0,0,0⟩)
noncomputable def St2:Prop:=∀ (w:PySem.World) (os:OsState),segRunT treeTable PySem.Challenge.pw_fenlevel_k13_whole_no_reading_or_a_paper w 11 (some (.ref 6)) 1 382 (sB0 w os) (piecesOf ((bE.drop 0).take 15) eN cB ⟨0,0,0,0⟩ fB) = some (.next,sB1 w os,cB,⟨69,0,82,23⟩)
noncomputable def St3:Prop:=∀ (w:PySem.World) (os:OsState),segRunT treeTable PySem.Challenge.pw_fenlevel_k13_whole_no_reading_or_a_paper w 11 (some (.ref 6)) 1 396 (sB1 w os) (piecesOf ((bE.drop 15).take 14) eN cB ⟨69,0,82,23⟩ fB) = some (.next,sB2 w os,cB,⟨153,0,153,8⟩)
noncomputable def St4:Prop:=∀ (w:PySem.World) (os:OsState),segRunT treeTable PySem.Challenge.pw_fenlevel_k13_whole_no_reading_or_a_paper w 11 (some (.ref 6)) 1 392 (sB2 w os) (piecesOf ((bE.drop 29).take 13) eN cB ⟨153,0,153,8⟩ fB) = some (.next,sB3 w os,cB,⟨257,0,269,85⟩)
noncomputable def St5:Prop:=∀ (w:PySem.World) (os:OsState),segRunT treeTable PySem.Challenge.pw_fenlevel_k13_whole_no_reading_or_a_paper w 11 (some (.ref 6)) 1 98 (sB3 w os) (piecesOf ((bE.drop 42).take 3) eN cB ⟨257,0,269,85⟩ fB) = some (.next,sB4 w os,cB,⟨287,0,305,15⟩)
noncomputable def St6:Prop:=∀ (w:PySem.World) (os:OsState),topRun treeTable PySem.Challenge.pw_fenlevel_k13_whole_no_reading_or_a_paper w 11 (some (.ref 6)) 2 (sB4 w os).abs ⟨doneF .next,cB,⟨287,0,305,15⟩,fB⟩ = some ⟨hE w.params,#[],{},583,os⟩
noncomputable def vw:Program:={ PySem.Challenge.pw_fenlevel_k13_whole_no_reading_or_a_paper with main:={ (PySem.Challenge.pw_fenlevel_k13_whole_no_reading_or_a_paper).main with body:=[top 1,top 2,top 3,top 5,top 6,top 7,top 8,top 10,top 11,top 13,top 14,top 15,top 16,top 17,top 18,top 20,top 21,top 22,top 23,top 24,top 25,top 26,top 27,top 29,top 30,top 31,top 32,top 33,top 34,top 35,top 36,top 37,top 38,top 39,top 40,top 41,top 42,top 43,top 44] } }
noncomputable def hA:List Addr:=[3,18,19,25,26,32,33,37,38,42,43,47,48,54,55,59,60,66,67,73,74,80,81,85,86,92,93,99,100,106,107,113,114,118,119,125,126,132,133,137,138,142,143,149,150,156,157,163,164,170,171,177,178,182,183,189,190,194,195,199,200,206,207,211,212,216,217,223,224,230,231,235,236,240,241,247,248,254,255]
noncomputable def hK (P:Params):List (Nat × Obj):=hA.map λa=>(a,(oB P (d3 P "law_fenlevel_k13_whole_no_reading_or_a_paper" 431 47) (d4 117)).getD a cT)
noncomputable def hH:PySem.W.Hook:=kHook hK hA (λ_=>by kernel_rfl)
noncomputable def xT (s:Shared):Bool:=xlAt vw [] s && recOk (RowW.records (PySem.Challenge.rw_fenlevel_k13_whole_no_reading_or_a_paper).row.toRowW) s
noncomputable def StZ:Prop:=∀ w:PySem.World,((PySem.W.boot_heap w.params).isNs mainGlobals && (Array.mk []:Array GenState).size == 0,(PySem.W.boot_heap w.params).objs.size,(PySem.W.boot_heap w.params).nsMap mainGlobals "__annotations__") = (true,11,some (.ref 6))
noncomputable def StA:Prop:=∀ (w:PySem.World) (os:OsState),(staticsOk (importedModules (PySem.Challenge.pw_fenlevel_k13_whole_no_reading_or_a_paper).main.body) (PySem.W.boot_heap w.params) (hE w.params) && namesBound PySem.Challenge.pw_fenlevel_k13_whole_no_reading_or_a_paper (hE w.params) && gensDone ⟨hE w.params,#[],{},583,os⟩ && laidKept (PySem.W.boot_heap w.params) (hE w.params)) = true
noncomputable def StB:Prop:=∀ (w:PySem.World) (os:OsState),openSeen vw [] (importedModules (PySem.Challenge.pw_fenlevel_k13_whole_no_reading_or_a_paper).main.body) xT true ⟨hE w.params,#[],{},583,os⟩ = openGood vw []
noncomputable def StC:Prop:=∀ (w:PySem.World) (os:OsState),hH.obs ⟨hE w.params,#[],{},583,os⟩ = hH.val w
theorem pr0:(Function.const Prop true (St0/\St1/\St2/\St3/\St4/\St5/\St6/\StZ/\StA/\StB/\StC)) = true:=by k_qdec
theorem th0:St0:=PySem.W.Fast.te937873346748051313.mpr (λ_ _=>by kernel_rfl)
theorem th1:St1:=PySem.W.Fast.te13982121027552719780.mpr (λ_ _=>by kernel_rfl)
theorem th2:St2:=PySem.W.Fast.te10105581574835445100.mpr (λ_ _=>by kernel_rfl)
theorem th3:St3:=PySem.W.Fast.te16437609458486848278.mpr (λ_ _=>by kernel_rfl)
theorem th4:St4:=PySem.W.Fast.te13904560402631476566.mpr (λ_ _=>by kernel_rfl)
theorem th5:St5:=PySem.W.Fast.te6988618110474044161.mpr (λ_ _=>by kernel_rfl)
theorem th6:St6:=PySem.W.Fast.te18292254230441717836.mpr (λ_ _=>by kernel_rfl)
theorem thZ:StZ:=PySem.W.Fast.te16988565736444548789.mpr (λ_=>by kernel_rfl)
theorem thA:StA:=PySem.W.Fast.te17744963595637626835.mpr (λ_ _=>by kernel_rfl)
theorem thB:StB:=PySem.W.Fast.te8016293489012441566.mpr (λ_ _=>by kernel_rfl)
theorem thC:StC:=PySem.W.Fast.te1647357278597937641.mpr (λ_ _=>by kernel_rfl)
theorem gr {tb:String->Option Builtin} {p:Program} {w:PySem.World} {n₀:Nat} {ann:Option Value} {env:PySem.Env} {q:Pos} {n N:Nat} {s s' r:Shared} {c:Code} {pos p':Pos} (l:List Stmt) (a k:Nat) (h:segRun tb p w n₀ ann 1 n s (piecesOf ((l.drop a).take k) env c pos [topFrame q]) = some (.next,s',c,p'))
  (z:topRun tb p w n₀ ann N s' (restOf (l.drop (a + k)) env c p' [topFrame q]) = some r):topRun tb p w n₀ ann (n + N) s (restOf (l.drop a) env c pos [topFrame q]) = some r:=by
 have:=piece_app (rest:=(l.drop a).drop k) h (by rw [List.drop_drop];exact z)
 rwa [List.take_append_drop] at this
theorem zpP:bE.drop 45 = []:=by kernel_rfl
theorem zpz:∀ (w:PySem.World) (os:OsState),topRun treeTable PySem.Challenge.pw_fenlevel_k13_whole_no_reading_or_a_paper w 11 (some (.ref 6)) (12 + (1 + (382 + (396 + (392 + (98 + 2)))))) ⟨PySem.W.boot_heap w.params,Array.mk [],PySem.W.boot_drawn,PySem.W.boot_toks,os⟩ (topStub PySem.Challenge.pw_fenlevel_k13_whole_no_reading_or_a_paper) = some ⟨hE w.params,#[],{},583,os⟩:=λw os=>
 go_top (th0 w os) (piece_block (th1 w os) (gr bE 0 15 (segRun_of (th2 w os)) (gr bE 15 14 (segRun_of (th3 w os)) (gr bE 29 13 (segRun_of (th4 w os)) (gr bE 42 3 (segRun_of (th5 w os)) (by rw [zpP];exact piece_nil (th6 w os)))))))
theorem left_o:LeftO PySem.Challenge.pw_fenlevel_k13_whole_no_reading_or_a_paper vw [] xT hH.obs hH.val 2654:=
 LeftO.of_pieces (boot_open (by kernel_rfl) (by kernel_rfl) (λ_=>by kernel_rfl)) thZ zpz (by kernel_rfl) λw=>funext λos=>looks_pair (thA w os) (looks_pair (thB w os) (thC w os))
end
end Hd
namespace Fd
open PySem L2 Fen Hd
theorem us0 {p:List Value->Prop} (k:p []):∀ us:List Value,us.length = 0->p us
 | [],_=>k
theorem usS {p:List Value->Prop} {n:Nat} (k:∀ (a:Value) (us:List Value),us.length = n->p (a :: us)):∀ us:List Value,us.length = n + 1->p us
 | a :: us,h=>k a us (Nat.succ.inj h)
noncomputable def fdOf (P:Params) (f:Addr):FuncData:=match List.lookup f (hK P) with
 | some ⟨_,_,.func d,_⟩=>d
 | _=>fD "" (.Pass ⟨0,0,0,0⟩) "" 0 0
noncomputable def fcOf (P:Params) (f:Addr):Addr:=match (fdOf P f).code with
 | .ref c=>c
 | _=>0
noncomputable def fmOf (P:Params) (f:Addr):Value:=(fdOf P f).pyModule
noncomputable abbrev fE (P:Params) (x:Str) (s:Stmt) (f:Addr):FuncData:=PySem.W.fnOf x x (zc8 s) (zbZ s) (zas s) .none .none .none (fmOf P f) none (.ref (fcOf P f)) .none
theorem fF {P:Params} (x:Str) (s:Stmt) (f:Addr) (l:List.lookup f (hK P) = some ⟨.type "function",none,.func (fE P x s f),#[]⟩:=by kernel_rfl) (y:PySem.W.codeIn (hK P) (.ref (fcOf P f)) x = true:=by kernel_rfl):Fun (hK P) x x s f (fE P x s f):=zqA l y (by simp only [PySem.W.keepIn,l])
theorem mkC {P:Program} {w:PySem.World} {base h:Heap} {mg:Str->Option Value} (X:PySem.W.Frag.In (hK w.params) h) (G:h.Ns mainGlobals mg) {k:Nat} {ps:List Str} {sp:Sp} (x:Str) (s:Stmt) (f:Addr) (ok:∀ {fd:FuncData},Fun (hK w.params) x x s f fd->FnOk P w (hK w.params) mg base CX0 k f fd ps sp)
  (F:Fun (hK w.params) x x s f (fE w.params x s f):=by exact fF _ _ _) (m:PySem.W.nsIn (hK w.params) mainGlobals x = some (some (.ref f)):=by kernel_rfl)
  (b:∀ (kV doc pm:Value) (an:Option Addr) (cdv ct:Value) (us:List Value),us.length = ps.length->bindArgs (PySem.W.fnOf x x (zc8 s) (zbZ s) (zas s) .none kV doc pm an cdv ct) ⟨us,[]⟩ = pure (ps.zip us):=by (intro _ _ _ _ _ _;repeat (first | exact us0 rfl | refine usS λ_=>?_))):Cal P w (hK w.params) mg base x k ps sp:=
 Cal.of F (ok F) (YBo X G m) (F.binds b)
theorem all_mk {l:PySem.W.OpenLaw} {w:PySem.World} {h:Heap} {mg:Str->Option Value} {fa:Addr} (X:PySem.W.Frag.In (hK w.params) h) (G:h.Ns mainGlobals mg) (hfa:mg "law" = some (.ref fa)) :
  ∃ fd:FuncData,(∀ (s:Shared) (v:Value),BindsTo s fd ⟨[v],[]⟩ [("_law_script",v)])/\∀ base:Heap,PySem.W.Frag.In (hK w.params) base->base.Ns mainGlobals mg->FnOk l.prog w (hK w.params) mg base CX0 15 fa fd ["_law_script"] (zk3 (hK w.params)):=by
 have e:=hfa.symm.trans (YBo X G (v:=.ref 255) (by kernel_rfl));cases e;have Z:∀ {x:Str},PySem.W.nsIn (hK w.params) mainGlobals x = some none->mg x = none:=PySem.W.mg_none_of X G;have T:Bt mg:=⟨Z (by kernel_rfl),Z (by kernel_rfl),Z (by kernel_rfl),Z (by kernel_rfl),Z (by kernel_rfl),Z (by kernel_rfl),Z (by kernel_rfl),Z (by kernel_rfl),Z (by kernel_rfl),Z (by kernel_rfl),Z (by kernel_rfl),Z (by kernel_rfl),Z (by kernel_rfl),Z (by kernel_rfl),Z (by kernel_rfl),Z (by kernel_rfl)⟩;have F:=fF (P:=w.params) "law" sLaw 255;refine ⟨fE w.params "law" sLaw 255,λs v=>.of_eq rfl,λbase _ _=>?_⟩;have M:=@mkC l.prog w base h mg X G;have F0:=fF (P:=w.params) "steps_from" zbB 19;have b0:=F0.binds (ps:=["size","runs","struck"]) λ_ _ _ _ _ _=>usS λ_=>usS λ_=>usS λ_=>us0 rfl;have m0:mg "steps_from" = _:=YBo X G (v:=.ref 19) (by kernel_rfl);have h_steps:=Fen.Cal.of F0 (Fen.znn (P:=l.prog) (w:=w) (base:=base) F0 ⟨T.list,T.len,T.range⟩ T.enumerate) m0 b0;have F1:=fF (P:=w.params) "tree_from" zcl 26;have b1:=F1.binds (ps:=["start","steps"]) λ_ _ _ _ _ _=>usS λ_=>usS λ_=>us0 rfl;have m1:mg "tree_from" = _:=YBo X G (v:=.ref 26) (by kernel_rfl);have h_tree:=Fen.Cal.of F1 (Fen.zpq (P:=l.prog) (w:=w) (base:=base) F1 ) m1 b1;have F2:=fF (P:=w.params) "trees_of" zdh 33;have b2:=F2.binds (ps:=["size","runs","struck"]) λ_ _ _ _ _ _=>usS λ_=>usS λ_=>usS λ_=>us0 rfl;have m2:mg "trees_of" = _:=YBo X G (v:=.ref 33) (by kernel_rfl);have h_trees:=Fen.Cal.of F2 (Fen.znf (P:=l.prog) (w:=w) (base:=base) F2 ⟨T.list,T.len,T.range⟩ h_steps h_tree) m2 b2;have c_hands_of:=M "hands_of" zed 38 λF=>zjs F T;have c_left:=M "left" zls 43 λF=>zoW F T;have c_holds:=M "holds" zea 48 λF=>zhi F T;have F5:=fF (P:=w.params) "holds" zea 48;have b5:=F5.binds (ps:=["runs","heights"]) λ_ _ _ _ _ _=>usS λ_=>usS λ_=>us0 rfl;have m5:mg "holds" = _:=YBo X G (v:=.ref 48) (by kernel_rfl);have h_holds:=Fen.Cal.of F5 (Fen.zhi (P:=l.prog) (w:=w) (base:=base) F5 ⟨T.all,T.isinstance,T.tuple,T.bool,T.int,T.str,T.sorted,T.set⟩) m5 b5;have c_flat:=M "flat" zjt 55 λF=>zjl F h_trees h_holds;have c_lists_of:=M "lists_of" zd8 60 λF=>zi4 F T;have c_reading:=M "reading" zdN 67 λF=>zkx F T c_hands_of c_lists_of c_flat c_left;have c_step:=M "step" zmV 74 λF=>zpg F T;have c_walked:=M "walked" zfs 81 λF=>zln F T c_step;have c_line_hands:=M "line_hands" zcy 86 λF=>zhd F T c_hands_of;have c_some_line:=M "some_line" zbU 93 λF=>zc4 F h_steps h_tree;have F13:=fF (P:=w.params) "across" zew 100;have b13:=F13.binds (ps:=["first","second"]) λ_ _ _ _ _ _=>usS λ_=>usS λ_=>us0 rfl;have m13:mg "across" = _:=YBo X G (v:=.ref 100) (by kernel_rfl);have h_across:=Fen.Cal.of F13 (Fen.zmF (P:=l.prog) (w:=w) (base:=base) F13 ⟨T.list,T.len,T.range⟩ T.min) m13 b13;have c_open_ring:=M "open_ring" zb2 107 λF=>ziv F T.enumerate h_trees h_across;have c_fits_kind:=M "fits_kind" zcU 114 λF=>ziM F T;have F16:=fF (P:=w.params) "is_paper_without" zbe 119;have b16:=F16.binds (ps:=["size","runs","paper","many","struck"]) λ_ _ _ _ _ _=>usS λ_=>usS λ_=>usS λ_=>usS λ_=>usS λ_=>us0 rfl;have m16:mg "is_paper_without" = _:=YBo X G (v:=.ref 119) (by kernel_rfl);have r_is_paper_without:=zb9 (P:=l.prog) (w:=w) (base:=base) F16 m16 b16 T c_walked c_line_hands c_fits_kind;have c_is_paper:=M "is_paper" zeh 126 λF=>ziW F T (Cal.of F16 (r_is_paper_without 6) m16 b16);have F18:=fF (P:=w.params) "lines_within" zbM 133;have b18:=F18.binds (ps:=["paper"]) λ_ _ _ _ _ _=>usS λ_=>us0 rfl;have m18:mg "lines_within" = _:=YBo X G (v:=.ref 133) (by kernel_rfl);have r_lines_within:=zc6 (P:=l.prog) (w:=w) (base:=base) F18 m18 b18 T;have c_shows_none:=M "shows_none" zcn 138 λF=>zg3 F T c_is_paper (Cal.of F18 (r_lines_within 6) m18 b18);have F20:=fF (P:=w.params) "paper_without" zbw 143;have b20:=F20.binds (ps:=["size","runs","many","struck","ends"]) λ_ _ _ _ _ _=>usS λ_=>usS λ_=>usS λ_=>usS λ_=>usS λ_=>us0 rfl;have m20:mg "paper_without" = _:=YBo X G (v:=.ref 143) (by kernel_rfl);have r_paper_without:=zcP (P:=l.prog) (w:=w) (base:=base) F20 m20 b20 T c_open_ring c_line_hands c_some_line;have c_some_paper:=M "some_paper" zcq 150 λF=>zhg F T (Cal.of F20 (r_paper_without 6) m20 b20);have c_none_paper:=M "none_paper" zcp 157 λF=>zgT F T c_some_paper c_reading;have cB:=M "_law_box" sBox 164 λF=>Fen.zqK F ⟨T.list,T.len,T.range⟩;have c__law_take:=M "_law_take" zju 171 λF=>zi5 F T;have c__law_great:=M "_law_great" zh1 178 λF=>zhf F T c__law_take;have F26:=fF (P:=w.params) "_law_same" zmY 183;have b26:=F26.binds (ps:=["_law_found","_law_due"]) λ_ _ _ _ _ _=>usS λ_=>usS λ_=>us0 rfl;have m26:mg "_law_same" = _:=YBo X G (v:=.ref 183) (by kernel_rfl);have r__law_same:=zeJ (P:=l.prog) (w:=w) (base:=base) F26 m26 b26 T;have c__law_other_rise:=M "_law_other_rise" ziK 190 λF=>zdT F T c__law_take c__law_great;have c__law_world:=M "_law_world" zir 195 λF=>zgQ F T c__law_take c__law_other_rise;have c__law_left:=M "_law_left" zlG 200 λF=>zh5 F T;have c__law_settled:=M "_law_settled" zef 207 λF=>zfq F T;have c__law_hands:=M "_law_hands" zhF 212 λF=>zg6 F T;have c__law_lists:=M "_law_lists" zh6 217 λF=>zhv F T;have c__law_sets:=M "_law_sets" zl2 224 λF=>ziL F T c__law_lists c__law_hands c__law_settled c__law_left;have c__law_walk:=M "_law_walk" zmy 231 λF=>ziF F T;have F35:=fF (P:=w.params) "_law_formed" zfl 236;have b35:=F35.binds (ps:=["_law_paper","_law_deep"]) λ_ _ _ _ _ _=>usS λ_=>usS λ_=>us0 rfl;have m35:mg "_law_formed" = _:=YBo X G (v:=.ref 236) (by kernel_rfl);have r__law_formed:=zdo (P:=l.prog) (w:=w) (base:=base) F35 m35 b35 T;have F36:=fF (P:=w.params) "_law_sound" ziO 241;have b36:=F36.binds (ps:=["_law_size","_law_runs","_law_paper","_law_many","_law_struck","_law_wish"]) λ_ _ _ _ _ _=>usS λ_=>usS λ_=>usS λ_=>usS λ_=>usS λ_=>usS λ_=>us0 rfl;have m36:mg "_law_sound" = _:=YBo X G (v:=.ref 241) (by kernel_rfl);have r__law_sound:=zdY (P:=l.prog) (w:=w) (base:=base) F36 m36 b36 T c__law_walk c__law_hands;have c__law_shows:=M "_law_shows" zil 248 λF=>zgS F T (Cal.of F35 (r__law_formed 6) m35 b35) (Cal.of F36 (r__law_sound 6) m36 b36);exact zqH F T cB c__law_world c__law_sets c_none_paper (Cal.of F26 (r__law_same 13) m26 b26) c_reading c__law_shows c_shows_none zo5
theorem walk {l:PySem.W.OpenLaw} {q:Program} {loose:List Str} {XP:(Str->Option Value)->Heap->Prop} {YP:PySem.World->Heap->Prop} {d:DefRec} {K:Params->PySem.W.Frag} (hn:l.most = some 63) (hdf:d.params.defaults = [])
  (hY:∀ (w:PySem.World) (h:Heap),YP w h->(K w.params).In h)
  (F:∀ (w:PySem.World) (mg:Str->Option Value) (fa:Addr) (h:Heap),(K w.params).In h->h.Ns mainGlobals mg->mg d.name = some (.ref fa) ->
   ∃ fd:FuncData,(∀ (s:Shared) (u:Value),BindsTo s fd ⟨[u],[]⟩ [("_law_script",u)])/\∀ base:Heap,(K w.params).In base->base.Ns mainGlobals mg->FnOk l.prog w (K w.params) mg base CX0 15 fa fd ["_law_script"] (zk3 (K w.params))) :
  PySem.W.WalkO q loose XP YP l.row.toRowW d [] (λf vs=>PySem.call f vs):=
 L2.zpA (n:=63) (k:=15) (x := "_law_script") (CX:=λ_=>CX0) (sp:=λw=>zk3 (K w.params)) hn (by decide) hdf ⟨rfl,by decide,by decide⟩ hY F (λ_ _ a ns hl _ hS=>⟨a,ns,rfl,hS,hl,λ_=>rfl⟩) λ_ _ _ _ _ z=>z
end Fd
open PySem PySem.W PyProof.Rows
set_option maxRecDepth 100000 in
set_option maxHeartbeats 0 in
theorem PySem.Challenge.cw_fenlevel_k13_whole_no_reading_or_a_paper_holds : PySem.Challenge.rw_fenlevel_k13_whole_no_reading_or_a_paper.Holds := by
 w_on;o_law
 refine holds_open (q:=Hd.vw) (loose:=[]) (Xt:=Hd.xT) (XP:=XL Hd.vw []) (Yf:=Hd.hH.obs) (Ya:=Hd.hH.val) (YP:=Hd.hH.says) (N:=2654) Hd.left_o Hd.hH.of Hd.hH.keeps (λs e=>xl_of s (Bool.and_eq_true_iff.mp e).1) XL.keeps (by rfl) (by rfl) (by rfl) (λs e=>recFacts_of (Bool.and_eq_true_iff.mp e).2) (by rfl) (by first | assumption | decide +kernel) (by decide +kernel) ⟨rfl,rfl,rfl,rfl,rfl,by decide +kernel⟩ ?hw ?hc
 (case hw=>w_witness2)
 exact Fd.walk (l:=PySem.Challenge.rw_fenlevel_k13_whole_no_reading_or_a_paper) rfl rfl (λw h Y=>PySem.W.kIn_of Y) (λw mg fa h KX G hmg=>Fd.all_mk KX G hmg)
