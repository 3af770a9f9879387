import PyProof.Rows.All
import Wide.All
import OpenK.AllK
import Wide.FinOn
import Lean
import PyProof.EqAt
import PyProof.EqKinds
import PyProof.TupleCall
import PyProof.SetKind
import PyProof.Rows.SortShell
import PyProof.SetRoads
import PyProof.ListNew
import PyProof.CollectWalk
import PyProof.Rows.SetFrom
import PyProof.NeKinds
import PyProof.IsiHeapPairs
import PyProof.IsiNone
import PyProof.IsiPairs
import PyProof.ZipIter
import PyProof.Draws
import PyProof.WalksMore
import PyProof.EnumMake
import PyProof.EnumFor
import PyProof.ListRange
import PyProof.RangeFor
import PyProof.DictUpdate
import PyProof.DictItemsLoops
import PyProof.DictWalks
import PyProof.DictIter
import PyProof.P3Eq
import PyProof.P3In
import PyProof.NeData
import KE.KTryMore
import PyProof.ExcArgsOwn
import PyProof.StrOps2
import PyProof.TupleKey
import PyProof.DictFindH
import PyProof.MeetsDict
import PyProof.Rows.RuleN_abs
import PySem.Challenge.RW_fenlevel_k25_marks_and_hands
set_option linter.all false
set_option compiler.extract_closed false
def YAa:=@PySem.wpAny_bind
def YAb:=@PySem.Heap.get?_push_of_some
def YAc:=@PySem.wpAny_pure
def YAd:=@List.length_map
def YAe:=@List.getElem?_eq_some_iff
def YAf:=@List.mem_cons_self
def YAg:=@PySem.Heap.lt_size
def YAh:=@List.getElem?_set_self
def YAi:=@List.getElem?_set_ne
def YAj:=@PySem.Heap.get?_push_size
def YAk:=@Nat.le_refl
def YAl:=@Nat.lt_of_lt_of_le
def YAm:=@List.map_cons
def YAn:=@List.getElem?_eq_getElem
def YAo:=@List.size_toArray
def YAp:=@Nat.ne_of_lt
def YAq:=@List.mem_cons_of_mem
def YAr:=@List.mem_cons
def YAs:=@List.length_append
def YAt:=@List.getElem?_map
def YAu:=@List.getElem?_cons_succ
def YAv:=@decide_eq_false
def YAw:=@List.not_mem_nil
def YAx:=@Bool.and_eq_true
def YAy:=@decide_eq_true
def YAz:=@PySem.wpAny_field
def YAA:=@PySem.wpAny_callSpecial?_slot
def YAB:=@List.mem_singleton
def YAC:=@PySem.Heap.get?_update_other
def YAD:=@PySem.wpAny_newObj_type
def YAE:=@of_decide_eq_true
def YAF:=@Nat.le_trans
def YAG:=@List.mem_append_right
def YAH:=@Ne.symm
def YAI:=@List.lookup_cons
def YAJ:=@PyProof.Rows.slot_tuple_getitem
def YAK:=@PySem.Heap.get?_update_self
def YAL:=@PySem.wpAny_mono
def YAM:=@beq_eq_false_iff_ne
def YAN:=@PySem.wpAny_holding
def YAO:=@PySem.sizeLine_eq
def YAP:=@List.length_cons
def YAQ:=@PySem.W.segRun_of
def YAR:=@List.mem_append
def YAS:=@List.append_nil
def YAT:=@List.map_append
def YAU:=@PySem.wpAny_call_entry
def YAV:=@PySem.wpAny_truthy_bool
def YAW:=@List.forall_mem_cons
def YAX:=@PySem.wpAny_Call_Name_kw
def YAY:=@PySem.W.mg_of
def YAZ:=@List.filterMap_cons
def YA0:=@PySem.mem_of_lookup
def YA1:=@List.replicate_succ
def YA2:=@PySem.F.slot_dict_keyiterator_next
def YA3:=@Nat.lt_irrefl
def YA4:=@Bool.false_ne_true
def YA5:=@Int.eq_ofNat_of_zero_le
def YA6:=@Int.emod_lt_of_pos
def YA7:=@List.map_nil
def YA8:=@Array.length_toList
def YA9:=@List.getElem?_append_left
def YBa:=@PySem.wpAny_seqItems
def YBb:=@Array.getElem?_eq_getElem
def YBc:=@List.mem_map
def YBd:=@List.length_zip
def YBe:=@PySem.wpAny_setField_rec
def YBf:=@PySem.wpAny_typeNameOfWhole_keyiter
def YBg:=@List.getElem?_replicate
def YBh:=@PySem.Heap.size_push
def YBi:=@List.flatten_cons
def YBj:=@PyProof.Rows.callWith_type1
def YBk:=@List.nodup_cons
def YBl:=@Int.emod_nonneg
def YBm:=@PyProof.Rows.boot_list
def YBn:=@PySem.F.slot_tuple_iterator_next
def YBo:=@Array.getElem?_eq_some_iff
def YBp:=@List.getD_eq_getElem?_getD
def YBq:=@List.all_eq_true
def YBr:=@Nat.ne_of_gt
def YBs:=@List.mem_filterMap
def YBt:=@Bool.false_eq_true
def YBu:=@PySem.Obj.data_mapFields
def YBv:=@PySem.wpAny_setField
def YBw:=@List.drop_eq_getElem_cons
def YBx:=@Nat.min_self
def YBy:=@Nat.zero_le
def YBz:=@PySem.wpAny_attempt
def YBA:=@false_implies
def YBB:=@PySem.W.callWith_K
def YBC:=@PySem.wpAny_execs_nil
def YBD:=@List.find?_cons
def YBE:=@PySem.Obj.isFreed_of_fields
def YBF:=@PySem.F.slot_zip_next
def YBG:=@List.map_map
def YBH:=@implies_true
def YBI:=@Int.toNat_natCast
def YBJ:=@PySem.wpAny_pyIter_list
def YBK:=@List.getElem?_append_right
def YBL:=@PySem.wpAny_isInstance
def YBM:=@PySem.Heap.SameBut.update
def YBN:=@Option.isSome_iff_exists
def YBO:=@PySem.F.args_tuple_add_2
def YBP:=@List.mem_filter
def YBQ:=@PySem.wpAny_passesOwn
def YBR:=@PySem.F.entry_tuple_add
def YBS:=@List.any_cons
def YBT:=@PySem.tupleKind_room_in1
def YBU:=@PySem.F.plainAttrs_list
def YBV:=@List.map_singleton
def YBW:=@PySem.W.cellsFrom_some
def YBX:=@PySem.F.slot_tuple_add
def YBY:=@PyProof.Rows.boot_dict
def YBZ:=@beq_iff_eq
def YB0:=@PySem.Obj.cls_mapFields
def YB1:=@Nat.lt_succ_of_lt
def YB2:=@if_false
def YB3:=@or_false
def YB4:=@PySem.codeAny_mono
def YB5:=@PySem.W.methodCall_KW
def YB6:=@Array.getElem?_toList
def YB7:=@List.contains_iff_mem
def YB8:=@PySem.wpAny_execs_cons
def YB9:=@Nat.lt_succ_self
def YCa:=@List.length_take
def YCb:=@Nat.le_add_right
def YCc:=@List.mem_append_left
def YCd:=@List.mem_of_getElem?
def YCe:=@PySem.wpAny_updateSeq_pair
def YCf:=@Bool.and_eq_true_iff
def YCg:=@PySem.wpAny_onRaise
def YCh:=@PySem.call_meets
def YCi:=@PySem.wpAny_rule
def YCj:=@PySem.W.plainGet_of
def YCk:=@PySem.W.callWith_K0
def YCl:=@List.of_mem_zip
def YCm:=@List.length_set
def YCn:=@List.forIn_cons
def YCo:=@ne_true_of_eq_false
def YCp:=@List.map_congr_left
def YCq:=@PySem.wpAny_typeOf
def YCr:=@PySem.F.args_str_split_2
def YCs:=@if_true
def YCt:=@PySem.isSubtype_stop
def YCu:=@Nat.mul_le_mul
def YCv:=@PySem.wpAny_Name
def YCw:=@PySem.wpAny_Assign_Name
def YCx:=@PySem.wpAny_call
def YCy:=@PySem.typeIs_str
def YCz:=@List.append_assoc
def YCA:=@Option.isSome_map
def YCB:=@PySem.F.args_zip_next_1
def YCC:=@Option.some.injEq
def YCD:=@PySem.F.entry_str_split
def YCE:=@PySem.wpAny_dictEntries
def YCF:=@PySem.wpAny_standAt
def YCG:=@and_true
def YCH:=@PySem.noFill_tuple_add
def YCI:=@List.length_drop
def YCJ:=@List.zipIdx_cons
def YCK:=@PySem.F.entry_zip_next
def YCL:=@List.drop_length
def YCM:=@PySem.F.slot_str_split
def YCN:=@List.getElem_mem
def YCO:=@List.nil_append
def YCP:=@PySem.wpAny_specialOf
def YCQ:=@List.zipIdx_nil
def YCR:=@Option.map_some
def YCS:=@PySem.wpAny_dictEpoch
def YCT:=@PySem.wpAny_updateSeq
def YCU:=@Int.ediv_nonneg
def YCV:=@List.mem_range
def YCW:=@List.forIn_nil
def YCX:=@List.nodup_nil
def YCY:=@PySem.boot_len
def YCZ:=@PySem.wpAny_letGo
set_option Elab.async false
set_option linter.all false
set_option maxRecDepth 100000
namespace L2
open PySem PySem.Spec PyProof.Rows
abbrev Key:=Sum Int Str
def ziK:Key->Value->Bool
 | .inl k,v=>Value.isInt k v
 | .inr x,v=>Value.isStrOf x v
def keyH (w:World):Key->Int
 | .inl k=>hashInt k
 | .inr x=>hashStr w x
theorem zaO:∀ {k:Key} {v:Value},ziK k v = true->(∃ i t,k = Sum.inl i/\v = Value.int i t)\/(∃ x t,k = Sum.inr x/\v = Value.str x t)
 | .inl i,v,h=>by
  obtain ⟨t,e⟩:=Value.isInt_shape (k:=i) (v:=v) h
  exact .inl ⟨i,t,rfl,e⟩
 | .inr x,v,h=>by
  obtain ⟨t,e⟩:=Value.isStrOf_shape (x:=x) (v:=v) h
  exact .inr ⟨x,t,rfl,e⟩
theorem zmb (i:Int) (t:Tok):ziK (.inl i) (.int i t) = true:=by simp [ziK,Value.isInt]
theorem zfT (x:Str) (t:Tok):ziK (.inr x) (.str x t) = true:=by simp [ziK,Value.isStrOf]
theorem zqJ (a b:Int):decide ((Sum.inl a:Key) = Sum.inl b) = (a == b):=by
 by_cases e:a = b
 ·subst e;simp
 ·have h:¬ (Sum.inl a:Key) = Sum.inl b:=fun q=>e (Sum.inl.inj q)
  rw [YAv h]
  exact (YAM.mpr e).symm
theorem zqP (a b:Str):decide ((Sum.inr a:Key) = Sum.inr b) = decide (a = b):=by
 by_cases e:a = b
 ·subst e;simp
 ·have h:¬ (Sum.inr a:Key) = Sum.inr b:=fun q=>e (Sum.inr.inj q)
  rw [YAv h,YAv e]
theorem zq1 (a:Int) (b:Str):decide ((Sum.inl a:Key) = Sum.inr b) = false:=YAv (fun q=>nomatch q)
theorem zq5 (a:Str) (b:Int):decide ((Sum.inr a:Key) = Sum.inl b) = false:=YAv (fun q=>nomatch q)
def zaL (prog:Program) (w:World):PySem.KeyKind prog w Key where
 is:=ziK
 hash:=keyH w
 inj:=fun v a b ha hb=>by
  rcases zaO ha with ⟨i,t,rfl,rfl⟩ | ⟨x,t,rfl,rfl⟩
  ·rcases zaO hb with ⟨j,u,rfl,e⟩ | ⟨y,u,rfl,e⟩
   ·injection e with e1 _;rw [e1]
   ·exact nomatch e
  ·rcases zaO hb with ⟨j,u,rfl,e⟩ | ⟨y,u,rfl,e⟩
   ·exact nomatch e
   ·injection e with e1 _;rw [e1]
 byValue:=fun k v h=>by
  rcases zaO h with ⟨i,t,rfl,rfl⟩ | ⟨x,t,rfl,rfl⟩ <;> rfl
 pyHash:=fun hv h=>by
  rcases zaO hv with ⟨i,t,rfl,rfl⟩ | ⟨x,t,rfl,rfl⟩
  ·exact wpAny_pyHash_int h
  ·exact wpAny_pyHash_str h
 eqBool:=fun hu hv h=>by
  rcases zaO hu with ⟨i,t,rfl,rfl⟩ | ⟨x,t,rfl,rfl⟩
  ·rcases zaO hv with ⟨j,u,rfl,rfl⟩ | ⟨y,u,rfl,rfl⟩
   ·rw [zqJ] at h;exact wpAny_eqBool_int h
   ·rw [zq1] at h;exact SeqAt.EqAt.int_str i t y u _ _ _ _ h
  ·rcases zaO hv with ⟨j,u,rfl,rfl⟩ | ⟨y,u,rfl,rfl⟩
   ·rw [zq5] at h;exact SeqAt.EqAt.str_int x t j u _ _ _ _ h
   ·rw [zqP] at h;exact wpAny_eqBool_str h
 «strs»:=fun k x t v h=>by
  rcases zaO h with ⟨i,u,rfl,e⟩ | ⟨y,u,rfl,e⟩
  ·exact nomatch e
  ·injection e with e1 _
   subst e1
   cases v <;> rfl
theorem zi8 (prog:Program) (w:World) (i:Int) (t:Tok):(zaL prog w).is (.inl i) (.int i t) = true:=zmb i t
theorem zi4 (prog:Program) (w:World) (x:Str) (t:Tok):(zaL prog w).is (.inr x) (.str x t) = true:=zfT x t
inductive V where
 | non | bl (b:Bool) | int (i:Int) | str (x:Str) | byt (b:Array UInt8) | flt (b:UInt64) | ref (a:Addr) | ty (n:String)
 deriving DecidableEq
def RelV:V->Value->Prop
 | .non,u=>u = Value.none
 | .bl b,u=>u = Value.bool b
 | .int i,u=>∃ t,u = Value.int i t
 | .str x,u=>∃ t,u = Value.str x t
 | .byt b,u=>∃ t,u = Value.bytes b t
 | .flt b,u=>∃ t,u = Value.float b t
 | .ref a,u=>u = Value.ref a
 | .ty n,u=>u = Value.type n
abbrev Vals:List V->List Value->Prop:=Paired RelV
theorem Vals.length {xs:List V} {us:List Value} (r:Vals xs us):xs.length = us.length:=Paired.length r
theorem Vals.get:∀ {xs:List V} {us:List Value} {i:Nat} {x:V},Vals xs us->xs[i]? = some x->∃ u,us[i]? = some u/\RelV x u
 | _,_,_,_,.nil,e=>by simp at e
 | _,_,0,_,.cons r _,e=>by simp at e;subst e;exact ⟨_,rfl,r⟩
 | _,_,i + 1,x,.cons _ t,e=>by
  obtain ⟨u,h1,h2⟩:=Vals.get (i:=i) (x:=x) t (by simpa using e)
  exact ⟨u,by simpa using h1,h2⟩
theorem Vals.set  (r:RelV x u):∀ {xs:List V} {us:List Value} (i:Nat),Vals xs us->Vals (xs.set i x) (us.set i u)
 | _,_,_,.nil=>.nil
 | _,_,0,.cons _ t=>.cons r t
 | _,_,i + 1,.cons q t=>.cons q (Vals.set r i t)
theorem Vals.append:∀ {xs ys:List V} {us ws:List Value},Vals xs us->Vals ys ws->Vals (xs ++ ys) (us ++ ws)
 | _,_,_,_,.nil,s=>s
 | _,_,_,_,.cons r t,s=>.cons r (Vals.append t s)
theorem Vals.take:∀ {xs:List V} {us:List Value} (n:Nat),Vals xs us->Vals (xs.take n) (us.take n)
 | _,_,0,_=>.nil
 | _,_,_ + 1,.nil=>.nil
 | _,_,n + 1,.cons r t=>.cons r (Vals.take n t)
theorem Vals.drop:∀ {xs:List V} {us:List Value} (n:Nat),Vals xs us->Vals (xs.drop n) (us.drop n)
 | _,_,0,r=>r
 | _,_,_ + 1,.nil=>.nil
 | _,_,n + 1,.cons _ t=>Vals.drop n t
def RelO:Option V->Option Value->Prop
 | some v,some u=>RelV v u
 | none,none=>True
 | _,_=>False
def KV {κ:Type}:List (κ × V)->List (κ × Value)->Prop:=Paired fun (p:κ × V) (q:κ × Value)=>p.1 = q.1/\RelV p.2 q.2
def kV:Key->V
 | .inl i=>.int i
 | .inr x=>.str x
inductive HO where
 /-- a list -/
 | lst (xs:List V)
 /-- a tuple (never changes) -/
 | tup (xs:List V)
 /-- a dict whose keys are ints and texts;one whose keys are tuples of ints and texts (the empty one is both) -/
 | dK (kvs:List (Key × V)) | dT (kvs:List (List Key × V))
 /-- a set of ints: its members,its size -/
 | set (S:Int->Bool) (n:Nat)
 /-- an instance of the class at C,its dict at dx,its attributes -/
 | ins (C dx:Addr) (fs:List (Str × V))
 /-- the dict of the instance at x -/
 | own (x:Addr)
 /-- the dict of an exception -/
 | xd (fs:List (Str × V))
 /-- a bound method,f of x -/
 | met (f x:Addr)
 /-- a range object lo,lo + 1,.. below hi -/
 | rng (lo hi:Int)
 /-- a thing that is known to the object (the script;a dict while a loop walks it): read,never written while it is so -/
 | frz (o:Obj) (u:HO)
 /-- a code object's table -/
 | tbl (ps:Array Value)
 /-- any other thing,by what is true of its one object (a def of one's own: SetO a S n:=HO.ext fun h=>..) -/
 | ext (φ:Heap->Prop)
abbrev Hp:=Addr->Option HO
def upd (H:Hp) (a:Addr) (o:HO):Hp:=fun b=>if b = a then some o else H b
theorem zae  : upd H a o a = some o:=by unfold upd;rw [if_pos rfl]
theorem upd_ne  (h:b ≠ a):upd H a o b = H b:=by unfold upd;rw [if_neg h]
theorem zjc  : upd (upd H a o) a u = upd H a u:=by
 funext b;unfold upd;split <;> rfl
theorem ztE {H:Hp} {a b:Addr} {o u:HO} (h:H a = some o) (h':H b = some u) (d:o ≠ u):a ≠ b:=by
 intro e;subst e;rw [h] at h';exact d (Option.some.inj h')
theorem zam {H:Hp} {a b:Addr} {o:HO} (h:H a = some o) (h':H b = none):a ≠ b:=by
 intro e;subst e;rw [h] at h';cases h'
section
variable (P:Program) (w:World)
def ObjOk (H:Hp) (h:Heap) (a:Addr):HO->Prop
 | .lst xs=>xs.length <= sizeLine/\∃ (its:List Value) (n:Nat),Vals xs its/\h.get? a = some { cls:=.type "list",data:=.seq its.toArray n }
 | .tup xs=>xs.length <= sizeLine/\∃ its:List Value,Vals xs its/\IsTup h a its.toArray
 | .dK kvs=>kvs.length <= sizeLine/\(a == sysModules) = false/\∃ vs,KV kvs vs/\h.DictOf (zaL P w) a vs
 | .dT kvs=>kvs.length <= sizeLine/\(a == sysModules) = false/\∃ xs:List (List Key × Addr × Value),
   Paired (fun (p:List Key × V) (q:List Key × Addr × Value)=>p.1 = q.1/\H q.2.1 = some (.tup (p.1.map kV))/\RelV p.2 q.2.2) kvs xs /\
   ∃ o es ep,h.get? a = some o/\o.ExactDict/\o.data = .dict es ep/\es.toList = xs.map (entryOfKey (tupleKind (zaL P w)))/\(xs.map (·.1)).Nodup
 | .set S n=>h.SetOf (intKind P w) a S n
 | .ins C dx fs=>H dx = some (.own a)/\fs.length <= 1000/\dx ≠ a/\h.get? a = some (PySem.W.instObj C dx) /\
   ∃ mA,h.Ns1 dx mA/\(∀ f,RelO (fs.lookup f) (mA f))/\PySem.Within mA (fs.map (·.1))
 | .own _=>∃ o,h.get? a = some o
 | .xd fs=>∃ mA,h.Ns1 a mA/\∀ f,RelO (fs.lookup f) (mA f)
 | .rng lo hi=>∃ t u v,h.get? a = some { cls:=.type "range",data:=.fields #[.int lo t,.int hi u,.int 1 v] }
 | .frz o u=>h.get? a = some o/\ObjOk H h a u
 | .tbl ps=>h.get? a = some { cls:=.none,data:=.fields ps }
 | .met f x=>h.get? a = some (PySem.W.methodObj (.ref f) (.ref x))
 | .ext φ=>φ h/\(∃ o,h.get? a = some o)/\∀ h1 h2:Heap,φ h1->(∀ o,h1.get? a = some o->h2.get? a = some o)->φ h2
def HOk (H:Hp) (h:Heap):Prop:=∀ a o,H a = some o->ObjOk P w H h a o
end
section
variable {P:Program} {w:World} {H H':Hp} {h h':Heap} {a:Addr} {o:HO}
theorem ObjOk.lt (x:ObjOk P w H h a o):a < h.objs.size:=by
 cases o with
 | lst xs=>obtain ⟨_,_,_,_,e⟩:=x;exact YAg e
 | tup xs=>obtain ⟨_,_,_,p⟩:=x;exact p.lt
 | dK kvs=>obtain ⟨_,_,_,_,o,_,_,e,_⟩:=x;exact YAg e
 | dT kvs=>obtain ⟨_,_,_,_,o,_,_,e,_⟩:=x;exact YAg e
 | set S n=>obtain ⟨o,_,_,_,e,_⟩:=x;exact YAg e
 | ins C dx fs=>obtain ⟨_,_,_,e,_⟩:=x;exact YAg e
 | own y=>obtain ⟨_,e⟩:=x;exact YAg e
 | xd fs=>obtain ⟨_,⟨_,_,_,e,_⟩,_⟩:=x;exact YAg e
 | rng lo hi=>obtain ⟨_,_,_,e⟩:=x;exact YAg e
 | frz ob u=>obtain ⟨e,_⟩:=x;exact YAg e
 | tbl ps=>exact YAg (show h.get? a = some _ from x)
 | met f y=>exact YAg (show h.get? a = some _ from x)
 | ext φ=>obtain ⟨_,⟨_,e⟩,_⟩:=x;exact YAg e
theorem Paired.mapP {α β:Type} {F G:α->β->Prop}:∀ {l₁:List α} {l₂:List β},Paired F l₁ l₂->(∀ a b,F a b->G a b)->Paired G l₁ l₂
 | _,_,.nil,_=>.nil
 | _,_,.cons r t,f=>.cons (f _ _ r) (Paired.mapP t f)
theorem ObjOk.stay (x:ObjOk P w H h a o) (k:∀ b u,(b = a\/H b = some (.own a))->h.get? b = some u->h'.get? b = some u)
  (ho:∀ b,H b = some (.own a)->H' b = some (.own a)) (ht:∀ b xs,H b = some (.tup xs)->H' b = some (.tup xs)):ObjOk P w H' h' a o:=by
 induction o with
 | lst xs=>obtain ⟨z,its,n,r,e⟩:=x;exact ⟨z,its,n,r,k _ _ (.inl rfl) e⟩
 | tup xs=>obtain ⟨z,its,r,ob,e,c⟩:=x;exact ⟨z,its,r,ob,k _ _ (.inl rfl) e,c⟩
 | dK kvs=>obtain ⟨z,y,vs,r,ob,es,ep,e,c⟩:=x;exact ⟨z,y,vs,r,ob,es,ep,k _ _ (.inl rfl) e,c⟩
 | dT kvs=>
  obtain ⟨z,y,xs,r,ob,es,ep,e,c⟩:=x
  exact ⟨z,y,xs,Paired.mapP r fun p q z=>⟨z.1,ht _ _ z.2.1,z.2.2⟩,ob,es,ep,k _ _ (.inl rfl) e,c⟩
 | set S n=>obtain ⟨ob,es,ep,t,e,c⟩:=x;exact ⟨ob,es,ep,t,k _ _ (.inl rfl) e,c⟩
 | ins C dx fs=>
  obtain ⟨d,z,ne,e,mA,⟨od,es,ep,e2,c⟩,r⟩:=x
  exact ⟨ho _ d,z,ne,k _ _ (.inl rfl) e,mA,⟨od,es,ep,k _ _ (.inr d) e2,c⟩,r⟩
 | own y=>obtain ⟨ob,e⟩:=x;exact ⟨ob,k _ _ (.inl rfl) e⟩
 | xd fs=>obtain ⟨mA,⟨od,es,ep,e,c⟩,r⟩:=x;exact ⟨mA,⟨od,es,ep,k _ _ (.inl rfl) e,c⟩,r⟩
 | rng lo hi=>obtain ⟨t,u,v,e⟩:=x;exact ⟨t,u,v,k _ _ (.inl rfl) e⟩
 | frz ob u ih=>obtain ⟨e,q⟩:=x;exact ⟨k _ _ (.inl rfl) e,ih q⟩
 | tbl ps=>
  have e:h.get? a = some { cls:=.none,data:=.fields ps }:=x
  show h'.get? a = some { cls:=.none,data:=.fields ps }
  exact k a _ (.inl rfl) e
 | met f y=>
  have e:h.get? a = some (PySem.W.methodObj (.ref f) (.ref y)):=x
  show h'.get? a = some (PySem.W.methodObj (.ref f) (.ref y))
  exact k a _ (.inl rfl) e
 | ext φ=>obtain ⟨p,⟨o,e⟩,st⟩:=x;exact ⟨st _ _ p fun o q=>k _ _ (.inl rfl) q,⟨o,k _ _ (.inl rfl) e⟩,st⟩
theorem HOk.lt (x:HOk P w H h) (e:H a = some o):a < h.objs.size:=(x a o e).lt
theorem HOk.fresh (x:HOk P w H h) (e:h.objs.size <= a):H a = none:=by
 cases q:H a with
 | none=>rfl
 | some u=>exact absurd (YAl (x.lt q) e) (YA3 _)
theorem HOk.kept (x:HOk P w H h) (k:∀ b u,h.get? b = some u->h'.get? b = some u):HOk P w H h':=fun a o e=>
 (x a o e).stay (fun b u _ q=>k b u q) (fun _ q=>q) fun _ _ q=>q
theorem HOk.laid (x:HOk P w H h) (k:∀ b u,h.get? b = some u->h'.get? b = some u) (hp:h.objs.size <= a) (new:ObjOk P w (upd H a o) h' a o):HOk P w (upd H a o) h':=fun b u e=>by
 have hn:=x.fresh hp
 by_cases hb:b = a
 ·subst hb;rw [zae] at e;cases e;exact new
 ·rw [upd_ne hb] at e
  exact (x b u e).stay (fun c v _ q=>k c v q) (fun c q=>by rw [upd_ne (zam q hn)];exact q) fun c xs q=>by rw [upd_ne (zam q hn)];exact q
end
def Rd (H:Hp) (a:Addr) (u:HO):Prop:=H a = some u\/∃ o,H a = some (.frz o u)
theorem Rd.ok {P:Program} {w:World} {H:Hp} {h:Heap} {a:Addr} {u:HO} (r:Rd H a u) (x:HOk P w H h):ObjOk P w H h a u:=by
 rcases r with r | ⟨o,r⟩
 ·exact x a u r
 ·obtain ⟨_,q⟩:=x a _ r
  exact q
def Mut:Option HO->Prop
 | some (.lst _)=>True
 | some (.dK _)=>True
 | some (.dT _)=>True
 | some (.set _ _)=>True
 | some (.ins _ _ _)=>True
 | some (.ext _)=>True
 | _=>False
section
variable {P:Program} {w:World} {H:Hp} {h h':Heap} {x e:Addr} {o':HO}
theorem HOk.write (ok:HOk P w H h) (mu:Mut (H x)) (he:e = x\/H e = some (.own x)) (k:∀ b u,b ≠ e->h.get? b = some u->h'.get? b = some u) (heo:∃ u,h'.get? e = some u)
  (new:ObjOk P w (upd H x o') h' x o'):HOk P w (upd H x o') h':=fun b u q=>by
 have nown:∀ c y,H c = some (.own y)->c ≠ x:=fun c y r z=>by subst z;rw [r] at mu;exact mu
 have ntup:∀ c xs,H c = some (.tup xs)->c ≠ x:=fun c xs r z=>by subst z;rw [r] at mu;exact mu
 by_cases hb:b = x
 ·subst hb;rw [zae] at q;cases q;exact new
 ·rw [upd_ne hb] at q
  by_cases hbe:b = e
  ·have q':H b = some (.own x):=by
    rcases he with z | z
    ·exact absurd (hbe.trans z) hb
    ·rw [hbe];exact z
   rw [q] at q';cases q'
   obtain ⟨v,hv⟩:=heo
   exact ⟨v,by rw [hbe];exact hv⟩
  ·refine (ok b u q).stay (fun c v hc r=>k c v ?_ r) (fun c r=>by rw [upd_ne (nown c b r)];exact r) fun c xs r=>by rw [upd_ne (ntup c xs r)];exact r
   rcases hc with rfl | hc
   ·exact hbe
   ·rintro rfl
    rcases he with z | z
    ·exact nown c b hc z
    ·rw [hc] at z;cases z;exact hb rfl
end
structure Un (fs ex:List Addr) (H H':Hp) (h h':Heap):Prop where
 keep:∀ b o,h.get? b = some o->H b = none->b ∉ fs->b ∉ ex->h'.get? b = some o
 slot:∀ b o,h.get? b = some o->H b = none->b ∈ fs->b ∉ ex->∃ sl,h'.get? b = some { o with slots:=sl }
 free:∀ b o,h.get? b = some o->H b = none->b ∉ ex->H' b = none
 there:∀ b o,h.get? b = some o->b ∉ ex->∃ o',h'.get? b = some o'
 tups:∀ b xs,H b = some (.tup xs)->H' b = some (.tup xs)
 frzs:∀ b o u,H b = some (.frz o u)->H' b = some (.frz o u)
 tbls:∀ b ps,H b = some (.tbl ps)->∃ more,H' b = some (.tbl (ps ++ more))
section
variable {fs fs' ex ex':List Addr} {H H1 H2:Hp} {h h1 h2 h':Heap} {a x e:Addr} {o:HO}
theorem Un.any (u:Un fs ex H H1 h h1) {b:Addr} {ob:Obj} (q:h.get? b = some ob) (n:H b = none) (hx:b ∉ ex):∃ sl,h1.get? b = some { ob with slots:=sl }:=by
 by_cases hb:b ∈ fs
 ·exact u.slot b ob q n hb hx
 ·exact ⟨ob.slots,u.keep b ob q n hb hx⟩
theorem Un.kept (k:∀ b u,h.get? b = some u->h'.get? b = some u):Un fs ex H H h h':=
 ⟨fun b ob q _ _ _=>k b ob q,fun b ob q _ _ _=>⟨ob.slots,k b ob q⟩,fun _ _ _ n _=>n,fun b ob q _=>⟨ob,k b ob q⟩,fun _ _ q=>q,fun _ _ _ q=>q,fun _ ps q=>⟨#[],by rw [q];simp⟩⟩
theorem Un.refl:Un fs ex H H h h:=Un.kept fun _ _ q=>q
theorem Un.laid (k:∀ b u,h.get? b = some u->h'.get? b = some u) (hp:h.objs.size <= a) (hn:H a = none):Un fs ex H (upd H a o) h h' where
 keep:=fun b u q _ _ _=>k b u q
 slot:=fun b u q _ _ _=>⟨u.slots,k b u q⟩
 free:=fun b u q n _=>by rw [upd_ne (YAp (YAl (YAg q) hp))];exact n
 there:=fun b u q _=>⟨u,k b u q⟩
 tups:=fun b xs q=>by rw [upd_ne (zam q hn)];exact q
 frzs:=fun b u xs q=>by rw [upd_ne (zam q hn)];exact q
 tbls:=fun b ps q=>⟨#[],by rw [upd_ne (zam q hn),q];simp⟩
theorem Un.write (mu:Mut (H x)) (he:e = x\/H e = some (.own x)) (k:∀ b u,b ≠ e->h.get? b = some u->h'.get? b = some u) (heo:∃ u,h'.get? e = some u):Un fs ex H (upd H x o) h h':=by
 have hx:∀ b,H b = none->b ≠ x:=fun b n z=>by subst z;rw [n] at mu;exact mu
 have hb:∀ b,H b = none->b ≠ e:=fun b n z=>by
  subst z
  rcases he with r | r
  ·exact hx b n r
  ·rw [n] at r;cases r
 have hm:∀ b u,H b = some u->¬ Mut (some u)->b ≠ x:=fun b u q nm z=>by subst z;rw [q] at mu;exact nm mu
 refine ⟨fun b u q n _ _=>k b u (hb b n) q,fun b u q n _ _=>⟨u.slots,k b u (hb b n) q⟩,fun b u q n _=>by rw [upd_ne (hx b n)];exact n,fun b u q _=>?_,
  fun b xs q=>by rw [upd_ne (hm b _ q fun z=>z)];exact q,fun b u xs q=>by rw [upd_ne (hm b _ q fun z=>z)];exact q,fun b ps q=>⟨#[],by rw [upd_ne (hm b _ q fun z=>z),q];simp⟩⟩
 by_cases hbe:b = e
 ·subst hbe;exact heo
 ·exact ⟨u,k b u hbe q⟩
end
def trk (h:Heap) (H:Hp):List Addr:=(List.range h.objs.size).filter fun a=>(H a).isSome
def hidT (h:Heap) (H:Hp):Heap:=PySem.W.hideAll h (trk h H)
theorem zlv (h:Heap) (H:Hp):(hidT h H).objs.size = h.objs.size:=PySem.W.hideAll_size _ _
theorem znH {h:Heap} {H:Hp} {b:Addr} {o:Obj} (e:h.get? b = some o) (n:H b = none):(hidT h H).get? b = some o:=
 PySem.W.hideAll_get _ e fun hm=>by
  have q:(H b).isSome = true:=(YBP.mp hm).2
  rw [n] at q;simp at q
theorem zqF {h:Heap} {H:Hp} {b:Addr} {o:Obj} (e:(hidT h H).get? b = some o):h.get? b = some o/\H b = none:=by
 have e':h.get? b = some o:=PySem.W.of_hideAll (trk h H) e
 refine ⟨e',?_⟩
 cases q:H b with
 | none=>rfl
 | some x=>
  have hm:b ∈ trk h H:=YBP.mpr ⟨YCV.mpr (YAg e'),by simp [q]⟩
  have z:(hidT h H).get? b = none:=PySem.W.hideAll_none (trk h H) hm
  rw [z] at e;cases e
structure Mod (K:PySem.W.Frag) (mg:Str->Option Value) (base:Heap):Prop where
 kin:K.In base
 glob:base.Ns mainGlobals mg
 blt:∃ mb,base.Ns builtinsNs mb/\∀ x:Str,x ≠ "__name__" -> mb x = bootBuiltins x
 nolimit:base.NoLimit
structure Cx where
 prog:Program
 w:World
 K:PySem.W.Frag
 mg:Str->Option Value
 base:Heap
 A:Around
 N:List Str
 s₀:Shared
 H₀:Hp
 env:Env
 outer:List Env
 stack:List Env
 ex:List Addr
 fn:Str->Bool
 calm:Bool
 pn:List (Addr × Obj)
 xe:Value->Shared->Prop
def frs (l:List Env):List Addr:=l.filterMap (·.frame)
abbrev Cx.fs (X:Cx):List Addr:=frs X.outer
def Vis (sc:Scope) (x:Str):Prop:=sc.names.lookup x = some .local\/sc.names.lookup x = some .cell\/sc.names.lookup x = some .free
def Loc (sc:Scope) (x:Str):Prop:=sc.names.lookup x = some .local\/sc.names.lookup x = some .cell
def Look (env:Env) (h:Heap) (m:Str->Option Value) (x:Str) (u:Value):Prop:=
 (env.kindOf x = some .local/\m x = some u)\/((env.kindOf x = some .cell\/env.kindOf x = some .free)/\∃ c,env.cells.lookup x = some c/\h.IsCell c (some u))
structure Cx.Ok (X:Cx):Prop where
 mod:Mod X.K X.mg X.base
 kind:X.env.scope.kind = .function
 glob:X.env.globals = mainGlobals
 blt:X.env.builtins = builtinsNs
 above:X.s₀.heap.objs.size <= X.env.locals
 inj:∀ x y c,X.env.cells.lookup x = some c->X.env.cells.lookup y = some c->x = y
 has:∀ x,(X.env.kindOf x = some .cell\/X.env.kindOf x = some .free)->∃ c,X.env.cells.lookup x = some c
 cab:∀ x c,X.fn x = true->X.env.cells.lookup x = some c->X.s₀.heap.objs.size <= c
 hd:X.calm = true->X.A.handled = none
 frames:X.A.frames = some X.stack
 stk:X.stack = X.outer\/(X.stack = X.env :: X.outer/\X.env.frame = some X.env.locals)
 exf:∀ b ∈ X.ex,b ≠ X.env.locals/\∀ x c,X.env.cells.lookup x = some c->c ≠ b
 bs:∀ b o,X.base.get? b = some o->X.s₀.heap.get? b = some o/\X.H₀ b = none
 bsz:X.base.objs.size <= X.s₀.heap.objs.size
 noex:∀ b o,X.base.get? b = some o->b ∉ X.ex
 exfs:∀ b ∈ X.ex,b ∉ X.fs
 funs:X.s₀.heap.FunFrames X.base X.outer
 frf:∀ b ∈ X.fs,X.H₀ b = none
structure Inv (X:Cx) (pins:List (Addr × Obj)) (σ:List (Option V)) (H:Hp) (s:Shared):Prop where
 ok:X.Ok
 os:s.os = X.s₀.os
 bare:AllBare s.gens
 base:Un X.fs X.ex X.H₀ H X.s₀.heap s.heap
 loc:∃ m,s.heap.Ns X.env.locals m/\∀ (i:Nat) (x:Str) (v:V),X.N[i]? = some x->σ[i]? = some (some v)->Vis X.env.scope x->∃ u,RelV v u/\Look X.env s.heap m x u
 cell:∀ x c,X.env.cells.lookup x = some c->∃ v,s.heap.IsCell c v
 free:H X.env.locals = none
 freeC:∀ x c,X.env.cells.lookup x = some c->H c = none
 pin:∀ p ∈ X.pn ++ pins,s.heap.get? p.1 = some p.2/\H p.1 = none/\p.1 ≠ X.env.locals/\p.1 ∉ X.fs/\∀ v,p.2.data ≠ .cell v
 hok:HOk X.prog X.w H s.heap
 len:σ.length = X.N.length
section
variable {X:Cx} {pins:List (Addr × Obj)} {σ:List (Option V)} {H H':Hp} {s:Shared} {h':Heap}
theorem Cx.Ok.nofr (ok:X.Ok)  (e:X.base.get? b = some o):b ∉ X.fs:=fun hb=>by
 have:=(ok.funs.mem hb).1
 rw [e] at this;cases this
theorem Inv.bs (I:Inv X pins σ H s):∀ b o,X.base.get? b = some o->s.heap.get? b = some o/\H b = none:=fun b o e=>
 ⟨I.base.keep b o (I.ok.bs b o e).1 (I.ok.bs b o e).2 (I.ok.nofr e) (I.ok.noex b o e),I.base.free b o (I.ok.bs b o e).1 (I.ok.bs b o e).2 (I.ok.noex b o e)⟩
theorem Inv.bk (I:Inv X pins σ H s):∀ b o,X.base.get? b = some o->s.heap.get? b = some o:=fun b o e=>(I.bs b o e).1
theorem Inv.mod (I:Inv X pins σ H s):Mod X.K X.mg X.base:=I.ok.mod
theorem Inv.kIn (I:Inv X pins σ H s):X.K.In s.heap:=I.ok.mod.kin.keeps I.bk
theorem Inv.lt (I:Inv X pins σ H s):X.env.locals < s.heap.objs.size:=let ⟨_,hn,_⟩:=I.loc;hn.lt
theorem Inv.sz (I:Inv X pins σ H s):X.s₀.heap.objs.size <= s.heap.objs.size:=YAF I.ok.above (Nat.le_of_lt I.lt)
theorem Inv.nofs (I:Inv X pins σ H s) (h:s.heap.objs.size <= a):a ∉ X.fs:=fun hb=>by
 obtain ⟨_,o,ho,_⟩:=I.ok.funs.mem hb
 exact absurd (YAl (YAg ho) (YAF I.sz h)) (YA3 _)
theorem Inv.cne (I:Inv X pins σ H s):∀ x c,X.env.cells.lookup x = some c->c ≠ X.env.locals:=fun x c e z=>by
 obtain ⟨v,o,ho,hd⟩:=I.cell x c e
 obtain ⟨m,⟨o',es,ep,ho',hd',_⟩,_⟩:=I.loc
 rw [z,ho'] at ho;cases ho;rw [hd'] at hd;cases hd
theorem Inv.funs (I:Inv X pins σ H s):s.heap.FunFrames X.base X.outer:=by
 have all:∀ (l:List Env),(∀ b ∈ frs l,b ∈ X.fs)->X.s₀.heap.FunFrames X.base l->s.heap.FunFrames X.base l:=by
  intro l
  induction l with
  | nil=>intro _ _;trivial
  | cons env r ih=>
   intro hs hl
   obtain ⟨hk,⟨L,o,hf,hn,ho,hd⟩,hr⟩:=hl
   have hL:L ∈ X.fs:=hs L (by unfold frs;rw [YAZ,hf];exact YAf)
   obtain ⟨sl,e⟩:=I.base.slot L o ho (I.ok.frf L hL) hL fun z=>I.ok.exfs L z hL
   exact ⟨hk,⟨L,_,hf,hn,e,hd⟩,ih (fun b hb=>hs b (by unfold frs;rw [YAZ,hf];exact YAq _ hb)) hr⟩
 exact all X.outer (fun _ hb=>hb) I.ok.funs
theorem Inv.stack (I:Inv X pins σ H s):s.heap.FunFrames X.base X.stack:=by
 rcases I.ok.stk with e | ⟨e,hf⟩
 ·rw [e];exact I.funs
 ·rw [e]
  obtain ⟨m,hn,_⟩:=I.loc
  refine .cons (by rw [I.ok.kind];decide) hf hn ?_ I.funs
  exact Heap.get?_none_of_le (YAF I.ok.bsz I.ok.above)
theorem Inv.stkSub (I:Inv X pins σ H s):∀ b ∈ frs X.stack,b ∈ X.env.locals :: X.fs:=fun b hb=>by
 rcases I.ok.stk with e | ⟨e,hf⟩
 ·rw [e] at hb;exact YAq _ hb
 ·rw [e] at hb
  unfold frs at hb
  rw [YAZ,hf] at hb
  exact hb
theorem Inv.stkFree (I:Inv X pins σ H s):∀ b ∈ frs X.stack,H b = none:=fun b hb=>by
 rcases YAr.mp (I.stkSub b hb) with e | hb
 ·rw [e];exact I.free
 ·obtain ⟨_,o,ho,_⟩:=I.ok.funs.mem hb
  exact I.base.free b o ho (I.ok.frf b hb) fun z=>I.ok.exfs b z hb
theorem Inv.step {g':Array GenState} {t':Nat} {d':Drawn} {ch:List Addr} (I:Inv X pins σ H s)
  (hch:∀ b ∈ ch,(b ∈ X.ex\/X.s₀.heap.objs.size <= b)/\b ≠ X.env.locals/\(∀ x c,X.env.cells.lookup x = some c->c ≠ b)/\∀ p ∈ X.pn ++ pins,p.1 ≠ b)
  (keep:∀ b o,b ≠ X.env.locals->b ∉ X.fs->b ∉ ch->s.heap.get? b = some o->H b = none->h'.get? b = some o)
  (slot:∀ b o,b ≠ X.env.locals->b ∈ X.fs->b ∉ ch->s.heap.get? b = some o->H b = none->∃ sl,h'.get? b = some { o with slots:=sl }) (free:∀ b o,b ∉ ch->s.heap.get? b = some o->H b = none->H' b = none)
  (there:∀ b o,b ∉ ch->s.heap.get? b = some o->∃ o',h'.get? b = some o')
  (tups:∀ b xs,H b = some (.tup xs)->H' b = some (.tup xs)) (frzs:∀ b o u,H b = some (.frz o u)->H' b = some (.frz o u)) (tbls:∀ b ps,H b = some (.tbl ps)->∃ more,H' b = some (.tbl (ps ++ more)))
  (ns:∀ m,s.heap.Ns X.env.locals m->h'.Ns X.env.locals m) (hok:HOk X.prog X.w H' h') (hg:AllBare g') :
  Inv X pins σ H' { s with heap:=h',gens:=g',drawn:=d',toks:=t' }:=by
 have neL:∀ b o,X.s₀.heap.get? b = some o->b ≠ X.env.locals:=fun b o e=>YAp (YAl (YAg e) I.ok.above)
 have neC:∀ b o,X.s₀.heap.get? b = some o->b ∉ X.ex->b ∉ ch:=fun b o e hx hb=>by
  rcases (hch b hb).1 with z | z
  ·exact hx z
  ·exact absurd (YAl (YAg e) z) (YA3 _)
 have cellK:∀ x c,X.env.cells.lookup x = some c->∀ v,s.heap.IsCell c v->h'.IsCell c v:=fun x c e v ⟨o,ho,hd⟩=>by
  have nch:c ∉ ch:=fun z=>(hch c z).2.2.1 x c e rfl
  by_cases hc:c ∈ X.fs
  ·obtain ⟨sl,q⟩:=slot c o (I.cne x c e) hc nch ho (I.freeC x c e)
   exact ⟨_,q,hd⟩
  ·exact ⟨o,keep c o (I.cne x c e) hc nch ho (I.freeC x c e),hd⟩
 refine ⟨I.ok,I.os,hg,⟨fun b o e n hb hx=>?_,fun b o e n hb hx=>?_,fun b o e n hx=>?_,fun b o e hx=>?_,fun b xs e=>tups b xs (I.base.tups b xs e),fun b o xs e=>frzs b o xs (I.base.frzs b o xs e),fun b ps e=>?_⟩,?_,fun x c e=>?_,?_,fun x c e=>?_,fun p hp=>?_,hok,I.len⟩
 ·exact keep b o (neL b o e) hb (neC b o e hx) (I.base.keep b o e n hb hx) (I.base.free b o e n hx)
 ·obtain ⟨sl,e1⟩:=I.base.slot b o e n hb hx
  obtain ⟨sl',e2⟩:=slot b _ (neL b o e) hb (neC b o e hx) e1 (I.base.free b o e n hx)
  exact ⟨sl',e2⟩
 ·obtain ⟨o',e1⟩:=I.base.there b o e hx
  exact free b o' (neC b o e hx) e1 (I.base.free b o e n hx)
 ·obtain ⟨o',e1⟩:=I.base.there b o e hx
  exact there b o' (neC b o e hx) e1
 ·obtain ⟨m1,e1⟩:=I.base.tbls b ps e
  obtain ⟨m2,e2⟩:=tbls b _ e1
  exact ⟨m1 ++ m2,by rw [e2,Array.append_assoc]⟩
 ·obtain ⟨m,hn,hl⟩:=I.loc
  refine ⟨m,ns m hn,fun i x v e1 e2 e3=>?_⟩
  obtain ⟨u,r,l⟩:=hl i x v e1 e2 e3
  refine ⟨u,r,?_⟩
  rcases l with l | ⟨k,c,e,z⟩
  ·exact .inl l
  ·exact .inr ⟨k,c,e,cellK x c e _ z⟩
 ·obtain ⟨v,z⟩:=I.cell x c e
  exact ⟨v,cellK x c e v z⟩
 ·obtain ⟨m,⟨o,_,_,ho,_⟩,_⟩:=I.loc
  exact free _ o (fun z=>(hch _ z).2.1 rfl) ho I.free
 ·obtain ⟨v,o,ho,hd⟩:=I.cell x c e
  exact free c o (fun z=>(hch c z).2.2.1 x c e rfl) ho (I.freeC x c e)
 ·obtain ⟨e,n,ne,nf,d⟩:=I.pin p hp
  have nch:p.1 ∉ ch:=fun z=>(hch p.1 z).2.2.2 p hp rfl
  exact ⟨keep p.1 p.2 ne nf nch e n,free p.1 p.2 nch e n,ne,nf,d⟩
theorem Inv.un {t':Nat} (I:Inv X pins σ H s) (u:Un X.fs [] H H' s.heap h') (hok:HOk X.prog X.w H' h'):Inv X pins σ H' { s with heap:=h',toks:=t' }:=by
 obtain ⟨m,⟨o,es,ep,ho,r⟩,_⟩:=id I.loc
 obtain ⟨sl,hL⟩:=u.any ho I.free (by simp)
 exact I.step (g':=s.gens) (d':=s.drawn) (ch:=[]) (fun _ z=>nomatch z) (fun b o _ hb _ e n=>u.keep b o e n hb (by simp)) (fun b o _ hb _ e n=>u.slot b o e n hb (by simp)) (fun b o _ e n=>u.free b o e n (by simp)) (fun b o _ e=>u.there b o e (by simp)) u.tups u.frzs u.tbls (fun m' hm=>by
  obtain ⟨o',es',ep',ho',r'⟩:=hm
  rw [ho] at ho';cases ho'
  exact ⟨_,es',ep',hL,r'⟩) hok I.bare
theorem Inv.call {g':Array GenState} {t':Nat} {d':Drawn} {ch:List Addr} (I:Inv X pins σ H s) (u:Un (frs X.stack) ch H H' s.heap h') (hok:HOk X.prog X.w H' h') (hg:AllBare g')
  (hch:∀ b ∈ ch,(b ∈ X.ex\/X.s₀.heap.objs.size <= b)/\b ≠ X.env.locals/\(∀ x c,X.env.cells.lookup x = some c->c ≠ b)/\∀ p ∈ X.pn ++ pins,p.1 ≠ b) :
  Inv X pins σ H' { s with heap:=h',gens:=g',drawn:=d',toks:=t' }:=by
 obtain ⟨m,⟨o,es,ep,ho,r⟩,_⟩:=id I.loc
 obtain ⟨sl,hL⟩:=u.any ho I.free fun z=>(hch _ z).2.1 rfl
 exact I.step (ch:=ch) hch (fun b o hL hb hc e n=>u.keep b o e n (fun z=>(YAr.mp (I.stkSub b z)).elim hL hb) hc) (fun b o _ _ hc e n=>u.any e n hc) (fun b o hc e n=>u.free b o e n hc) (fun b o hc e=>u.there b o e hc) u.tups u.frzs u.tbls (fun m' hm=>by
  obtain ⟨o',es',ep',ho',r'⟩:=hm
  rw [ho] at ho';cases ho'
  exact ⟨_,es',ep',hL,r'⟩) hok hg
theorem Inv.turned {t':Nat} {it:Addr} (I:Inv X pins σ H s) (k:∀ b o,b ≠ it->s.heap.get? b = some o->h'.get? b = some o) (hn:H it = none) (hL:it ≠ X.env.locals)
  (h1:it ∈ X.ex\/X.s₀.heap.objs.size <= it) (h2:∀ x c,X.env.cells.lookup x = some c->c ≠ it) (h3:∀ p ∈ X.pn ++ pins,p.1 ≠ it):Inv X pins σ H { s with heap:=h',toks:=t' }:=by
 have nit:∀ b u,H b = some u->b ≠ it:=fun b u e z=>by rw [z,hn] at e;cases e
 refine I.step (g':=s.gens) (d':=s.drawn) (ch:=[it]) (fun b hb=>?_) (fun b o _ _ hc e _=>k b o (fun z=>hc (by simp [z])) e) (fun b o _ _ hc e _=>⟨o.slots,k b o (fun z=>hc (by simp [z])) e⟩) (fun _ _ _ _ n=>n)
  (fun b o hc e=>⟨o,k b o (fun z=>hc (by simp [z])) e⟩) (fun _ _ e=>e) (fun _ _ _ e=>e) (fun b ps e=>⟨#[],by rw [e];simp⟩) (fun m hm=>?_) (fun b u e=>?_) I.bare
 ·have e:b = it:=by simpa using hb
  subst e
  exact ⟨h1,hL,h2,h3⟩
 ·obtain ⟨o,es,ep,ho,r⟩:=hm
  exact ⟨o,es,ep,k _ o (YAH hL) ho,r⟩
 ·refine (I.hok b u e).stay (fun c v hc q=>k c v ?_ q) (fun _ q=>q) fun _ _ q=>q
  rcases hc with z | z
  ·rw [z];exact nit b u e
  ·exact nit c _ z
theorem Inv.tok (I:Inv X pins σ H s) (t:Nat):Inv X pins σ H { s with toks:=t }:=I.un (h':=s.heap) (t':=t) Un.refl I.hok
theorem Inv.kept {t':Nat} (I:Inv X pins σ H s) (k:∀ b u,s.heap.get? b = some u->h'.get? b = some u):Inv X pins σ H { s with heap:=h',toks:=t' }:=I.un (Un.kept k) (I.hok.kept k)
theorem Inv.laid {a:Addr} {o:HO} {t':Nat} (I:Inv X pins σ H s) (k:∀ b u,s.heap.get? b = some u->h'.get? b = some u) (hp:s.heap.objs.size <= a) (new:ObjOk X.prog X.w (upd H a o) h' a o) :
  Inv X pins σ (upd H a o) { s with heap:=h',toks:=t' }:=I.un (Un.laid k hp (I.hok.fresh hp)) (I.hok.laid k hp new)
theorem Inv.write {x e:Addr} {o:HO} {t':Nat} (I:Inv X pins σ H s) (mu:Mut (H x)) (he:e = x\/H e = some (.own x)) (k:∀ b u,b ≠ e->s.heap.get? b = some u->h'.get? b = some u) (heo:∃ u,h'.get? e = some u)
  (new:ObjOk X.prog X.w (upd H x o) h' x o):Inv X pins σ (upd H x o) { s with heap:=h',toks:=t' }:=I.un (Un.write mu he k heo) (I.hok.write mu he k heo new)
theorem Inv.weak (I:Inv X pins σ H s) (hl:σ'.length = σ.length) (w:∀ (i:Nat) v,σ'[i]? = some (some v)->σ[i]? = some (some v)):Inv X pins σ' H s:=
 ⟨I.ok,I.os,I.bare,I.base,let ⟨m,hn,hl'⟩:=I.loc;⟨m,hn,fun i x v e1 e2 e3=>hl' i x v e1 (w i v e2) e3⟩,I.cell,I.free,I.freeC,I.pin,I.hok,hl.trans I.len⟩
theorem Inv.pins_of (I:Inv X pins σ H s) (h:∀ p ∈ pins',s.heap.get? p.1 = some p.2/\H p.1 = none/\p.1 ≠ X.env.locals/\p.1 ∉ X.fs/\∀ v,p.2.data ≠ .cell v):Inv X pins' σ H s:=
 ⟨I.ok,I.os,I.bare,I.base,I.loc,I.cell,I.free,I.freeC,fun p hp=>(YAR.mp hp).elim (fun z=>I.pin p (YCc _ z)) (h p),I.hok,I.len⟩
theorem zhl {N:List Str} (hN:N.Nodup) {i j:Nat} {x:Str} (a:N[i]? = some x) (b:N[j]? = some x):i = j:=by
 obtain ⟨h1,e1⟩:=YAe.mp a
 obtain ⟨h2,e2⟩:=YAe.mp b
 exact (List.getElem_inj hN).mp (e1.trans e2.symm)
theorem zhJ {M:Model} {A:Around} {E:Value->Shared->Prop} {i:Nat} {x:Str} {v:V} {u:Value} {Q:Unit->Shared->Prop} (I:Inv X pins σ H s) (hN:X.N.Nodup) (hi:X.N[i]? = some x) (hx:Loc X.env.scope x) (r:RelV v u)
  (h:∀ s',Inv X pins (σ.set i (some v)) H s'->(∃ a,Heap.SameBut a s.heap s'.heap/\(a = X.env.locals\/X.env.cells.lookup x = some a))->Q () s') (hf:X.fn x = true\/X.env.scope.names.lookup x = some .local:=by first | exact .inl rfl | exact .inr rfl | assumption):wpAny M A (storeName X.env x u) Q E s:=by
 obtain ⟨m,hn,hl⟩:=id I.loc
 have hcls:(X.env.scope.kind == .class || (X.env.scope.kind == .module && X.env.locals != X.env.globals)) = false:=by rw [I.ok.kind];rfl
 have hiσ:i < σ.length:=by rw [I.len];exact (YAe.mp hi).1
 have cne:=I.cne
 have tracked:∀ {a:Addr} {h':Heap},(∃ o,s.heap.get? a = some o/\H a = none)->Heap.SameBut a s.heap h'->HOk X.prog X.w H h':=fun {a h'} ha hs b ob e=>by
  obtain ⟨_,_,hfree⟩:=ha
  refine (I.hok b ob e).stay (fun c w' hc q=>(hs.2 c ?_).trans q) (fun _ q=>q) fun _ _ q=>q
  rintro rfl
  rcases hc with rfl | hc
  ·rw [hfree] at e;cases e
  ·rw [hfree] at hc;cases hc
 rcases hx with hk | hk
 ·refine wpAny_storeName_local hk hn (fun h' hn' hs=>?_) hcls
  obtain ⟨oL,_,_,hoL,_⟩:=id hn
  refine h _ ⟨I.ok,I.os,I.bare,⟨fun b o e n hb hx=>?_,fun b o e n hb hx=>?_,I.base.free,fun b o e hx=>?_,I.base.tups,I.base.frzs,I.base.tbls⟩,⟨_,hn',fun j y v' e1 e2 e3=>?_⟩,fun y c e=>?_,I.free,I.freeC,fun p hp=>?_,tracked ⟨oL,hoL,I.free⟩ hs,by simpa using I.len⟩ ⟨_,hs,.inl rfl⟩
  ·exact (hs.2 b (YAp (YAl (YAg e) I.ok.above))).trans (I.base.keep b o e n hb hx)
  ·obtain ⟨sl,e1⟩:=I.base.slot b o e n hb hx
   exact ⟨sl,(hs.2 b (YAp (YAl (YAg e) I.ok.above))).trans e1⟩
  ·obtain ⟨o',e1⟩:=I.base.there b o e hx
   exact ⟨o',(hs.2 b (YAp (YAl (YAg e) I.ok.above))).trans e1⟩
  ·by_cases hj:j = i
   ·subst hj
    rw [hi] at e1;cases e1
    rw [YAh hiσ] at e2
    cases e2
    exact ⟨u,r,.inl ⟨hk,by simp⟩⟩
   ·rw [YAi (YAH hj)] at e2
    obtain ⟨u',r',q⟩:=hl j y v' e1 e2 e3
    refine ⟨u',r',?_⟩
    rcases q with ⟨k,e⟩ | ⟨k,c,e,z⟩
    ·refine .inl ⟨k,?_⟩
     have:y ≠ x:=fun e=>hj (zhl hN e1 (e ▸ hi))
     simp [this,e]
    ·exact .inr ⟨k,c,e,z.sameBut hs (cne y c e)⟩
  ·obtain ⟨w',z⟩:=I.cell y c e
   exact ⟨w',z.sameBut hs (cne y c e)⟩
  ·obtain ⟨e,n,ne,nf,d⟩:=I.pin p hp
   exact ⟨(hs.2 p.1 ne).trans e,n,ne,nf,d⟩
 ·have hfn:X.fn x = true:=by
   rcases hf with z | z
   ·exact z
   ·rw [z] at hk;cases hk
  obtain ⟨c,hc⟩:=I.ok.has x (.inl hk)
  obtain ⟨w',z⟩:=I.cell x c hc
  refine wpAny_storeName_cell I.ok.kind hk hc z (fun h' hc' hs=>?_)
  obtain ⟨oc,hoc,hocd⟩:=id z
  refine h { s with heap:=h' } ⟨I.ok,I.os,I.bare,⟨fun b o e n hb hx=>?_,fun b o e n hb hx=>?_,I.base.free,fun b o e hx=>?_,I.base.tups,I.base.frzs,I.base.tbls⟩,⟨m,hn.sameBut hs (YAH (cne x c hc)),fun j y v' e1 e2 e3=>?_⟩,fun y c' e=>?_,I.free,I.freeC,fun p hp=>?_,tracked ⟨oc,hoc,I.freeC x c hc⟩ hs,by simpa using I.len⟩ ⟨c,hs,.inr hc⟩
  ·exact (hs.2 b (YAp (YAl (YAg e) (I.ok.cab x c hfn hc)))).trans (I.base.keep b o e n hb hx)
  ·obtain ⟨sl,e1⟩:=I.base.slot b o e n hb hx
   exact ⟨sl,(hs.2 b (YAp (YAl (YAg e) (I.ok.cab x c hfn hc)))).trans e1⟩
  ·obtain ⟨o',e1⟩:=I.base.there b o e hx
   exact ⟨o',(hs.2 b (YAp (YAl (YAg e) (I.ok.cab x c hfn hc)))).trans e1⟩
  ·by_cases hj:j = i
   ·subst hj
    rw [hi] at e1;cases e1
    rw [YAh hiσ] at e2
    cases e2
    exact ⟨u,r,.inr ⟨.inl hk,c,hc,hc'⟩⟩
   ·rw [YAi (YAH hj)] at e2
    obtain ⟨u',r',q⟩:=hl j y v' e1 e2 e3
    refine ⟨u',r',?_⟩
    rcases q with q | ⟨k,c',e,z'⟩
    ·exact .inl q
    ·refine .inr ⟨k,c',e,z'.sameBut hs ?_⟩
     rintro rfl
     exact hj (zhl hN e1 (I.ok.inj _ _ _ e hc ▸ hi))
  ·by_cases hcc:c' = c
   ·subst hcc;exact ⟨_,hc'⟩
   ·obtain ⟨w2,z2⟩:=I.cell y c' e
    exact ⟨w2,z2.sameBut hs hcc⟩
  ·obtain ⟨e,n,ne,nf,d⟩:=I.pin p hp
   refine ⟨(hs.2 p.1 ?_).trans e,n,ne,nf,d⟩
   intro q
   rw [q,hoc] at e
   have q':oc = p.2:=Option.some.inj e
   exact d w' (by rw [<- q'];exact hocd)
theorem zem {M:Model} {A:Around} {E:Value->Shared->Prop} {i:Nat} {x:Str} {v:V} {u:Value} {Q:Unit->Shared->Prop} (I:Inv X pins σ H s) (hN:X.N.Nodup) (hi:X.N[i]? = some x) (hx:Loc X.env.scope x) (r:RelV v u)
  (h:∀ s',Inv X pins (σ.set i (some v)) H s'->Q () s') (hf:X.fn x = true\/X.env.scope.names.lookup x = some .local:=by first | exact .inl rfl | exact .inr rfl | assumption):wpAny M A (storeName X.env x u) Q E s:=
 zhJ I hN hi hx r (fun s' I' _=>h s' I') hf
theorem Inv.call'  (I:Inv X pins σ H s) (ho:s'.os = s.os) (u:Un (frs X.stack) ch H H' s.heap s'.heap) (hok:HOk X.prog X.w H' s'.heap) (hg:AllBare s'.gens)
  (hch:∀ b ∈ ch,(b ∈ X.ex\/X.s₀.heap.objs.size <= b)/\b ≠ X.env.locals/\(∀ x c,X.env.cells.lookup x = some c->c ≠ b)/\∀ p ∈ X.pn ++ pins,p.1 ≠ b):Inv X pins σ H' s':=by
 obtain ⟨h',g',d',t',o'⟩:=s'
 have e:o' = s.os:=ho
 subst e
 exact I.call (g':=g') (t':=t') (d':=d') u hok hg hch
end
abbrev XK:=Value->Option Addr->Hp->Prop
abbrev St:=List (Option V)
abbrev VK:=V->Hp->Prop
abbrev TE:=St->Hp->VK->Prop
abbrev TT:=St->Hp->(Bool->Hp->Prop)->Prop
abbrev TA:=St->Hp->(List V->Hp->Prop)->Prop
structure Ends where
 nx:St->Hp->Prop
 rt:VK
 bk:St->Hp->Prop:=fun _ _=>False
 ct:St->Hp->Prop:=fun _ _=>False
abbrev TS:=Ends->St->Hp->Prop
def EP (X:Cx) (pins:List (Addr × Obj)) (σ:St) (Q:VK) (u:Value) (s':Shared):Prop:=∃ v H',Inv X pins σ H' s'/\RelV v u/\Q v H'
def TP (X:Cx) (pins:List (Addr × Obj)) (σ:St) (Q:Bool->Hp->Prop) (b:Bool) (s':Shared):Prop:=∃ H',Inv X pins σ H' s'/\Q b H'
def AP (X:Cx) (pins:List (Addr × Obj)) (σ:St) (Q:List V->Hp->Prop) (us:List Value) (s':Shared):Prop:=∃ vs H',Inv X pins σ H' s'/\Vals vs us/\Q vs H'
def SP (X:Cx) (pins:List (Addr × Obj)) (D:Ends) (f:Flow) (s':Shared):Prop:=
 match f with
 | .next=>∃ σ' H',Inv X pins σ' H' s'/\D.nx σ' H'
 | .brk=>∃ σ' H',Inv X pins σ' H' s'/\D.bk σ' H'
 | .cont=>∃ σ' H',Inv X pins σ' H' s'/\D.ct σ' H'
 | .ret u=>∃ v σ' H',Inv X pins σ' H' s'/\RelV v u/\D.rt v H'
def PE (X:Cx) (e:Expr) (t:TE):Prop:=
 ∀ (pins:List (Addr × Obj)) (s:Shared) (σ:St) (H:Hp) (Q:VK),Inv X pins σ H s->t σ H Q->wpAny (model X.prog X.w) X.A (eval e X.env) (EP X pins σ Q) X.xe s
def PT (X:Cx) (e:Expr) (t:TT):Prop:=
 ∀ (pins:List (Addr × Obj)) (s:Shared) (σ:St) (H:Hp) (Q:Bool->Hp->Prop),Inv X pins σ H s->t σ H Q->wpAny (model X.prog X.w) X.A (isTrue e X.env (eval e X.env)) (TP X pins σ Q) X.xe s
def PW (X:Cx) (e:Expr) (t:TT):Prop:=
 ∀ (whole:Sem Value) (pins:List (Addr × Obj)) (s:Shared) (σ:St) (H:Hp) (Q:Bool->Hp->Prop),Inv X pins σ H s->t σ H Q->wpAny (model X.prog X.w) X.A (isTrue e X.env whole) (TP X pins σ Q) X.xe s
theorem PW.pt {X:Cx} {e:Expr} {t:TT} (h:PW X e t):PT X e t:=h _
def PA (X:Cx) (es:List Expr) (t:TA):Prop:=
 ∀ (pos:Pos) (pins:List (Addr × Obj)) (s:Shared) (σ:St) (H:Hp) (Q:List V->Hp->Prop),Inv X pins σ H s->t σ H Q->wpAny (model X.prog X.w) X.A (spliced (backTo pos (starEach es X.env))) (AP X pins σ Q) X.xe s
def PS (X:Cx) (st:Stmt) (t:TS):Prop:=
 ∀ (pins:List (Addr × Obj)) (s:Shared) (σ:St) (H:Hp) (D:Ends),Inv X pins σ H s->t D σ H->wpAny (model X.prog X.w) X.A (exec st X.env) (SP X pins D) X.xe s
def PSs (X:Cx) (st:List Stmt) (t:TS):Prop:=
 ∀ (pins:List (Addr × Obj)) (s:Shared) (σ:St) (H:Hp) (D:Ends),Inv X pins σ H s->t D σ H->wpAny (model X.prog X.w) X.A (execs st X.env) (SP X pins D) X.xe s
theorem thn {α:Type} {t:Sem α} {Q Q':α->Shared->Prop} {M:Model} {A:Around} {E:Value->Shared->Prop} {s:Shared} (h:wpAny M A t Q E s) (hQ:∀ a s,Q a s->Q' a s):wpAny M A t Q' E s:=YAL h hQ fun _ _ x=>x
section
variable {X:Cx}
def tVar (i:Nat):TE:=fun σ H Q=>∃ v,σ[i]? = some (some v)/\Q v H
def tC (v:V):TE:=fun _ H Q=>Q v H
theorem zbe  (hN:X.N[i]? = some x) (hv:Vis X.env.scope x) (hd:(x == ("__debug__" : Str)) = false:=by decide) (hcd:(x == ("__classdict__" : Str)) = false:=by decide):PE X (.Name x pos) (tVar i):=by
 intro pins s σ H Q I h
 obtain ⟨v,e,h⟩:=h
 obtain ⟨m,hn,hl⟩:=I.loc
 obtain ⟨u,r,l⟩:=hl i x v hN e hv
 have fin:EP X pins σ Q u s:=⟨v,H,I,r,h⟩
 rcases l with ⟨hk,hm⟩ | ⟨hk,c,hc,hcell⟩
 ·exact YCv (wpAny_loadName_local I.ok.kind hk hn hm fin) hd
 ·rcases hk with hk | hk
  ·exact YCv (wpAny_loadName_cell I.ok.kind hk hc hcell fin) hd
  ·exact YCv (wpAny_loadName_free I.ok.kind hk hc hcell fin hcd) hd
theorem zaN {i j pos}:PE X (.Constant (.int i) j pos) (tC (.int i)):=fun _ _ _ H _ I h=>wpAny_Constant_int ⟨.int i,H,I.tok _,⟨_,rfl⟩,h⟩
theorem zsX {b j pos}:PE X (.Constant (.bool b) j pos) (tC (.bl b)):=fun _ _ _ H _ I h=>Constant_bool ⟨.bl b,H,I,rfl,h⟩
theorem zr5 {j pos}:PE X (.Constant .none j pos) (tC .non):=fun _ _ _ H _ I h=>Constant_none ⟨.non,H,I,rfl,h⟩
theorem zoT {x j pos}:PE X (.Constant (.str x) j pos) (tC (.str x)):=fun _ _ _ H _ I h=>Calls.Constant_str ⟨.str x,H,I.tok _,⟨_,rfl⟩,h⟩
def Gl (X:Cx) (x:Str):Prop:=X.env.kindOf x = some .globalImplicit
theorem zdh {E:Value->Shared->Prop} {pins:List (Addr × Obj)} {s:Shared} {σ:St} {H:Hp} {x:Str} {u:Value} {pos:Pos} {Q:Value->Shared->Prop} (I:Inv X pins σ H s) (hg:Gl X x) (hm:X.mg x = some u) (h:Q u s)
  (hd:(x == ("__debug__" : Str)) = false:=by decide):wpAny (model X.prog X.w) X.A (eval (.Name x pos) X.env) Q E s:=
 Calls.Name_function_global I.ok.kind hg (Calls.loadGlobal_global (by rw [I.ok.glob];exact I.mod.glob.keeps I.bk) hm h) hd
theorem zgo {E:Value->Shared->Prop} {pins:List (Addr × Obj)} {s:Shared} {σ:St} {H:Hp} {x:Str} {u:Value} {pos:Pos} {Q:Value->Shared->Prop} (I:Inv X pins σ H s) (hg:Gl X x) (hm:X.mg x = none) (hv:bootBuiltins x = some u) (h:Q u s)
  (hn:x ≠ "__name__" := by decide) (hd:(x == ("__debug__" : Str)) = false:=by decide):wpAny (model X.prog X.w) X.A (eval (.Name x pos) X.env) Q E s:=by
 obtain ⟨mb,h1,h2⟩:=I.mod.blt
 exact Calls.Name_function_global I.ok.kind hg (Calls.loadGlobal_builtin (by rw [I.ok.glob];exact I.mod.glob.keeps I.bk) hm (by rw [I.ok.blt];exact h1.keeps I.bk) ((h2 x hn).trans hv) h) hd
theorem ziH   (hg:Gl X x) (hm:X.mg x = some u) (r:RelV v u) (hd:(x == ("__debug__" : Str)) = false:=by decide):PE X (.Name x pos) (tC v):=
 fun _ _ _ H _ I h=>zdh I hg hm ⟨v,H,I,r,h⟩ hd
theorem zlf   (hg:Gl X x) (hm:X.mg x = none) (hv:bootBuiltins x = some u) (r:RelV v u) (hn:x ≠ "__name__" := by decide) (hd:(x == ("__debug__" : Str)) = false:=by decide):PE X (.Name x pos) (tC v):=
 fun _ _ _ H _ I h=>zgo I hg hm hv ⟨v,H,I,r,h⟩ hn hd
variable {a b:Expr} {ta tb:TE} {pos:Pos}
def PC (X:Cx) (op:CmpOp) (a b:Expr) (t:TE):Prop:=
 ∀ (pins:List (Addr × Obj)) (s:Shared) (σ:St) (H:Hp) (Q:VK),Inv X pins σ H s->t σ H Q ->
  wpAny (model X.prog X.w) X.A (eval a X.env) (fun v s₁=>wpAny (model X.prog X.w) X.A (eval b X.env) (fun u s₂=>wpAny (model X.prog X.w) X.A (compareOp op v u) (EP X pins σ Q) X.xe s₂) X.xe s₁) X.xe s
theorem zjU (b:Expr) {op:CmpOp} (h:op ≠ .In) (h2:op ≠ .NotIn):behindInMarks op b = false:=by
 have e1:(op == CmpOp.In) = false:=by cases op <;> first | rfl | exact absurd rfl h
 have e2:(op == CmpOp.NotIn) = false:=by cases op <;> first | rfl | exact absurd rfl h2
 cases b <;> simp [behindInMarks,e1,e2]
def tIsN (ta:TE):TE:=fun σ H Q=>ta σ H fun x H1=>Q (.bl (decide (x = .non))) H1
theorem RelV.none_iff {x:V} {v:Value} (r:RelV x v):(v == Value.none) = decide (x = .non):=by
 cases x with
 | non=>cases r;rfl
 | bl _=>cases r;rfl
 | int _=>obtain ⟨t,rfl⟩:=r;rfl
 | str _=>obtain ⟨t,rfl⟩:=r;rfl
 | byt _=>obtain ⟨t,rfl⟩:=r;rfl
 | flt _=>obtain ⟨t,rfl⟩:=r;rfl
 | ref _=>cases r;rfl
 | ty _=>cases r;rfl
theorem zoL {j pos'} (ha:PE X a ta):PC X .Is a (.Constant .none j pos') (tIsN ta):=by
 intro pins s σ H Q I h
 refine thn (ha pins s σ H _ I h) fun v s1 ⟨x,H1,I1,r1,q1⟩=>?_
 exact Constant_none (is_none_gen ⟨.bl _,H1,I1,by rw [r1.none_iff];rfl,q1⟩)
def tB (t:TE):TT:=fun σ H Q=>t σ H fun x H1=>∃ c,x = .bl c/\Q c H1
theorem zrN  (h:PC X op a b t) (h1:behindInMarks op b = false:=by first | exact zjU _ (by decide) (by decide) | rfl):PE X (.Compare a [op] [b] pos) t:=fun pins s σ H Q I hw=>wpAny_Compare1 (h pins s σ H Q I hw) h1
theorem zmx {op:CmpOp} {t:TE} (h:PC X op a b t) (h1:behindInMarks op b = false:=by first | exact zjU _ (by decide) (by decide) | rfl):PT X (.Compare a [op] [b] pos) (tB t):=by
 intro pins s σ H Q I hw
 refine wpAny_isTrue_Compare1 (thn (h pins s σ H _ I hw) fun v s1 h1=>thn h1 fun u s2 h2=>thn h2 fun c s3 ⟨x,H1,I1,r1,q1⟩=>?_) h1
 obtain ⟨d,rfl,q⟩:=q1
 cases r1
 exact YAV ⟨H1,I1,q⟩
variable {tA tB':TT} {rest:List Expr}
def tOr (t u:TT):TT:=fun σ H Q=>t σ H fun c H1=>if c = true then Q true H1 else u σ H1 Q
def tNot (t:TT):TT:=fun σ H Q=>t σ H fun c H1=>Q (!c) H1
theorem zqI (ha:PT X a tA):PW X (.BoolOp .Or [a] pos) tA:=by
 intro wh pins s σ H Q I h
 refine isTrue_or (thn (ha pins s σ H Q I h) fun c s1 e=>?_)
 cases c with
 | false=>exact isTrue_or_nil e
 | true=>exact e
theorem ztz (ha:PT X a tA) (hb:PW X (.BoolOp .Or (b :: rest) pos) tB'):PW X (.BoolOp .Or (a :: b :: rest) pos) (tOr tA tB'):=by
 intro wh pins s σ H Q I h
 refine isTrue_or (thn (ha pins s σ H _ I h) fun c s1 ⟨H1,I1,q1⟩=>?_)
 cases c with
 | true=>exact ⟨H1,I1,q1⟩
 | false=>exact hb wh pins s1 σ H1 Q I1 q1
theorem zoO (ha:PT X a tA):PT X (.UnaryOp .Not a pos) (tNot tA):=by
 intro pins s σ H Q I h
 exact isTrue_not (ha pins s σ H (fun c H1=>Q (!c) H1) I h)
def ztq (ta tb:TE):TE:=fun σ H Q=>ta σ H fun x H1=>∃ c,x = .bl c/\if c = true then tb σ H1 Q else Q (.bl false) H1
def zs7 (ta:TE):TE:=fun σ H Q=>ta σ H fun x H1=>∃ c,x = .bl c/\Q (.bl (!c)) H1
theorem zq6 {op} (h:PE X a t):PE X (.BoolOp op [a] pos) t:=fun pins s σ H Q I hw=>BoolOp_one (h pins s σ H Q I hw)
theorem zqH (ha:PE X a ta) (hb:PE X (.BoolOp .And (b :: rest) pos) tb):PE X (.BoolOp .And (a :: b :: rest) pos) (ztq ta tb):=by
 intro pins s σ H Q I h
 refine BoolOp_and (thn (ha pins s σ H _ I h) fun v s1 ⟨x,H1,I1,r1,q1⟩=>?_)
 obtain ⟨c,rfl,q1⟩:=q1
 cases r1
 refine YAV ?_
 cases c with
 | true=>exact hb pins s1 σ H1 Q I1 q1
 | false=>exact ⟨.bl false,H1,I1,rfl,q1⟩
theorem zq2 (ha:PE X a ta):PE X (.UnaryOp .Not a pos) (zs7 ta):=by
 intro pins s σ H Q I h
 refine UnaryOp_ (thn (ha pins s σ H _ I h) fun v s1 ⟨x,H1,I1,r1,q1⟩=>?_)
 obtain ⟨c,rfl,q1⟩:=q1
 cases r1
 exact not_of (YAV ⟨.bl (!c),H1,I1,rfl,q1⟩)
end
def SqL (K:PySem.W.Frag) (H:Hp) (a:Addr) (xs:List V):Prop:=
 Rd H a (.lst xs) \/
  ∃ (o:Obj) (its:Array Value) (n:Nat),K.lookup a = some o/\o.cls = .type "list" /\ o.dict = none/\o.data = .seq its n/\its.size <= sizeLine/\Vals xs its.toList
def SqT (K:PySem.W.Frag) (H:Hp) (a:Addr) (xs:List V):Prop:=
 Rd H a (.tup xs) \/
  ∃ (o:Obj) (its:Array Value) (n:Nat),K.lookup a = some o/\o.cls = .type "tuple" /\ o.data = .seq its n/\its.size <= sizeLine/\Vals xs its.toList
def absV:Value->Option V
 | .none=>some .non
 | .bool b=>some (.bl b)
 | .int i _=>some (.int i)
 | .str x _=>some (.str x)
 | .bytes b _=>some (.byt b)
 | .float b _=>some (.flt b)
 | .ref a=>some (.ref a)
 | .type n=>some (.ty n)
 | _=>none
theorem RelV.abs  (r:RelV x u):absV u = some x:=by
 cases x with
 | non=>cases r;rfl
 | bl _=>cases r;rfl
 | int _=>obtain ⟨t,rfl⟩:=r;rfl
 | str _=>obtain ⟨t,rfl⟩:=r;rfl
 | byt _=>obtain ⟨t,rfl⟩:=r;rfl
 | flt _=>obtain ⟨t,rfl⟩:=r;rfl
 | ref _=>cases r;rfl
 | ty _=>cases r;rfl
theorem RelV.inj {x y:V} {u:Value} (r:RelV x u) (q:RelV y u):x = y:=Option.some.inj (r.abs.symm.trans q.abs)
theorem Vals.inj:∀ {xs ys:List V} {us:List Value},Vals xs us->Vals ys us->xs = ys
 | _,_,_,.nil,.nil=>rfl
 | _,_,_,.cons r t,.cons r' t'=>by rw [r.inj r',Vals.inj t t']
section
variable {X:Cx} {pins:List (Addr × Obj)} {σ:St} {H:Hp} {s:Shared} {a:Addr} {xs ys:List V}
theorem SqL.of {K:PySem.W.Frag} (h:H a = some (.lst xs)):SqL K H a xs:=.inl (.inl h)
theorem SqT.of {K:PySem.W.Frag} (h:H a = some (.tup xs)):SqT K H a xs:=.inl (.inl h)
theorem Inv.list (I:Inv X pins σ H s) (h:SqL X.K H a xs):∃ its:List Value,Vals xs its/\PlainL s.heap a its.toArray/\xs.length <= sizeLine:=by
 rcases h with h | ⟨o,its,n,hk,hc,hd,hs,hz,r⟩
 ·obtain ⟨z,its,n,r,e⟩:=h.ok I.hok
  exact ⟨its,r,⟨_,n,e,rfl,rfl,rfl⟩,z⟩
 ·refine ⟨its.toList,r,⟨o,n,I.kIn a o hk,hc,hd,by simpa using hs⟩,?_⟩
  have e:=r.length
  simp only [YA8] at e
  omega
theorem Inv.tuple (I:Inv X pins σ H s) (h:SqT X.K H a xs):∃ its:List Value,Vals xs its/\IsTup s.heap a its.toArray/\xs.length <= sizeLine:=by
 rcases h with h | ⟨o,its,n,hk,hc,hs,hz,r⟩
 ·obtain ⟨z,its,r,p⟩:=h.ok I.hok
  exact ⟨its,r,p,z⟩
 ·refine ⟨its.toList,r,⟨o,I.kIn a o hk,hc,n,by simpa using hs⟩,?_⟩
  have e:=r.length
  simp only [YA8] at e
  omega
theorem Inv.list_inj (I:Inv X pins σ H s) (h:SqL X.K H a xs) (h':SqL X.K H a ys):xs = ys:=by
 obtain ⟨its,r,⟨o,n,e,_,_,d⟩,_⟩:=I.list h
 obtain ⟨its',r',⟨o',n',e',_,_,d'⟩,_⟩:=I.list h'
 rw [e] at e';cases e'
 rw [d] at d'
 injection d' with d1 _
 have:its = its':=by simpa using congrArg Array.toList d1
 subst this
 exact r.inj r'
theorem Inv.tuple_inj (I:Inv X pins σ H s) (h:SqT X.K H a xs) (h':SqT X.K H a ys):xs = ys:=by
 obtain ⟨its,r,⟨o,e,_,n,d⟩,_⟩:=I.tuple h
 obtain ⟨its',r',⟨o',e',_,n',d'⟩,_⟩:=I.tuple h'
 rw [e] at e';cases e'
 rw [d] at d'
 injection d' with d1 _
 have:its = its':=by simpa using congrArg Array.toList d1
 subst this
 exact r.inj r'
end
abbrev Cx.wish (X:Cx) (E:Value->Shared->Prop):Cx:={ X with xe:=E }
abbrev Cx.nox (X:Cx):Cx:=X.wish fun _ _=>False
theorem Cx.Ok.wish {X:Cx} (ok:X.Ok) (E:Value->Shared->Prop):(X.wish E).Ok:=
 ⟨ok.mod,ok.kind,ok.glob,ok.blt,ok.above,ok.inj,ok.has,ok.cab,ok.hd,ok.frames,ok.stk,ok.exf,ok.bs,ok.bsz,ok.noex,ok.exfs,ok.funs,ok.frf⟩
theorem Cx.Ok.unwish {X:Cx} {E:Value->Shared->Prop} (ok:(X.wish E).Ok):X.Ok:=
 ⟨ok.mod,ok.kind,ok.glob,ok.blt,ok.above,ok.inj,ok.has,ok.cab,ok.hd,ok.frames,ok.stk,ok.exf,ok.bs,ok.bsz,ok.noex,ok.exfs,ok.funs,ok.frf⟩
section
variable {X:Cx} {pins:List (Addr × Obj)} {σ:St} {H:Hp} {s:Shared} {E:Value->Shared->Prop}
theorem Inv.wish (I:Inv X pins σ H s) (E:Value->Shared->Prop):Inv (X.wish E) pins σ H s:=⟨I.ok.wish E,I.os,I.bare,I.base,I.loc,I.cell,I.free,I.freeC,I.pin,I.hok,I.len⟩
theorem Inv.unwish (I:Inv (X.wish E) pins σ H s):Inv X pins σ H s:=⟨I.ok.unwish,I.os,I.bare,I.base,I.loc,I.cell,I.free,I.freeC,I.pin,I.hok,I.len⟩
theorem SP.unwish  (h:SP (X.wish E) pins D f s'):SP X pins D f s':=by
 cases f with
 | next=>obtain ⟨σ',H',I,q⟩:=h;exact ⟨σ',H',I.unwish,q⟩
 | brk=>obtain ⟨σ',H',I,q⟩:=h;exact ⟨σ',H',I.unwish,q⟩
 | cont=>obtain ⟨σ',H',I,q⟩:=h;exact ⟨σ',H',I.unwish,q⟩
 | ret u=>obtain ⟨v,σ',H',I,r,q⟩:=h;exact ⟨v,σ',H',I.unwish,r,q⟩
theorem PE.nox  (h:PE X.nox e t):PE X e t:=fun pins s σ H Q I hw=>
 YAL (h pins s σ H Q (I.wish _) hw) (fun _ _ ⟨v,H',I',r,q⟩=>⟨v,H',I'.unwish,r,q⟩) fun _ _ z=>False.elim z
theorem PT.nox  (h:PT X.nox e t):PT X e t:=fun pins s σ H Q I hw=>
 YAL (h pins s σ H Q (I.wish _) hw) (fun _ _ ⟨H',I',q⟩=>⟨H',I'.unwish,q⟩) fun _ _ z=>False.elim z
theorem PSs.nox {st:List Stmt} {t:TS} (h:PSs X.nox st t):PSs X st t:=fun pins s σ H D I hw=>
 YAL (h pins s σ H D (I.wish _) hw) (fun _ _ q=>q.unwish) fun _ _ z=>False.elim z
end
section
variable {X:Cx} {st:Stmt} {rest:List Stmt} {t u:TS} {e:Expr} {te:TE} {pos:Pos}
def ztd:TS:=fun D σ H=>D.nx σ H
def tSeq (t u:TS):TS:=fun D σ H=>t { D with nx:=u D } σ H
theorem zfw:PSs X [] ztd:=fun _ _ σ H _ I h=>YBC ⟨σ,H,I,h⟩
theorem zaJ (h1:PS X st t) (h2:PSs X rest u):PSs X (st :: rest) (tSeq t u):=by
 intro pins s σ H D I h
 refine YB8 (thn (h1 pins s σ H { D with nx:=u D } I h) fun f s1 q=>?_)
 cases f with
 | next=>
  obtain ⟨σ',H',I',q⟩:=q
  exact h2 pins s1 σ' H' D I' q
 | ret v=>exact q
 | brk=>exact q
 | cont=>exact q
theorem zdc (h1:PS X st t):PSs X [st] t:=by
 intro pins s σ H D I h
 refine YB8 (thn (h1 pins s σ H D I h) fun f s1 q=>?_)
 cases f with
 | next=>exact YBC q
 | ret v=>exact q
 | brk=>exact q
 | cont=>exact q
theorem Inv.quiet {pins:List (Addr × Obj)} {σ:St} {H:Hp} {s:Shared} (I:Inv X pins σ H s):interactive X.env = false:=by simp [interactive,I.ok.kind]
def ztF (te:TE):TS:=fun D σ H=>te σ H fun _ H1=>D.nx σ H1
theorem zmf (he:PE X e te) (hs:swapsWith e none pos.line X.env = pure false:=by rfl):PS X (.Expr e pos) (ztF te):=by
 intro pins s σ H D I h
 exact wpAny_Expr_any (thn (he pins s σ H _ I h) fun v s1 ⟨x,H1,I1,r1,q1⟩=>⟨σ,H1,I1,q1⟩) I.quiet hs
def tRet (te:TE):TS:=fun D σ H=>te σ H D.rt
theorem ze2 (he:PE X e te):PS X (.Return (some e) pos) (tRet te):=by
 intro pins s σ H D I h
 exact wpAny_Return_some (thn (he pins s σ H _ I h) fun v s1 ⟨x,H1,I1,r1,q1⟩=>⟨x,σ,H1,I1,r1,q1⟩)
def tIfS (c:TT) (t u:TS):TS:=fun D σ H=>c σ H fun b H1=>if b = true then t D σ H1 else u D σ H1
theorem zkw {c:Expr} {a b:List Stmt} {tc:TT} (hc:PT X c tc) (ha:PSs X a t) (hb:PSs X b u):PS X (.If c a b pos) (tIfS tc t u):=by
 intro pins s σ H D I h
 refine wpAny_If (thn (hc pins s σ H _ I h) fun d s1 ⟨H1,I1,q1⟩=>?_)
 cases d with
 | true=>exact ha pins s1 σ H1 D I1 q1
 | false=>exact hb pins s1 σ H1 D I1 q1
end
abbrev TG:=V->St->Hp->(St->Hp->Prop)->Prop
abbrev TGs:=List V->St->Hp->(St->Hp->Prop)->Prop
def PG (X:Cx) (target:Expr) (t:TG):Prop:=
 ∀ (pins:List (Addr × Obj)) (s:Shared) (σ:St) (H:Hp) (v:V) (u:Value) (Q:St->Hp->Prop),Inv X pins σ H s->RelV v u->t v σ H Q ->
  wpAny (model X.prog X.w) X.A (assign target X.env u) (fun _ s'=>∃ σ' H',Inv X pins σ' H' s'/\Q σ' H') X.xe s
def PGs (X:Cx) (ts:List Expr) (t:TGs):Prop:=
 ∀ (pins:List (Addr × Obj)) (s:Shared) (σ:St) (H:Hp) (vs:List V) (us:List Value) (Q:St->Hp->Prop),Inv X pins σ H s->Vals vs us->t vs σ H Q ->
  wpAny (model X.prog X.w) X.A (assignInOrder ((assignEach ts X.env).map (·.2)) us) (fun _ s'=>∃ σ' H',Inv X pins σ' H' s'/\Q σ' H') X.xe s
abbrev TSet:=V->V->V->Hp->(Hp->Prop)->Prop
def PSet (X:Cx) (t:TSet):Prop:=
 ∀ (pins:List (Addr × Obj)) (s:Shared) (σ:St) (H:Hp) (o i v:V) (ov iv u:Value) (Q:Hp->Prop),Inv X pins σ H s->RelV o ov->RelV i iv->RelV v u->t o i v H Q ->
  wpAny (model X.prog X.w) X.A (setItem ov iv u) (fun _ s'=>∃ H',Inv X pins σ H' s'/\Q H') X.xe s
abbrev TIp:=V->V->Hp->VK->Prop
def PIp (X:Cx) (op:Operator) (t:TIp):Prop:=
 ∀ (pins:List (Addr × Obj)) (s:Shared) (σ:St) (H:Hp) (x y:V) (v u:Value) (Q:VK),Inv X pins σ H s->RelV x v->RelV y u->t x y H Q ->
  wpAny (model X.prog X.w) X.A (inplaceOp op v u) (EP X pins σ Q) X.xe s
section
variable {X:Cx} {pos:Pos}
def zhG (i:Nat):TG:=fun v σ H Q=>Q (σ.set i (some v)) H
theorem zqu  (hN:X.N.Nodup) (hi:X.N[i]? = some x) (hx:Loc X.env.scope x) (hf:X.fn x = true\/X.env.scope.names.lookup x = some .local:=by first | exact .inl rfl | exact .inr rfl | assumption):PG X (.Name x pos) (zhG i):=by
 intro pins s σ H v u Q I r h
 exact wpAny_assign_Name (zem I hN hi hx r (fun s' I'=>⟨_,H,I',h⟩) hf)
def gNil:TGs:=fun vs σ H Q=>vs = []/\Q σ H
def znB (t:TG) (u:TGs):TGs:=fun vs σ H Q=>∃ v r,vs = v :: r/\t v σ H fun σ' H'=>u r σ' H' Q
theorem zc1:PGs X [] gNil:=by
 intro pins s σ H vs us Q I r h
 obtain ⟨e,h⟩:=h
 subst e
 cases r
 exact assignInOrder_nil ⟨σ,H,I,h⟩
theorem zaA {e:Expr} {es:List Expr} {t:TG} {u:TGs} (h1:PG X e t) (h2:PGs X es u)
  (hs:(assignEach (e :: es) X.env).map (·.2) = assign e X.env :: (assignEach es X.env).map (·.2):=by rfl):PGs X (e :: es) (znB t u):=by
 intro pins s σ H vs us Q I r h
 obtain ⟨v,vr,e1,h⟩:=h
 subst e1
 cases r with
 | cons r rr=>
  rw [hs]
  refine assignInOrder_cons (thn (h1 pins s σ H _ _ _ I r h) fun _ s1 ⟨σ1,H1,I1,q1⟩=>?_)
  exact h2 pins s1 σ1 H1 _ _ Q I1 rr q1
def gTup (K:PySem.W.Frag) (n:Nat) (t:TGs):TG:=fun v σ H Q=>∃ a xs,v = .ref a/\SqT K H a xs/\xs.length = n/\t xs σ H Q
theorem zrR   (hc:X.calm = true) (h:PGs X es t)
  (hn:(assignEach es X.env).length = n:=by rfl) (hst:(assignEach es X.env).findIdx? (·.1) = none:=by rfl):PG X (.Tuple es k pos) (gTup X.K n t):=by
 intro pins s σ H v u Q I r hw
 obtain ⟨a,xs,e1,hq,hl,hw⟩:=hw
 subst e1
 cases r
 obtain ⟨its,rv,ht,hz⟩:=I.tuple hq
 refine assign_Tuple_tuple (I.ok.hd hc) ht (by simp [hn,<- hl,rv.length]) hst fun h' hx=>?_
 have I1:Inv X pins σ H { s with heap:=h' }:=I.kept (t':=s.toks) fun b o e=>hx b o (YAp (YAg e)) e
 exact h pins _ σ H xs _ Q I1 (by simpa using rv) hw
def gSub (to ti:TE) (t:TSet):TG:=fun v σ H Q=>to σ H fun o H1=>ti σ H1 fun i H2=>t o i v H2 fun H3=>Q σ H3
theorem zj7 {o i:Expr} {to ti:TE} {t:TSet} (ho:PE X o to) (hi:PE X i ti) (hs:PSet X t)
  (ha:∀ v,assign (.Subscript o i pos) X.env v = (do
   let ov <- holding [v] (eval o X.env)
   let iv <- holding [v,ov] (eval i X.env)
   standAt pos
   holding [v,ov,iv] (setItem ov iv v)
   release [v,ov,iv] []):=by intro _;rfl):PG X (.Subscript o i pos) (gSub to ti t):=by
 intro pins s σ H v u Q I r h
 rw [ha]
 refine YAa (YAN (thn (ho pins s σ H _ I h) fun ov s1 ⟨x,H1,I1,r1,q1⟩=>?_))
 refine YAa (YAN (thn (hi pins s1 σ H1 _ I1 q1) fun iv s2 ⟨y,H2,I2,r2,q2⟩=>?_))
 refine YAa (YCF (YAa (YAN (thn (hs pins s2 σ H2 x y v ov iv u _ I2 r1 r2 r q2) fun _ s3 ⟨H3,I3,q3⟩=>?_))))
 exact wpAny_release ⟨σ,H3,I3,q3⟩
def tAsg (te:TE) (g:TG):TS:=fun D σ H=>te σ H fun x H1=>g x σ H1 D.nx
theorem zin {tg e:Expr} {te:TE} {g:TG} (he:PE X e te) (hg:PG X tg g) (hs:swapsWithSole [tg] e pos.line X.env = pure false:=by rfl) (hw:swappedStores [tg] e X.env = pure none:=by rfl)
  (h1:(assignEach [tg] X.env).map (·.2) = [assign tg X.env]:=by rfl):PS X (.Assign [tg] e pos) (tAsg te g):=by
 intro pins s σ H D I h
 refine wpAny_Assign_stores (thn (he pins s σ H _ I h) fun v s1 ⟨x,H1,I1,r1,q1⟩=>?_) hs hw
 rw [h1]
 exact thn (hg pins s1 σ H1 x v _ I1 r1 q1) fun _ s2 q=>q
theorem zc3 {i:Nat} {x:Str} {e:Expr} {te:TE} {pos':Pos} (hN:X.N.Nodup) (hi:X.N[i]? = some x) (hx:Loc X.env.scope x) (he:PE X e te) (hs:swapsWith e (some (.Name x pos')) pos.line X.env = pure false:=by rfl) (hf:X.fn x = true\/X.env.scope.names.lookup x = some .local:=by first | exact .inl rfl | exact .inr rfl | assumption) :
  PS X (.Assign [.Name x pos'] e pos) (tAsg te (zhG i)):=by
 intro pins s σ H D I h
 refine YCw (thn (he pins s σ H _ I h) fun v s1 ⟨y,H1,I1,r1,q1⟩=>?_) hs
 exact zem I1 hN hi hx r1 (fun s2 I2=>⟨_,H1,I2,q1⟩) hf
def ztJ (to ti te:TE) (tget:V->V->Hp->VK->Prop) (tip:TIp) (tset:TSet):TS:=fun D σ H=>to σ H fun o H1=>ti σ H1 fun i H2=>tget o i H2 fun x H3=>te σ H3 fun y H4=>tip x y H4 fun z H5=>tset o i z H5 fun H6=>D.nx σ H6
def PGet (X:Cx) (t:V->V->Hp->VK->Prop):Prop:=
 ∀ (pins:List (Addr × Obj)) (s:Shared) (σ:St) (H:Hp) (o i:V) (ov iv:Value) (Q:VK),Inv X pins σ H s->RelV o ov->RelV i iv->t o i H Q ->
  wpAny (model X.prog X.w) X.A (getItem ov iv) (EP X pins σ Q) X.xe s
theorem zpH {o i e:Expr} {to ti te:TE} {tget:V->V->Hp->VK->Prop} {tip:TIp} {tset:TSet} {op:Operator} {tpos:Pos} (ho:PE X o to) (hi:PE X i ti) (hg:PGet X tget) (he:PE X e te) (hp:PIp X op tip) (hs:PSet X tset)
  (ha:∀ ov iv new,augStore i ov iv new = (do holding [new,ov,iv] (setItem ov iv new);release [new,ov,iv] [];pure .next):=by intros;rfl):PS X (.AugAssign (.Subscript o i tpos) op e pos) (ztJ to ti te tget tip tset):=by
 intro pins s σ H D I h
 refine wpAny_AugAssign_SubscriptAny (thn (ho pins s σ H _ I h) fun ov s1 ⟨x1,H1,I1,r1,q1⟩=>?_) ha
 refine thn (hi pins s1 σ H1 _ I1 q1) fun iv s2 ⟨x2,H2,I2,r2,q2⟩=>?_
 refine thn (hg pins s2 σ H2 x1 x2 ov iv _ I2 r1 r2 q2) fun old s3 ⟨x3,H3,I3,r3,q3⟩=>?_
 refine thn (he pins s3 σ H3 _ I3 q3) fun v s4 ⟨x4,H4,I4,r4,q4⟩=>?_
 refine thn (hp pins s4 σ H4 x3 x4 old v _ I4 r3 r4 q4) fun new s5 ⟨x5,H5,I5,r5,q5⟩=>?_
 exact thn (hs pins s5 σ H5 x1 x2 x5 ov iv new _ I5 r1 r2 r5 q5) fun _ s6 ⟨H6,I6,q6⟩=>⟨σ,H6,I6,q6⟩
def ipI (f:Int->Int->Int):TIp:=fun x y H Q=>∃ i j,x = .int i/\y = .int j/\Q (.int (f i j)) H
theorem zry:PIp X .Add (ipI fun i j=>i + j):=by
 intro pins s σ H x y v u Q I r1 r2 h
 obtain ⟨i,j,e1,e2,q⟩:=h
 subst e1;subst e2
 obtain ⟨t,rfl⟩:=r1
 obtain ⟨t',rfl⟩:=r2
 exact iadd_int ⟨.int _,H,I.tok _,⟨_,rfl⟩,q⟩
end
section
variable {X:Cx} {pos:Pos}
end
structure It where
 go:Nat->Hp->Prop
 yld:Nat->Hp->V->Hp->Prop
 stop:Nat->Hp->Prop
def FpOk (X:Cx) (pins:List (Addr × Obj)) (H:Hp) (b:Addr):Prop:=
 H b = none/\b ≠ X.env.locals/\b ∉ X.fs/\(b ∈ X.ex\/X.s₀.heap.objs.size <= b)/\(∀ x c,X.env.cells.lookup x = some c->c ≠ b)/\∀ p ∈ X.pn ++ pins,p.1 ≠ b
theorem Inv.fpOk {X:Cx} {pins:List (Addr × Obj)} {σ:St} {H H':Hp} {s:Shared} {b:Addr} (I:Inv X pins σ H s) (hb:s.heap.objs.size <= b) (hn:H' b = none):FpOk X pins H' b:=by
 refine ⟨hn,YBr (YAl I.lt hb),I.nofs hb,.inr (YAF I.sz hb),fun x c e z=>?_,fun p hp z=>?_⟩
 ·obtain ⟨v,q⟩:=I.cell x c e
  exact absurd (YAl q.lt (by rw [z];exact hb)) (YA3 _)
 ·exact absurd (YAl (YAg (I.pin p hp).1) (by rw [z];exact hb)) (YA3 _)
structure Turn (P:Program) (w:World) (K:PySem.W.Frag) (tg:Expr) (J:It) (fp:List Addr) (it:Addr) (tn:Nat->Heap->Prop):Prop where
 mem:it ∈ fp
 obj:∀ i h,tn i h->∀ b ∈ fp,∃ o,h.get? b = some o/\∀ v,o.data ≠ .cell v
 keep:∀ i h h',tn i h->(∀ b ∈ fp,∀ o,h.get? b = some o->h'.get? b = some o)->tn i h'
 item:∀ (X:Cx),X.prog = P->X.w = w->X.K = K->X.calm = true->∀ (i:Nat) (pins:List (Addr × Obj)) (s:Shared) (σ:St) (H:Hp) (E:Value->Shared->Prop),Inv X pins σ H s->(∀ b ∈ fp,FpOk X pins H b)->tn i s.heap->J.go i H ->
  wpAny (model P w) X.A (pyNext (.ref it)) (fun r s1=>∃ u,r = some u /\
   wpAny (model P w) X.A (letOwnedTupleGo tg (.ref it) u) (fun _ s2=>∃ x H',Inv X pins σ H' s2/\RelV x u/\J.yld i H x H'/\tn (i + 1) s2.heap/\∀ b ∈ fp,H' b = none) E s1) E s
 done:∀ (X:Cx),X.prog = P->X.w = w->X.K = K->X.calm = true->∀ (i:Nat) (pins:List (Addr × Obj)) (s:Shared) (σ:St) (H:Hp) (E:Value->Shared->Prop),Inv X pins σ H s->(∀ b ∈ fp,FpOk X pins H b)->tn i s.heap->J.stop i H ->
  wpAny (model P w) X.A (pyNext (.ref it)) (fun r s1=>r = none/\Inv X pins σ H s1) E s
 self:∀ (A:Around) (i:Nat) (s:Shared) (Q:Value->Shared->Prop) (E:Value->Shared->Prop),tn i s.heap->Q (.ref it) s->wpAny (model P w) A (pyIter (.ref it)) Q E s
abbrev TI:=St->Hp->(It->Hp->Prop)->Prop
def PIE (X:Cx) (pins:List (Addr × Obj)) (σ:St) (tg:Expr) (R:It->Hp->Prop) (itv:Value) (s2:Shared):Prop:=
 ∃ (it:Addr) (fp:List Addr) (tn:Nat->Heap->Prop) (J:It) (H':Hp),itv = .ref it/\Inv X pins σ H' s2/\Turn X.prog X.w X.K tg J fp it tn/\tn 0 s2.heap/\(∀ b ∈ fp,FpOk X pins H' b)/\R J H'
def PI (X:Cx) (tg iter:Expr) (wi:TI):Prop:=
 ∀ (pins:List (Addr × Obj)) (s:Shared) (σ:St) (H:Hp) (R:It->Hp->Prop),Inv X pins σ H s->wi σ H R ->
  wpAny (model X.prog X.w) X.A (eval iter X.env) (fun v s1=>wpAny (model X.prog X.w) X.A (pyIter v) (PIE X pins σ tg R) X.xe s1) X.xe s
theorem zkI      (ho:s.heap.get? it = some o) (hc:o.cls = .type n) (hd:o.data = .fields vs)
    (hn:["enumerate","zip","dict_itemiterator","dict_reverseitemiterator","odict_iterator","itertools.zip_longest","itertools.pairwise"].contains n = false) (hQ:Q () s):wpAny M A (letOwnedTupleGo tg (.ref it) u) Q E s:=by
  unfold letOwnedTupleGo
  cases tg <;> first
    | exact YAc hQ
    | (cases u <;> first
        | exact YAc hQ
        | (refine YAa (wpAny_load ho ?_)
           rw [hc,hd]
           show wpAny M A (if (["enumerate","zip","dict_itemiterator","dict_reverseitemiterator","odict_iterator","itertools.zip_longest","itertools.pairwise"].contains n && vs[0]? == some (rawInt _)) = true then _ else _) Q E s
           rw [if_neg (by intro h;rw [hn,Bool.false_and] at h;cases h)]
           exact YAc hQ))
def Itl (K:PySem.W.Frag) (a:Addr):It:=
 ⟨fun i H=>∃ xs x,SqL K H a xs/\xs[i]? = some x,fun i H x H'=>H' = H/\∀ xs,SqL K H a xs->xs[i]? = some x,fun i H=>∃ xs,SqL K H a xs/\xs.length <= i⟩
def Itt (K:PySem.W.Frag) (a:Addr):It:=
 ⟨fun i H=>∃ xs x,SqT K H a xs/\xs[i]? = some x,fun i H x H'=>H' = H/\∀ xs,SqT K H a xs->xs[i]? = some x,fun i H=>∃ xs,SqT K H a xs/\xs.length <= i⟩
def Itr (lo:Int) (n:Nat):It:=⟨fun i _=>i < n,fun i H x H'=>H' = H/\x = .int (lo + i),fun i _=>n <= i⟩
theorem zmn {P:Program} {w:World} {K:PySem.W.Frag} {tg:Expr} (a it:Addr):Turn P w K tg (Itl K a) [it] it (fun i h=>h.IsListIter it a i) where
 mem:=by simp
 obj:=fun i h st b hb=>by
  have e:b = it:=by simpa using hb
  subst e
  obtain ⟨o,e,c,d⟩:=st
  exact ⟨o,e,fun v z=>by rw [d] at z;cases z⟩
 keep:=fun i h h' st k=>st.at fun o e=>k it (by simp) o e
 item:=by
  intro X hP hw hK hc i pins s σ H E I hf st hg
  subst hP hw hK
  obtain ⟨xs,x,hq,hx⟩:=hg
  obtain ⟨its,rv,p,hz⟩:=I.list hq
  obtain ⟨u,hu,ru⟩:=rv.get hx
  obtain ⟨f0,f1,f2,f3,f4,f5⟩:=hf it (by simp)
  refine wpAny_pyNext_list_item st p.isList (x:=u) (by simpa using hu) fun h' st' sb=>?_
  have I1:Inv X pins σ H { s with heap:=h' }:=I.turned (t':=s.toks) (fun b o hb e=>(sb.2 b hb).trans e) f0 f1 f3 f4 f5
  obtain ⟨o,e,c,d⟩:=id st'
  exact ⟨u,rfl,zkI (s:={ s with heap:=h' }) e c d (by decide) ⟨x,H,I1,ru,⟨rfl,fun ys hy=>by rw [I.list_inj hy hq];exact hx⟩,st',fun b hb=>(hf b hb).1⟩⟩
 done:=by
  intro X hP hw hK hc i pins s σ H E I hf st hg
  subst hP hw hK
  obtain ⟨xs,hq,hx⟩:=hg
  obtain ⟨its,rv,p,hz⟩:=I.list hq
  obtain ⟨f0,f1,f2,f3,f4,f5⟩:=hf it (by simp)
  have hl:=rv.length
  exact wpAny_pyNext_list_end (I.ok.hd hc) st p.isList (by simp;omega) fun h' eb=>⟨rfl,I.turned (t':=s.toks) (fun b o hb e=>eb b o hb e) f0 f1 f3 f4 f5⟩
 self:=fun _ _ _ _ _ st h=>wpAny_pyIter_listiter st h
theorem zkr {P:Program} {w:World} {K:PySem.W.Frag} {tg:Expr} (a it:Addr):Turn P w K tg (Itt K a) [it] it (fun i h=>h.IsTupleIter it a i) where
 mem:=by simp
 obj:=fun i h st b hb=>by
  have e:b = it:=by simpa using hb
  subst e
  obtain ⟨o,e,c,d⟩:=st
  exact ⟨o,e,fun v z=>by rw [d] at z;cases z⟩
 keep:=fun i h h' st k=>st.at fun o e=>k it (by simp) o e
 item:=by
  intro X hP hw hK hc i pins s σ H E I hf st hg
  subst hP hw hK
  obtain ⟨xs,x,hq,hx⟩:=hg
  obtain ⟨its,rv,p,hz⟩:=I.tuple hq
  obtain ⟨u,hu,ru⟩:=rv.get hx
  obtain ⟨f0,f1,f2,f3,f4,f5⟩:=hf it (by simp)
  refine wpAny_pyNext_tuple_item st (show s.heap.IsTuple a its.toArray from p) (x:=u) (by simpa using hu) fun h' st' sb=>?_
  have I1:Inv X pins σ H { s with heap:=h' }:=I.turned (t':=s.toks) (fun b o hb e=>(sb.2 b hb).trans e) f0 f1 f3 f4 f5
  obtain ⟨o,e,c,d⟩:=id st'
  exact ⟨u,rfl,zkI (s:={ s with heap:=h' }) e c d (by decide) ⟨x,H,I1,ru,⟨rfl,fun ys hy=>by rw [I.tuple_inj hy hq];exact hx⟩,st',fun b hb=>(hf b hb).1⟩⟩
 done:=by
  intro X hP hw hK hc i pins s σ H E I hf st hg
  subst hP hw hK
  obtain ⟨xs,hq,hx⟩:=hg
  obtain ⟨its,rv,p,hz⟩:=I.tuple hq
  obtain ⟨f0,f1,f2,f3,f4,f5⟩:=hf it (by simp)
  have hl:=rv.length
  exact wpAny_pyNext_tuple_end (I.ok.hd hc) st (show s.heap.IsTuple a its.toArray from p) (by simp;omega) fun h' eb=>⟨rfl,I.turned (t':=s.toks) (fun b o hb e=>eb b o hb e) f0 f1 f3 f4 f5⟩
 self:=fun _ _ _ _ _ st h=>wpAny_pyIter_tupleiter st h
theorem zgk {P:Program} {w:World} {K:PySem.W.Frag} {tg:Expr} (it:Addr) (lo:Int) (n:Nat):Turn P w K tg (Itr lo n) [it] it (fun i h=>IsRangeIter h it (lo + (i:Nat) * 1) ((n:Int) - (i:Nat)) 1) where
 mem:=by simp
 obj:=fun i h st b hb=>by
  have e:b = it:=by simpa using hb
  subst e
  exact ⟨_,st,fun v z=>by
   have z':Data.fields _ = Data.cell v:=z
   cases z'⟩
 keep:=fun i h h' st k=>k it (by simp) _ st
 item:=by
  intro X hP hw hK hc i pins s σ H E I hf st hg
  subst hP hw hK
  obtain ⟨f0,f1,f2,f3,f4,f5⟩:=hf it (by simp)
  have W:=Walks.range (prog:=X.prog) (w:=X.w) (I.ok.hd hc) it lo 1 n
  refine W.item i s _ _ hg st fun v h' tk hv st' kk=>?_
  obtain ⟨t,rfl⟩:=hv
  have I1:Inv X pins σ H { s with heap:=h',toks:=tk }:=I.turned (fun b o hb e=>kk b o (by simpa using hb) e) f0 f1 f3 f4 f5
  refine ⟨_,rfl,zkI (s:={ s with heap:=h',toks:=tk }) (n := "range_iterator") st' rfl rfl (by decide) ⟨.int (lo + i),H,I1,⟨t,?_⟩,⟨rfl,rfl⟩,st',fun b hb=>(hf b hb).1⟩⟩
  rw [Int.mul_one]
 done:=by
  intro X hP hw hK hc i pins s σ H E I hf st hg
  subst hP hw hK
  obtain ⟨f0,f1,f2,f3,f4,f5⟩:=hf it (by simp)
  exact wpAny_pyNext_range_end (I.ok.hd hc) st (by have:n <= i:=hg;omega) fun h' eb=>⟨rfl,I.turned (t':=s.toks) (fun b o hb e=>eb b o hb e) f0 f1 f3 f4 f5⟩
 self:=fun _ _ _ _ _ st h=>wpAny_pyIter_rangeiter st h
section
variable {X:Cx} {tg:Expr}
theorem zob {pins:List (Addr × Obj)} {σ:St} {H:Hp} {s:Shared} {R:It->Hp->Prop} {E:Value->Shared->Prop} {lo hi:Int} {t u v:Tok} {tk:Nat} (I:Inv X pins σ H s) (h1:-(2 ^ 62) <= lo) (h2:lo < 2 ^ 62) (h3:-(2 ^ 62) <= hi) (h4:hi < 2 ^ 62)
  (q:R (Itr lo (hi - lo).toNat) H):wpAny (model X.prog X.w) X.A (pyIter (.ref s.heap.objs.size)) (PIE X pins σ tg R) E { s with heap:=s.heap.push { cls:=.type "range",data:=.fields #[.int lo t,.int hi u,.int 1 v] },toks:=tk }:=by
 refine wpAny_pyIter_range (IsRange.new ..) (small_one h1 h2 h3 h4) ?_
 have I1:Inv X pins σ H { s with heap:=s.heap.push { cls:=.type "range",data:=.fields #[.int lo t,.int hi u,.int 1 v] },toks:=tk }:=I.kept fun b o e=>YAb _ e
 refine ⟨(s.heap.push { cls:=.type "range",data:=.fields #[.int lo t,.int hi u,.int 1 v] }).objs.size,[(s.heap.push { cls:=.type "range",data:=.fields #[.int lo t,.int hi u,.int 1 v] }).objs.size],_,_,H,rfl,
  I1.kept (t':=tk) fun b o e=>YAb _ e,zgk _ lo (hi - lo).toNat,?_,fun b hb=>?_,q⟩
 ·have e1:lo + ((0:Nat):Int) * 1 = lo:=by simp
  have e2:(((hi - lo).toNat:Nat):Int) - ((0:Nat):Int) = Builtin.Range.rangeSize lo hi 1:=by rw [rangeSize_one];split <;> omega
  show IsRangeIter _ _ (lo + ((0:Nat):Int) * 1) ((((hi - lo).toNat:Nat):Int) - ((0:Nat):Int)) 1
  rw [e1,e2]
  exact YAj _ rfl
 ·have e:b = (s.heap.push { cls:=.type "range",data:=.fields #[.int lo t,.int hi u,.int 1 v] }).objs.size:=by simpa using hb
  subst e
  exact I1.fpOk (YAk _) (I1.hok.fresh (YAk _))
def zrs (ta:TA):TI:=fun σ H R=>ta σ H fun vs H1=>∃ j:Int,vs = [.int j]/\-(2 ^ 62) <= j/\j < 2 ^ 62/\R (Itr 0 j.toNat) H1
theorem zmo {a:Expr} {ta:TA} {p pos:Pos} (hg:Gl X "range") (hm:X.mg "range" = none) (ha:PA X [a] ta) (hs:starEach [a] X.env = [(false,eval a X.env)]:=by rfl):PI X tg (.Call (.Name "range" p) [a] [] pos) (zrs ta):=by
 intro pins s σ H R I h
 refine Call_ (zgo I hg hm boot_range (YBj (thn (ha pos pins s σ H _ I h) fun us s1 ⟨vs,H1,I1,r1,q1⟩=>?_) hs rfl))
 obtain ⟨j,e,q1,q2,q⟩:=q1
 subst e
 cases r1 with
 | cons r rr=>
  cases rr
  obtain ⟨t,rfl⟩:=r
  exact call_range_1 (zob I1 (by omega) (by omega) q1 q2 (by simpa using q))
def tFor (wi:TI) (g:TG) (tb:TS):TS:=fun D σ H=>wi σ H fun J H1=>∃ W:Nat->Nat->St->Hp->Prop,(∃ m,W 0 m σ H1)/\∀ i m σ H,W i m σ H ->
 (J.stop i H/\D.nx σ H)\/(J.go i H/\∃ N:St->Hp->Prop,(∀ σ' H',N σ' H'->∃ m',m' < m/\W (i + 1) m' σ' H')/\∀ x H',J.yld i H x H'->g x σ H' fun σ2 H2=>tb { D with nx:=N,ct:=N,bk:=D.nx } σ2 H2)
def zhs (fp:List Addr) (h:Heap):List (Addr × Obj):=fp.filterMap fun b=>(h.get? b).map fun o=>(b,o)
theorem zdv {fp:List Addr} {h:Heap} {b:Addr} {o:Obj} (hb:b ∈ fp) (e:h.get? b = some o):(b,o) ∈ zhs fp h:=YBs.mpr ⟨b,hb,by rw [e];rfl⟩
theorem zmd  (hp:p ∈ zhs fp h):p.1 ∈ fp/\h.get? p.1 = some p.2:=by
 obtain ⟨b,hb,e⟩:=YBs.mp hp
 cases q:h.get? b with
 | none=>rw [q] at e;cases e
 | some o=>
  rw [q] at e
  have e':(b,o) = p:=Option.some.inj e
  subst e'
  exact ⟨hb,q⟩
theorem Inv.pinned {pins:List (Addr × Obj)} {σ:St} {H:Hp} {s:Shared} {fp:List Addr} (I:Inv X pins σ H s) (hf:∀ b ∈ fp,FpOk X pins H b) (ho:∀ b ∈ fp,∃ o,s.heap.get? b = some o/\∀ v,o.data ≠ .cell v):Inv X (pins ++ zhs fp s.heap) σ H s:=
 I.pins_of fun p hp=>(YAR.mp hp).elim (fun z=>I.pin p (YAG _ z)) fun z=>by
  obtain ⟨hb,e⟩:=zmd z
  obtain ⟨f0,f1,f2,_⟩:=hf p.1 hb
  obtain ⟨o,e',d⟩:=ho p.1 hb
  rw [e] at e';cases e'
  exact ⟨e,f0,f1,f2,d⟩
theorem Inv.unpinned {pins pl:List (Addr × Obj)} {σ:St} {H:Hp} {s:Shared} (I:Inv X (pins ++ pl) σ H s):Inv X pins σ H s:=I.pins_of fun p hp=>I.pin p (YAG _ (YCc _ hp))
theorem zo4 {iter:Expr} {body:List Stmt} {wi:TI} {g:TG} {tb:TS} {pos:Pos} (hp:PassesOwn (model X.prog X.w) X.A X.env X.xe) (hc:X.calm = true) (hi:PI X tg iter wi) (hg:PG X tg g) (hb:PSs X body tb)
  (hs:∀ x,foldedSetIterable iter X.env x = pure x:=by intro _;rfl):PS X (.For tg iter body [] pos) (tFor wi g tb):=by
 intro pins s σ H D I h
 refine wpAny_For (thn (hi pins s σ H _ I h) fun v s1 h1=>thn h1 fun itv s2 h2=>?_) hs
 obtain ⟨it,fp,tn,J,H2,e,I2,T,st2,f2,W,⟨m0,w0⟩,turn⟩:=h2
 subst e
 -- what stays true of the iterator's objects through the loop
 have stat:∀ {H':Hp},(∀ b ∈ fp,H' b = none)->∀ b ∈ fp,FpOk X pins H' b:=fun hn b hb=>⟨hn b hb,(f2 b hb).2⟩
 refine codeAny_forLoop_any (fun n s'=>∃ i σ' H',Inv X pins σ' H' s'/\tn i s'.heap/\(∀ b ∈ fp,H' b = none)/\W i n σ' H') ?_ m0 ⟨0,σ,H2,I2,st2,fun b hb=>(f2 b hb).1,w0⟩
 rintro n s3 ⟨i,σ3,H3,I3,st3,fr3,w3⟩
 rcases turn i n σ3 H3 w3 with ⟨stop,qn⟩ | ⟨go,N,hN,step⟩
 ·refine YBQ hp (thn (T.done X rfl rfl rfl hc i pins s3 σ3 H3 X.xe I3 (stat fr3) st3 stop) fun r s4 ⟨hr,I4⟩=>?_)
  subst hr
  exact YBC ⟨σ3,H3,I4,qn⟩
 ·refine YBQ hp (thn (T.item X rfl rfl rfl hc i pins s3 σ3 H3 X.xe I3 (stat fr3) st3 go) fun r s4 ⟨u,hr,h4⟩=>?_)
  subst hr
  refine YBQ hp (thn h4 fun _ s5 ⟨x,H5,I5,r5,y5,st5,fr5⟩=>?_)
  have I5':=I5.pinned (stat fr5) (T.obj _ _ st5)
  refine YBQ hp (thn (hg _ s5 σ3 H5 x u _ I5' r5 (step x H5 y5)) fun _ s6 ⟨σ6,H6,I6,q6⟩=>?_)
  refine YBQ hp (thn (hb _ s6 σ6 H6 _ I6 q6) fun f s7 q7=>?_)
  have again:∀ {σ7:St} {H7:Hp},Inv X (pins ++ zhs fp s5.heap) σ7 H7 s7->N σ7 H7->∃ m,m < n/\∃ i σ' H',Inv X pins σ' H' s7/\tn i s7.heap/\(∀ b ∈ fp,H' b = none)/\W i m σ' H':=fun {σ7 H7} I7 n7=>by
   obtain ⟨m',hm,w7⟩:=hN σ7 H7 n7
   refine ⟨m',hm,i + 1,σ7,H7,I7.unpinned,T.keep _ _ _ st5 fun b hb o e=>(I7.pin (b,o) (YAG _ (YAG _ (zdv hb e)))).1,fun b hb=>?_,w7⟩
   obtain ⟨o,e,d⟩:=T.obj _ _ st5 b hb
   exact (I7.pin (b,o) (YAG _ (YAG _ (zdv hb e)))).2.1
  cases f with
  | next=>obtain ⟨σ7,H7,I7,n7⟩:=q7;exact again I7 n7
  | cont=>obtain ⟨σ7,H7,I7,n7⟩:=q7;exact again I7 n7
  | brk=>obtain ⟨σ7,H7,I7,q7⟩:=q7;exact ⟨σ7,H7,I7.unpinned,q7⟩
  | ret v=>obtain ⟨x7,σ7,H7,I7,r7,q7⟩:=q7;exact ⟨x7,σ7,H7,I7.unpinned,r7,q7⟩
end
abbrev R2:=V->V->Hp->VK->Prop
def OpR (X:Cx) (f:Value->Value->Sem Value) (r:R2):Prop:=
 ∀ (pins:List (Addr × Obj)) (s:Shared) (σ:St) (H:Hp) (x y:V) (v u:Value) (Q:VK),Inv X pins σ H s->RelV x v->RelV y u->r x y H Q ->
  wpAny (model X.prog X.w) X.A (f v u) (EP X pins σ Q) X.xe s
def UnR (X:Cx) (f:Value->Sem Value) (r:V->Hp->VK->Prop):Prop:=
 ∀ (pins:List (Addr × Obj)) (s:Shared) (σ:St) (H:Hp) (x:V) (v:Value) (Q:VK),Inv X pins σ H s->RelV x v->r x H Q ->
  wpAny (model X.prog X.w) X.A (f v) (EP X pins σ Q) X.xe s
def CallR (X:Cx) (f:Value) (r:List V->Hp->VK->Prop):Prop:=
 ∀ (pins:List (Addr × Obj)) (s:Shared) (σ:St) (H:Hp) (xs:List V) (us:List Value) (Q:VK),Inv X pins σ H s->Vals xs us->r xs H Q ->
  wpAny (model X.prog X.w) X.A (call f us) (EP X pins σ Q) X.xe s
def TruR (X:Cx) (r:V->Hp->(Bool->Hp->Prop)->Prop):Prop:=
 ∀ (pins:List (Addr × Obj)) (s:Shared) (σ:St) (H:Hp) (x:V) (v:Value) (Q:Bool->Hp->Prop),Inv X pins σ H s->RelV x v->r x H Q ->
  wpAny (model X.prog X.w) X.A (truthy v) (TP X pins σ Q) X.xe s
def tOp (r:R2) (ta tb:TE):TE:=fun σ H Q=>ta σ H fun x H1=>tb σ H1 fun y H2=>r x y H2 Q
def tUn (r:V->Hp->VK->Prop) (ta:TE):TE:=fun σ H Q=>ta σ H fun x H1=>r x H1 Q
def rI (C:Int->Int->Prop) (g:Int->Int->V):R2:=fun x y H Q=>∃ i j,x = .int i/\y = .int j/\C i j/\Q (g i j) H
def rI0 (g:Int->Int->V):R2:=fun x y H Q=>∃ i j,x = .int i/\y = .int j/\Q (g i j) H
def rU (g:Int->V):V->Hp->VK->Prop:=fun x H Q=>∃ i,x = .int i/\Q (g i) H
section
variable {X:Cx} {a b c:Expr} {ta tb tc:TE} {pos:Pos}
theorem binT (ha:PE X a ta) (hb:PE X b tb) {pins:List (Addr × Obj)} {s:Shared} {σ:St} {H:Hp} {R:V->V->Hp->Prop} (I:Inv X pins σ H s)
  (h:ta σ H fun x H1=>tb σ H1 fun y H2=>R x y H2) {Q:Value->Shared->Prop} {f:Value->Value->Sem Value}
  (hf:∀ v u s2 x y H2,Inv X pins σ H2 s2->RelV x v->RelV y u->R x y H2->wpAny (model X.prog X.w) X.A (f v u) Q X.xe s2) :
  wpAny (model X.prog X.w) X.A (eval a X.env) (fun v s₁=>wpAny (model X.prog X.w) X.A (eval b X.env) (fun u s₂=>wpAny (model X.prog X.w) X.A (f v u) Q X.xe s₂) X.xe s₁) X.xe s:=by
 refine thn (ha pins s σ H _ I h) fun v s1 ⟨x,H1,I1,r1,q1⟩=>?_
 refine thn (hb pins s1 σ H1 _ I1 q1) fun u s2 ⟨y,H2,I2,r2,q2⟩=>?_
 exact hf v u s2 x y H2 I2 r1 r2 q2
theorem zdx {op:Operator} {r:R2} (ho:OpR X (binaryOp op) r) (ha:PE X a ta) (hb:PE X b tb):PE X (.BinOp a op b pos) (tOp r ta tb):=by
 intro pins s σ H Q I h
 exact wpAny_BinOp (binT ha hb I h fun v u s2 x y H2 I2 rx ry q=>ho pins s2 σ H2 x y v u Q I2 rx ry q)
theorem zsD {op:UnaryOp} {r:V->Hp->VK->Prop} (ho:UnR X (unaryOp op) r) (ha:PE X a ta):PE X (.UnaryOp op a pos) (tUn r ta):=by
 intro pins s σ H Q I h
 exact UnaryOp_ (thn (ha pins s σ H _ I h) fun v s1 ⟨x,H1,I1,r1,q1⟩=>ho pins s1 σ H1 x v Q I1 r1 q1)
theorem opI {f:Value->Value->Sem Value} {C:Int->Int->Prop} {g:Int->Int->Int}
  (rule:∀ (i j:Int) (t u:Tok) (s:Shared) (Q:Value->Shared->Prop) (E:Value->Shared->Prop),C i j->Q (.int (g i j) s.toks) { s with toks:=s.toks + 1 }->wpAny (model X.prog X.w) X.A (f (.int i t) (.int j u)) Q E s) :
  OpR X f (rI C fun i j=>.int (g i j)):=by
 intro pins s σ H x y v u Q I rx ry h
 obtain ⟨i,j,rfl,rfl,hc,q⟩:=h
 obtain ⟨t,rfl⟩:=rx
 obtain ⟨t',rfl⟩:=ry
 exact rule i j t t' s _ _ hc ⟨.int (g i j),H,I.tok _,⟨_,rfl⟩,q⟩
theorem opI0 {f:Value->Value->Sem Value} {g:Int->Int->Int}
  (rule:∀ (i j:Int) (t u:Tok) (s:Shared) (Q:Value->Shared->Prop) (E:Value->Shared->Prop),Q (.int (g i j) s.toks) { s with toks:=s.toks + 1 }->wpAny (model X.prog X.w) X.A (f (.int i t) (.int j u)) Q E s) :
  OpR X f (rI0 fun i j=>.int (g i j)):=by
 intro pins s σ H x y v u Q I rx ry h
 obtain ⟨i,j,rfl,rfl,q⟩:=h
 obtain ⟨t,rfl⟩:=rx
 obtain ⟨t',rfl⟩:=ry
 exact rule i j t t' s _ _ ⟨.int (g i j),H,I.tok _,⟨_,rfl⟩,q⟩
theorem opB0 {f:Value->Value->Sem Value} {g:Int->Int->Bool}
  (rule:∀ (i j:Int) (t u:Tok) (s:Shared) (Q:Value->Shared->Prop) (E:Value->Shared->Prop),Q (.bool (g i j)) s->wpAny (model X.prog X.w) X.A (f (.int i t) (.int j u)) Q E s) :
  OpR X f (rI0 fun i j=>.bl (g i j)):=by
 intro pins s σ H x y v u Q I rx ry h
 obtain ⟨i,j,rfl,rfl,q⟩:=h
 obtain ⟨t,rfl⟩:=rx
 obtain ⟨t',rfl⟩:=ry
 exact rule i j t t' s _ _ ⟨.bl (g i j),H,I,rfl,q⟩
def CDiv (i j:Int):Prop:=0 < j/\j < 1073741824
def CPow (i j:Int):Prop:=0 <= j/\j <= 1000000/\i.natAbs < 2 ^ 64
def CMul (i j:Int):Prop:=(-(2 ^ 64) < i/\i < 2 ^ 64)\/(-(2 ^ 64) < j/\j < 2 ^ 64)
theorem CMul.ok {i j:Int} (h:CMul i j):IntMulOk i j:=by
 rcases h with ⟨h1,h2⟩ | ⟨h1,h2⟩
 ·exact .of_left (intBits_le_64 h1 h2)
 ·exact .of_right (intBits_le_64 h1 h2)
theorem op_add:OpR X (binaryOp .Add) (rI0 fun i j=>.int (i + j)):=opI0 fun _ _ _ _ _ _ _ q=>add_int q
theorem zqX:OpR X (binaryOp .Sub) (rI0 fun i j=>.int (i - j)):=opI0 fun _ _ _ _ _ _ _ q=>sub_int q
theorem op_mul:OpR X (binaryOp .Mult) (rI CMul fun i j=>.int (i * j)):=opI fun _ _ _ _ _ _ _ hc q=>mul_int q hc.ok
theorem zpj:OpR X (binaryOp .FloorDiv) (rI CDiv fun i j=>.int (i / j)):=opI fun i j _ _ _ _ _ hc q=>by
 have h1:(0:Int) < j:=hc.1
 have h2:j < 1073741824:=hc.2
 exact floordiv_int (by omega) (by rw [Int.fdiv_eq_ediv_of_nonneg i (by omega)];exact q) (.inl (PyProof.noPylong_small (by omega)))
theorem zgp:OpR X (binaryOp .Mod) (rI (fun _ j=>0 < j) fun i j=>.int (i % j)):=opI fun i j _ _ _ _ _ hc q=>by
 have h1:(0:Int) < j:=hc
 exact mod_int' (by omega) (by rw [Int.fmod_eq_emod_of_nonneg i (by omega)];exact q)
theorem zk6:OpR X (binaryOp .Pow) (rI CPow fun i j=>.int (i ^ j.toNat)):=opI fun _ _ _ _ _ _ _ hc q=>pow_int_small hc.1 hc.2.1 hc.2.2 q
theorem unI {f:Value->Sem Value} {g:Int->Int}
  (rule:∀ (i:Int) (t:Tok) (s:Shared) (Q:Value->Shared->Prop) (E:Value->Shared->Prop),Q (.int (g i) s.toks) { s with toks:=s.toks + 1 }->wpAny (model X.prog X.w) X.A (f (.int i t)) Q E s) :
  UnR X f (rU fun i=>.int (g i)):=by
 intro pins s σ H x v Q I rx h
 obtain ⟨i,rfl,q⟩:=h
 obtain ⟨t,rfl⟩:=rx
 exact rule i t s _ _ ⟨.int (g i),H,I.tok _,⟨_,rfl⟩,q⟩
theorem zrz:UnR X (unaryOp .USub) (rU fun i=>.int (-i)):=unI fun _ _ _ _ _ q=>neg_int q
end
section
variable {X:Cx} {a b c:Expr} {ta tb tc:TE} {pos:Pos}
theorem zso    (I:Inv X pins σ H s) (q:Q (.bl k) H) (e:k = k'):EP X pins σ Q (.bool k') s:=by
 subst e
 exact ⟨.bl k,H,I,rfl,q⟩
theorem zs3:OpR X (compareOp .Lt) (rI0 fun i j=>.bl (decide (i < j))):=opB0 fun _ _ _ _ _ _ _ q=>lt_int q
theorem znl:OpR X (compareOp .LtE) (rI0 fun i j=>.bl (decide (i <= j))):=opB0 fun _ _ _ _ _ _ _ q=>le_int q
theorem zsu:OpR X (compareOp .Gt) (rI0 fun i j=>.bl (decide (j < i))):=opB0 fun _ _ _ _ _ _ _ q=>gt_int q
theorem zrZ:OpR X (compareOp .GtE) (rI0 fun i j=>.bl (decide (j <= i))):=opB0 fun _ _ _ _ _ _ _ q=>ge_int q
theorem zmY:OpR X (compareOp .In) (fun x y H Q=>∃ i j,x = .str i/\y = .str j/\Q (.bl (!(Builtin.Str.occurrences j i 0 j.length 1).isEmpty)) H):=by
 intro pins s σ H x y v u Q I rx ry h
 obtain ⟨i,j,rfl,rfl,q⟩:=h
 obtain ⟨t,rfl⟩:=rx
 obtain ⟨t',rfl⟩:=ry
 exact in_str (zso I q rfl)
theorem OpR.or {f:Value->Value->Sem Value} {r r':R2} (h:OpR X f r) (h':OpR X f r'):OpR X f (fun x y H Q=>r x y H Q\/r' x y H Q):=by
 intro pins s σ H x y v u Q I rx ry q
 rcases q with q | q
 ·exact h pins s σ H x y v u Q I rx ry q
 ·exact h' pins s σ H x y v u Q I rx ry q
theorem zeq (b:Expr) (h:op ≠ .In:=by decide) (h2:op ≠ .NotIn:=by decide):behindInMarks op b = false:=by
 have e1:(op == CmpOp.In) = false:=by cases op <;> first | rfl | exact absurd rfl h
 have e2:(op == CmpOp.NotIn) = false:=by cases op <;> first | rfl | exact absurd rfl h2
 cases b <;> simp [behindInMarks,e1,e2]
theorem zqn  (ho:OpR X (compareOp op) r) (ha:PE X a ta) (hb:PE X b tb) (hm:behindInMarks op b = false):PE X (.Compare a [op] [b] pos) (tOp r ta tb):=by
 intro pins s σ H Q I h
 exact wpAny_Compare1 (binT ha hb I h fun v u s2 x y H2 I2 rx ry q=>ho pins s2 σ H2 x y v u Q I2 rx ry q) hm
def zpJ (t:TE):TT:=fun σ H Q=>t σ H fun x H'=>∃ k,x = .bl k/\Q k H'
theorem zha {op:CmpOp} {r:R2} (ho:OpR X (compareOp op) r) (ha:PE X a ta) (hb:PE X b tb) (hm:behindInMarks op b = false):PT X (.Compare a [op] [b] pos) (zpJ (tOp r ta tb)):=by
 intro pins s σ H Q I h
 refine wpAny_isTrue_Compare1 (thn (ha pins s σ H _ I h) fun v s1 ⟨x,H1,I1,r1,q1⟩=>thn (hb pins s1 σ H1 _ I1 q1) fun u s2 ⟨y,H2,I2,r2,q2⟩=>
  thn (ho pins s2 σ H2 x y v u _ I2 r1 r2 q2) fun c s3 ⟨z,H3,I3,r3,k,e,q3⟩=>?_) hm
 subst e
 cases r3
 exact YAV ⟨H3,I3,q3⟩
def zm1 (r r':R2) (ta tb tc:TE):TE:=fun σ H Q=>ta σ H fun x H1=>tb σ H1 fun y H2=>r x y H2 fun z H3=>∃ k,z = .bl k /\
 (if k = true then tc σ H3 fun w' H4=>r' y w' H4 Q else Q (.bl false) H3)
theorem zoc {op op':CmpOp} {r r':R2} (ho:OpR X (compareOp op) r) (ho':OpR X (compareOp op') r') (ha:PE X a ta) (hb:PE X b tb) (hc:PE X c tc)
  (hm:lastMarks [op,op'] [b,c] = false:=by with_unfolding_all rfl):PE X (.Compare a [op,op'] [b,c] pos) (zm1 r r' ta tb tc):=by
 intro pins s σ H Q I h
 refine Compare_chain (thn (ha pins s σ H _ I h) fun v s1 ⟨x,H1,I1,r1,q1⟩=>chain_link (thn (hb pins s1 σ H1 _ I1 q1) fun u s2 ⟨y,H2,I2,r2,q2⟩=>
  thn (ho pins s2 σ H2 x y v u _ I2 r1 r2 q2) fun d s3 ⟨z,H3,I3,r3,k,e,q3⟩=>?_)) hm
 subst e
 cases r3
 refine YAV ?_
 cases k with
 | false=>exact ite_ff ⟨.bl false,H3,I3,rfl,q3⟩
 | true=>exact ite_tt (chain_last (thn (hc pins s3 σ H3 _ I3 q3) fun w' s4 ⟨z',H4,I4,r4,q4⟩=>ho' pins s4 σ H4 y z' u w' Q I4 r2 r4 q4))
theorem znG {op op':CmpOp} {r r':R2} (ho:OpR X (compareOp op) r) (ho':OpR X (compareOp op') r') (ha:PE X a ta) (hb:PE X b tb) (hc:PE X c tc)
  (hm:lastMarks [op,op'] [b,c] = false:=by with_unfolding_all rfl):PT X (.Compare a [op,op'] [b,c] pos) (zpJ (zm1 r r' ta tb tc)):=by
 intro pins s σ H Q I h
 refine isTrue_chain (thn (ha pins s σ H _ I h) fun v s1 ⟨x,H1,I1,r1,q1⟩=>test_link (thn (hb pins s1 σ H1 _ I1 q1) fun u s2 ⟨y,H2,I2,r2,q2⟩=>
  thn (ho pins s2 σ H2 x y v u _ I2 r1 r2 q2) fun d s3 ⟨z,H3,I3,r3,k,e,q3⟩=>?_)) hm
 subst e
 cases r3
 refine YAV ?_
 cases k with
 | false=>
  obtain ⟨k',e',q'⟩:=q3
  cases e'
  exact ite_ff ⟨H3,I3,q'⟩
 | true=>
  refine ite_tt (test_last (thn (hc pins s3 σ H3 _ I3 q3) fun w' s4 ⟨z',H4,I4,r4,q4⟩=>thn (ho' pins s4 σ H4 y z' u w' _ I4 r2 r4 q4) fun d' s5 ⟨z2,H5,I5,r5,k2,e2,q5⟩=>?_))
  subst e2
  cases r5
  exact YAV ⟨H5,I5,q5⟩
def TruV (K:PySem.W.Frag) (x:V) (H:Hp) (k:Bool):Prop:=
 match x with
 | .non=>k = false
 | .bl b=>k = b
 | .int i=>k = (i != 0)
 | .str y=>y.length <= sizeLine/\k = ((y.length:Int) != 0)
 | .byt y=>y.size <= sizeLine/\k = ((y.size:Int) != 0)
 | .ref p=>(∃ xs,SqL K H p xs/\k = !xs.isEmpty)\/(∃ xs,SqT K H p xs/\k = !xs.isEmpty)\/∃ kvs,H p = some (.dK kvs)/\k = !kvs.isEmpty
 | _=>False
theorem zkt {κ:Type} {kvs:List (κ × V)} {vs:List (κ × Value)} (r:KV kvs vs):(!vs.isEmpty) = !kvs.isEmpty:=by
 cases r <;> rfl
theorem zgr {xs:List V} {its:List Value} (r:Vals xs its):(!its.toArray.isEmpty) = !xs.isEmpty:=by
 cases r <;> simp
theorem ze4:(sizeLine:Nat) < 2 ^ 63:=by rw [YAO];decide
theorem zqK:TruR X (fun x H Q=>∃ k,TruV X.K x H k/\Q k H):=by
 intro pins s σ H x v Q I rx h
 obtain ⟨k,e,q⟩:=h
 have hl:=ze4
 have hs:sizeLine = 16777216:=YAO
 cases x with
 | non=>
  cases rx
  have e':k = false:=e
  subst e'
  exact truthy_none ⟨H,I,q⟩
 | bl b=>
  cases rx
  have e':k = b:=e
  subst e'
  exact YAV ⟨H,I,q⟩
 | int i=>
  obtain ⟨t,rfl⟩:=rx
  have e':k = (i != 0):=e
  subst e'
  exact PySem.P.truthy_int ⟨H,I,q⟩
 | str y=>
  obtain ⟨t,rfl⟩:=rx
  obtain ⟨hy,e'⟩:y.length <= sizeLine/\k = ((y.length:Int) != 0):=e
  subst e'
  exact PySem.P.truthy_str (by omega) ⟨H,I.tok _,q⟩
 | byt y=>
  obtain ⟨t,rfl⟩:=rx
  obtain ⟨hy,e'⟩:y.size <= sizeLine/\k = ((y.size:Int) != 0):=e
  subst e'
  exact PySem.W.truthy_bytes (by omega) ⟨H,I.tok _,q⟩
 | ref p=>
  cases rx
  have e':(∃ xs,SqL X.K H p xs/\k = !xs.isEmpty)\/(∃ xs,SqT X.K H p xs/\k = !xs.isEmpty)\/∃ kvs,H p = some (.dK kvs)/\k = !kvs.isEmpty:=e
  rcases e' with ⟨xs,hx,e'⟩ | ⟨xs,hx,e'⟩ | ⟨kvs,hx,e'⟩
  ·subst e'
   obtain ⟨its,r,pl,hz⟩:=I.list hx
   have hlen:=r.length
   exact wpAny_truthy_list pl.isList (by simp only [YAo];omega) ⟨H,I.tok _,by rw [zgr r];exact q⟩
  ·subst e'
   obtain ⟨its,r,pl,hz⟩:=I.tuple hx
   have hlen:=r.length
   exact truthy_tuple pl (by simp only [YAo];omega) ⟨H,I.tok _,by rw [zgr r];exact q⟩
  ·subst e'
   obtain ⟨hz,hS,vs,r,m⟩:kvs.length <= sizeLine/\(p == sysModules) = false/\∃ vs,KV kvs vs/\s.heap.DictOf (zaL X.prog X.w) p vs:=I.hok p _ hx
   have hlen:kvs.length = vs.length:=Paired.length r
   exact wpAny_truthy_dict hS m (by omega) ⟨H,I.tok _,by rw [zkt r];exact q⟩
 | _=>exact (show False from e).elim
theorem zjD (ha:PE X a ta) (he:∀ whole,isTrue a X.env whole = (do let v <- whole;standAt a.pos;holding [v] (truthy v))) :
  PT X a (fun σ H Q=>ta σ H fun x H'=>∃ k,TruV X.K x H' k/\Q k H'):=by
 intro pins s σ H Q I h
 exact isTrue_plain (thn (ha pins s σ H _ I h) fun v s1 ⟨x,H1,I1,r1,q1⟩=>zqK pins s1 σ H1 x v Q I1 r1 q1) (he _)
theorem zkP:OpR X (binaryOp .Add) (fun x y H Q=>∃ i j,x = .str i/\y = .str j/\i.length + j.length <= sizeLine/\Q (.str (i ++ j)) H):=by
 intro pins s σ H x y v u Q I rx ry h
 obtain ⟨i,j,rfl,rfl,hz,q⟩:=h
 obtain ⟨t,rfl⟩:=rx
 obtain ⟨t',rfl⟩:=ry
 exact add_str (fun t' tk=>⟨.str (i ++ j),H,I.tok _,⟨_,rfl⟩,q⟩) hz
theorem zeI  (r:Vals [x] us):∃ u,us = [u]/\RelV x u:=by
 cases r with
 | cons r1 r2=>cases r2;exact ⟨_,rfl,r1⟩
theorem zqb  (r:Vals [x,y] us):∃ u w',us = [u,w']/\RelV x u/\RelV y w':=by
 cases r with
 | cons r1 r2=>
  cases r2 with
  | cons r3 r4=>cases r4;exact ⟨_,_,rfl,r1,r3⟩
theorem call_int1:CallR X (.type "int") (fun xs H Q=>(∃ i,xs = [.int i]/\Q (.int i) H)\/∃ k,xs = [.bl k]/\Q (.int (if k then 1 else 0)) H):=by
 intro pins s σ H xs us Q I r h
 rcases h with ⟨i,rfl,q⟩ | ⟨k,rfl,q⟩
 ·obtain ⟨u,rfl,t,rfl⟩:=zeI r
  exact call_int_int ⟨.int i,H,I,⟨_,rfl⟩,q⟩
 ·obtain ⟨u,rfl,r1⟩:=zeI r
  cases r1
  exact call_int_bool ⟨.int (if k then 1 else 0),H,I.tok _,⟨_,rfl⟩,q⟩
end
structure ObjM (h:Heap) (x dx C:Addr) (mA:Str->Option Value):Prop where
 obj:h.get? x = some (PySem.W.instObj C dx)
 ns:h.Ns1 dx mA
 ne:dx ≠ x
theorem zl2 {h:Heap} {dx:Addr} {mA:Str->Option Value} (n:h.Ns1 dx mA):∃ od,h.get? dx = some od/\∀ name,PySem.W.lookIn name od = some (mA name):=by
 obtain ⟨o,es,ep,ho,hd,hk,_,hm⟩:=n
 refine ⟨o,ho,fun name=>?_⟩
 have e:=hm name
 unfold nsFind findBy at e
 rw [<- Array.find?_toList] at e
 unfold PySem.W.lookIn
 rw [hd]
 dsimp only
 split
 ·rename_i y q
  rw [q] at e
  exact congrArg some e
 ·rename_i q
  rw [q] at e
  have a:es.toList.any (·.refKey) = false:=by
   rw [List.any_eq_false]
   intro y hy
   obtain ⟨z,t,hkey⟩:=hk y (Array.mem_toList_iff.mp hy)
   simp [DictEntry.refKey,hkey]
  have a':¬ es.toList.any (·.refKey) = true:=by rw [a];exact YA4
  rw [if_neg a']
  exact congrArg some e
theorem ObjM.look  (I:ObjM h x dx C mA):∃ od,PySem.W.InstAt h x (PySem.W.instObj C dx) C (some od)/\∀ name,PySem.W.lookIn name od = some (mA name):=
 let ⟨od,ho,hl⟩:=zl2 I.ns
 ⟨od,⟨I.obj,rfl,rfl,ho⟩,hl⟩
section
variable {prog:Program} {w:World} {A:Around} {E:Value->Shared->Prop} {s:Shared} {K:PySem.W.Frag} {x dx C f:Addr} {mA:Str->Option Value} {name:Str} {v:Value}
theorem zpY  (X:K.In s.heap) (I:ObjM s.heap x dx C mA) (hg:PySem.W.plainGet K C name = true) (hh:PySem.W.hasDictIn K C = true)
  (ha:PySem.W.findIn K (.ref C) name = some none) (hv:mA name = some v) (hv':PySem.W.handedIn v = true) (h:Q v { s with toks:=s.toks + 1 }) :
  wpAny (model prog w) A (getAttr (.ref x) name expr) Q E s:=by
 obtain ⟨od,J,hl⟩:=I.look
 exact PySem.W.get_value X J (YCj hg).1 (PySem.W.findObj_own hh ha rfl (by rw [hl,hv])) hv' h
theorem zng  (X:K.In s.heap) (I:ObjM s.heap x dx C mA) (hg:PySem.W.plainGet K C name = true)
  (hf:PySem.W.findIn K (.ref C) name = some (some (.ref f))) (ht:PySem.W.isFn K (.ref f) = true) (hv:mA name = none) (h:Q (.ref f,[.ref x]) s) :
  wpAny (model prog w) A (getMethod (.ref x) name pl) Q E s:=by
 obtain ⟨od,J,hl⟩:=I.look
 exact PySem.W.method_fn X J (YCj hg).1 (YCj hg).2 hf (YBZ.mp ht) (by show (PySem.W.lookIn name od).map (·.isSome) = some false;rw [hl,hv];rfl) h
theorem zqa  (X:K.In s.heap) (I:ObjM s.heap x dx C mA)
  (hs:PySem.W.findIn K (.ref C) "__setattr__" = some (some (.builtin "object.__setattr__"))) (hp:PySem.W.plainOver K C = true) (ht:PySem.W.takerIn K C name = some none) (hh:PySem.W.hasDictIn K C = true)
  (hw:PySem.Within mA ns) (hsz:ns.length <= sizeLine)
  (h:∀ h',ObjM h' x dx C (fun y=>if y = name then some v else mA y)->Heap.SameBut dx s.heap h'->Q () { s with heap:=h',toks:=s.toks + 2 }) :
  wpAny (model prog w) A (setAttr (.ref x) name v) Q E s:=by
 obtain ⟨od,J,hl⟩:=I.look
 refine PySem.W.set_plain X J hs (PySem.W.osa_open (s:={ s with toks:=s.toks + 1 }) (r:=none) X J hp ht fun b=>?_)
 obtain ⟨cd,hc,hd'⟩:=PySem.W.any_some hh
 have hx:s.heap.get? x = some ⟨.ref C,some dx,.plain,#[]⟩:=I.obj
 refine YAa (YAc (YAa (YAa (wpAny_loadPart hx (YAa (PySem.W.Looks.here (s:={ s with toks:=s.toks + 1 }) (PySem.W.looks_clsIn X hc) ?_))))))
 rw [hd']
 refine YAc (a:=some dx) (YAa (YAc (YAa ?_)))
 refine wpAny_nsSet1 (s:={ s with toks:=s.toks + 1 }) I.ns fun h' hn2 hs2=>?_
 obtain ⟨oD,esD,epD,hoD,hdD,hcD⟩:=hn2.count (PySem.Within.cons name v hw)
 refine YAa (wpAny_lookBehind hoD (by rw [hdD];exact pastItsLine_dict (YAF hcD (by rw [YAP];omega))) ?_)
 exact YAc (h _ ⟨(hs2.2 _ (YAH I.ne)).trans I.obj,hn2,I.ne⟩ hs2)
theorem zoB  (X:K.In s.heap) (hm:PySem.W.makesIn K C = true)
  (hi:PySem.W.findIn K (.ref C) "__init__" = some (some (.ref f))) (hf:PySem.W.typeIn K (.ref f) = some (.type "function"))
  (h:codeAny (model prog w) (A.under (.builtin "type.__call__" ⟨.ref C :: vs,kw⟩)) (.call (.ref f) ⟨.ref (s.heap.objs.size + 1) :: vs,kw⟩) (PySem.W.InitBack (s.heap.objs.size + 1) R)
   { s with heap:=(s.heap.push PySem.W.emptyDict).push (PySem.W.instObj C s.heap.objs.size) }) :
  codeAny (model prog w) A (.call (.ref C) ⟨vs,kw⟩) R s:=by
 obtain ⟨hh,g,d,t,os⟩:=s
 exact PySem.W.make_core (PySem.W.makes_of X hm) (PySem.W.looks_findIn X hi) (fun self=>PySem.W.bind_fn X self hf) (.inl rfl) h
end
def putF (f:Str) (v:V):List (Str × V)->List (Str × V)
 | []=>[(f,v)]
 | (g,x) :: r=>if g = f then (g,v) :: r else (g,x) :: putF f v r
theorem zfJ (f g:Str) (v:V):∀ fs:List (Str × V),(putF f v fs).lookup g = if g = f then some v else fs.lookup g
 | []=>by
  show List.lookup g [(f,v)] = _
  by_cases h:g = f
  ·have hb:(g == f) = true:=YBZ.mpr h
   simp only [List.lookup,hb,if_pos h]
  ·have hb:(g == f) = false:=YAM.mpr h
   simp only [List.lookup,hb,if_neg h]
 | (k,x) :: r=>by
  have ih:=zfJ f g v r
  rw [show putF f v ((k,x) :: r) = (if k = f then (k,v) :: r else (k,x) :: putF f v r) from rfl]
  by_cases hk:k = f
  ·rw [if_pos hk]
   by_cases h:g = k
   ·have hb:(g == k) = true:=YBZ.mpr h
    simp only [List.lookup,hb,if_pos (h.trans hk)]
   ·have hb:(g == k) = false:=YAM.mpr h
    simp only [List.lookup,hb,if_neg (fun e:g = f=>h (e.trans hk.symm))]
  ·rw [if_neg hk]
   by_cases h:g = k
   ·have hb:(g == k) = true:=YBZ.mpr h
    simp only [List.lookup,hb,if_neg (fun e:g = f=>hk (h.symm.trans e))]
   ·have hb:(g == k) = false:=YAM.mpr h
    simp only [List.lookup,hb]
    exact ih
theorem zfG (f:Str) (v:V):∀ fs:List (Str × V),f ∈ (putF f v fs).map (·.1)/\∀ g,g ∈ fs.map (·.1)->g ∈ (putF f v fs).map (·.1)
 | []=>⟨by simp [putF],fun g h=>by simp at h⟩
 | (k,x) :: r=>by
  obtain ⟨i1,i2⟩:=zfG f v r
  rw [show putF f v ((k,x) :: r) = (if k = f then (k,v) :: r else (k,x) :: putF f v r) from rfl]
  by_cases hk:k = f
  ·rw [if_pos hk]
   subst hk
   exact ⟨by simp,fun g h=>by simpa using h⟩
  ·rw [if_neg hk]
   refine ⟨?_,fun g h=>?_⟩
   ·rw [YAm]
    exact YAq _ i1
   ·rw [YAm] at h ⊢
    rcases YAr.mp h with e | e
    ·exact YAr.mpr (.inl e)
    ·exact YAq _ (i2 g e)
theorem zfB (f:Str) (v:V):∀ fs:List (Str × V),(putF f v fs).length <= fs.length + 1
 | []=>by simp [putF]
 | (k,x) :: r=>by
  have ih:=zfB f v r
  rw [show putF f v ((k,x) :: r) = (if k = f then (k,v) :: r else (k,x) :: putF f v r) from rfl]
  by_cases hk:k = f
  ·rw [if_pos hk,YAP,YAP];omega
  ·rw [if_neg hk,YAP,YAP];omega
theorem RelO.some_of  (r:RelO (some v) o):∃ u,o = some u/\RelV v u:=by
 cases o with
 | none=>exact (show False from r).elim
 | some u=>exact ⟨u,rfl,r⟩
theorem RelO.none_of (r:RelO none o):o = none:=by
 cases o with
 | none=>rfl
 | some u=>exact (show False from r).elim
theorem zlX  (r:RelV v u):PySem.W.handedIn u = true:=by
 cases v with
 | non=>cases (show u = Value.none from r);rfl
 | bl b=>cases (show u = Value.bool b from r);rfl
 | int i=>obtain ⟨t,e⟩:=(show ∃ t,u = Value.int i t from r);cases e;rfl
 | str x=>obtain ⟨t,e⟩:=(show ∃ t,u = Value.str x t from r);cases e;rfl
 | byt b=>obtain ⟨t,e⟩:=(show ∃ t,u = Value.bytes b t from r);cases e;rfl
 | flt b=>obtain ⟨t,e⟩:=(show ∃ t,u = Value.float b t from r);cases e;rfl
 | ref a=>cases (show u = Value.ref a from r);rfl
 | ty n=>cases (show u = Value.type n from r);rfl
section
variable {P:Program} {w:World} {H H':Hp} {h h':Heap} {a C dx:Addr} {fs fs':List (Str × V)}
theorem zi7 (hok:HOk P w H h) (e:H a = some (.ins C dx fs)):∃ mA,ObjM h a dx C mA/\(∀ f,RelO (fs.lookup f) (mA f))/\PySem.Within mA (fs.map (·.1))/\fs.length <= 1000/\H dx = some (.own a):=by
 obtain ⟨d,z,ne,ob,mA,n,r,q⟩:=(show ObjOk P w H h a (.ins C dx fs) from hok a _ e)
 exact ⟨mA,⟨ob,n,ne⟩,r,q,z,d⟩
end
structure Cls (K:PySem.W.Frag) (C:Addr):Prop where
 pg:PySem.W.plainGet K C Str.empty = true
 hd:PySem.W.hasDictIn K C = true
 po:PySem.W.plainOver K C = true
 sa:PySem.W.findIn K (.ref C) "__setattr__" = some (some (.builtin "object.__setattr__"))
theorem Cls.get {K:PySem.W.Frag} {C:Addr} (c:Cls K C) (f:Str):PySem.W.plainGet K C f = true:=c.pg
def NoAttr (K:PySem.W.Frag) (C:Addr) (f:Str):Prop:=PySem.W.findIn K (.ref C) f = some none
theorem NoAttr.taker {K:PySem.W.Frag} {C:Addr} {f:Str} (n:NoAttr K C f):PySem.W.takerIn K C f = some none:=by
 unfold PySem.W.takerIn
 rw [show PySem.W.findIn K (.ref C) f = some none from n]
 rfl
structure Meth (K:PySem.W.Frag) (C:Addr) (m:Str) (f:Addr):Prop where
 at_:PySem.W.findIn K (.ref C) m = some (some (.ref f))
 fn:PySem.W.isFn K (.ref f) = true
 kp:PySem.W.keepIn K (.ref f) = true
section
variable {X:Cx} {pins:List (Addr × Obj)} {σ:St} {H:Hp} {s:Shared} {a C dx:Addr} {fs:List (Str × V)} {f:Str} {v:V} {A:Around} {E:Value->Shared->Prop}
theorem zkT {b:Bool} {Q:Value->Shared->Prop} (I:Inv X pins σ H s) (e:H a = some (.ins C dx fs)) (c:Cls X.K C) (n:NoAttr X.K C f) (l:fs.lookup f = some v)
  (h:∀ u s',Inv X pins σ H s'->RelV v u->Q u s'):wpAny (model X.prog X.w) A (getAttr (.ref a) f b) Q E s:=by
 obtain ⟨mA,O,r,_,_,_⟩:=zi7 I.hok e
 obtain ⟨u,hu,ru⟩:=RelO.some_of (v:=v) (o:=mA f) (by rw [<- l];exact r f)
 exact zpY I.kIn O (c.get f) c.hd n hu (zlX ru) (h u _ (I.tok _) ru)
theorem zeW {m:Str} {g:Addr} {pl:Sem Bool} {Q:Value × List Value->Shared->Prop} (I:Inv X pins σ H s) (e:H a = some (.ins C dx fs)) (c:Cls X.K C) (k:Meth X.K C m g) (l:fs.lookup m = none)
  (h:Q (.ref g,[.ref a]) s):wpAny (model X.prog X.w) A (getMethod (.ref a) m pl) Q E s:=by
 obtain ⟨mA,O,r,_,_,_⟩:=zi7 I.hok e
 have hn:mA m = none:=RelO.none_of (by rw [<- l];exact r m)
 exact zng I.kIn O (c.get m) k.at_ k.fn hn h
theorem zkD {y:V} {u:Value} {Q:Unit->Shared->Prop} (I:Inv X pins σ H s) (e:H a = some (.ins C dx fs)) (c:Cls X.K C) (n:NoAttr X.K C f) (hl:fs.length < 1000) (ry:RelV y u)
  (h:∀ s',Inv X pins σ (upd H a (.ins C dx (putF f y fs))) s'->Q () s'):wpAny (model X.prog X.w) A (setAttr (.ref a) f u) Q E s:=by
 obtain ⟨mA,O,r,wi,_,ho⟩:=zi7 I.hok e
 have hz:(fs.map (·.1)).length <= sizeLine:=by rw [YAd,YAO];omega
 refine zqa I.kIn O c.sa c.po n.taker c.hd wi hz fun h' O' sb=>h _ ?_
 have hd:∃ o,h'.get? dx = some o:=let ⟨o,_,_,e',_⟩:=O'.ns;⟨o,e'⟩
 refine I.write (x:=a) (e:=dx) (by rw [e];exact True.intro) (.inr ho) (fun b q hb z=>(sb.2 b hb).trans z) hd ?_
 refine ⟨by rw [upd_ne O.ne];exact ho,?_,O.ne,O'.obj,_,O'.ns,fun g=>?_,fun g hg=>?_⟩
 ·have:=zfB f y fs;omega
 ·show RelO ((putF f y fs).lookup g) (if g = f then some u else mA g)
  rw [zfJ]
  by_cases q:g = f
  ·rw [if_pos q,if_pos q];exact ry
  ·rw [if_neg q,if_neg q];exact r g
 ·by_cases q:g = f
  ·rw [q];exact (zfG f y fs).1
  ·refine (zfG f y fs).2 g (wi g fun z=>hg ?_)
   show (if g = f then some u else mA g) = none
   rw [if_neg q];exact z
theorem Inv.made (I:Inv X pins σ H s):Inv X pins σ (upd (upd H s.heap.objs.size (.own (s.heap.objs.size + 1))) (s.heap.objs.size + 1) (.ins C s.heap.objs.size []))
  { s with heap:=(s.heap.push PySem.W.emptyDict).push (PySem.W.instObj C s.heap.objs.size) }:=by
 have e1:(s.heap.push PySem.W.emptyDict).get? s.heap.objs.size = some PySem.W.emptyDict:=YAj s.heap rfl
 have e2:((s.heap.push PySem.W.emptyDict).push (PySem.W.instObj C s.heap.objs.size)).get? (s.heap.objs.size + 1) = some (PySem.W.instObj C s.heap.objs.size):=by
  have:=YAj (s.heap.push PySem.W.emptyDict) (o:=PySem.W.instObj C s.heap.objs.size) rfl
  rwa [YBh] at this
 have e3:(s.heap.push PySem.W.emptyDict).Ns s.heap.objs.size (fun _=>none):=⟨PySem.W.emptyDict,#[],_,e1,rfl,(fun e he=>absurd he (by simp)),fun _=>rfl⟩
 have I1:=I.laid (a:=s.heap.objs.size) (o:=.own (s.heap.objs.size + 1)) (h':=s.heap.push PySem.W.emptyDict) (t':=s.toks) (fun b u q=>YAb _ q) (YAk _) ⟨_,e1⟩
 refine I1.laid (a:=s.heap.objs.size + 1) (o:=.ins C s.heap.objs.size []) (t':=s.toks) (fun b u q=>YAb _ q) (Nat.le_of_eq (YBh _ _)) ?_
 have ne:s.heap.objs.size ≠ s.heap.objs.size + 1:=YAp (YB9 _)
 refine ⟨by rw [upd_ne ne,zae],YBy _,ne,e2,fun _=>none,(Heap.Ns1.of_empty e3).at fun o q=>YAb _ q,fun _=>True.intro,fun y hy=>absurd rfl hy⟩
theorem zqs {prog:Program} {w:World} {env:Env} {e:Expr} {f:Str} {pos:Pos} {s:Shared} {Q:Value->Shared->Prop} (hb:attributeBase e f env (eval e env) = eval e env)
  (h:wpAny (model prog w) A (eval e env) (fun o s₁=>wpAny (model prog w) A (getAttr o f true) Q E s₁) E s):wpAny (model prog w) A (eval (.Attribute e f pos) env) Q E s:=
 Attribute_any_ h (by rw [arm_eval_Attribute,hb])
end
def tFld (K:PySem.W.Frag) (ta:TE) (f:Str):TE:=fun σ H Q=>ta σ H fun x H1=>∃ a C dx fs v,x = .ref a/\H1 a = some (.ins C dx fs)/\Cls K C/\NoAttr K C f/\fs.lookup f = some v/\Q v H1
def sFld (K:PySem.W.Frag) (ta tv:TE) (f:Str):TS:=fun D σ H=>tv σ H fun y H1=>ta σ H1 fun x H2=>∃ a C dx fs,x = .ref a/\H2 a = some (.ins C dx fs)/\Cls K C/\NoAttr K C f/\fs.length < 1000 /\
 D.nx σ (upd H2 a (.ins C dx (putF f y fs)))
def InOp (X:Cx) (op:Operator) (rd:V->V->Hp->VK->Prop):Prop:=
 ∀ (pins:List (Addr × Obj)) (s:Shared) (σ:St) (H:Hp) (x y:V) (u v:Value) (Q:VK),Inv X pins σ H s->RelV x u->RelV y v->rd x y H Q->wpAny (model X.prog X.w) X.A (inplaceOp op u v) (EP X pins σ Q) X.xe s
section
variable {X:Cx} {o e value:Expr} {f:Str} {pos pos' tpos:Pos} {ta tv:TE}
theorem zlo (he:PE X e ta) (hb:attributeBase e f X.env (eval e X.env) = eval e X.env):PE X (.Attribute e f pos) (tFld X.K ta f):=by
 intro pins s σ H Q I h
 refine zqs hb (thn (he pins s σ H _ I h) fun u s1 ⟨x,H1,I1,rx,a,C,dx,fs,v,ex,ea,c,n,l,q⟩=>?_)
 subst ex
 obtain rfl:u = Value.ref a:=rx
 exact zkT I1 ea c n l fun u' s2 I2 ru=>⟨v,H1,I2,ru,q⟩
theorem zqR (ha:PE X o ta) (hv:PE X value tv) (hs:swapsWith value (some (.Attribute o f pos')) pos.line X.env = pure false):PS X (.Assign [.Attribute o f pos'] value pos) (sFld X.K ta tv f):=by
 intro pins s σ H D I h
 refine plainObj_wpAny_Assign_Attribute (thn (hv pins s σ H _ I h) fun u s1 ⟨y,H1,I1,ry,q⟩=>thn (ha pins s1 σ H1 _ I1 q) fun ov s2 ⟨x,H2,I2,rx,a,C,dx,fs,ex,ea,c,n,l,q2⟩=>?_) hs
 subst ex
 obtain rfl:ov = Value.ref a:=rx
 exact zkD I2 ea c n l ry fun s3 I3=>⟨σ,_,I3,q2⟩
def rAdd:V->V->Hp->VK->Prop:=fun x y H Q=>∃ i j,x = .int i/\y = .int j/\Q (.int (i + j)) H
theorem zrX:InOp X .Add rAdd:=by
 rintro pins s σ H x y u v Q I rx ry ⟨i,j,rfl,rfl,q⟩
 obtain ⟨t,rfl⟩:=(show ∃ t,u = Value.int i t from rx)
 obtain ⟨t',rfl⟩:=(show ∃ t',v = Value.int j t' from ry)
 exact PyProof.Rows.iadd_int ⟨.int (i + j),H,I.tok _,⟨_,rfl⟩,q⟩
end
section
variable {X:Cx} {pins:List (Addr × Obj)} {σ:St} {H:Hp} {s:Shared} {A:Around} {E:Value->Shared->Prop} {Q:Value->Shared->Prop} {c:Value} {b:Bool}
end
structure Room (k:Nat) (A:Around):Prop where
 hd:A.handled = none
 dp:A.depth + 3 * k + 5 < recursionLimit
 un:A.units + 16 * k + 200 < cLine
theorem Room.mono  (r:Room k A) (h:j <= k):Room j A:=⟨r.hd,by have:=r.dp;omega,by have:=r.un;omega⟩
theorem Room.deeper {k:Nat} {A:Around} (r:Room (k + 1) A) (env:Env):Room k (A.deeper env):=
 ⟨r.hd,by have:=r.dp;show A.depth + 1 + 3 * k + 5 < _;omega,by have:=r.un;show A.units + 3 + 16 * k + 200 < _;omega⟩
theorem zky {A:Around} {C:Addr} {us:List Value} {kw:List (Str × Value)}:(A.under (.builtin "type.__call__" ⟨.ref C :: us,kw⟩)).depth = A.depth + 1:=by
 first | rfl | simp [Around.under,Code.weight,Code.isCreation,Code.isGuard,Code.isCaller,Code.frames,Code.isFrame,guardIds]
theorem zkC {A:Around} {C:Addr} {us:List Value} {kw:List (Str × Value)}:(A.under (.builtin "type.__call__" ⟨.ref C :: us,kw⟩)).units = A.units + 1:=by
 first | rfl | simp [Around.under,Code.cUnits,Code.frames,Code.isFrame]
theorem Room.make  (r:Room (k + 1) A) (C:Addr) (us:List Value) (kw:List (Str × Value)):Room k (A.under (.builtin "type.__call__" ⟨.ref C :: us,kw⟩)):=
 ⟨r.hd,by have:=r.dp;rw [zky];omega,by have:=r.un;rw [zkC];omega⟩
theorem Room.depth {k:Nat} {A:Around} (r:Room k A):A.depth < recursionLimit:=by have:=r.dp;omega
theorem Room.units  (r:Room k A):A.units + 64 < cLine:=by have:=r.un;omega
def tNil:TA:=fun _ H Q=>Q [] H
def ztG (ta:TE) (tr:TA):TA:=fun σ H Q=>ta σ H fun x H1=>tr σ H1 fun xs H2=>Q (x :: xs) H2
section
variable {X:Cx} {e:Expr} {es:List Expr} {te:TE} {t:TA} {pos:Pos}
theorem za1:PA X [] tNil:=fun _ _ _ _ H Q I h=>Calls.spliced_nil ⟨[],H,I,.nil,h⟩
theorem zav (ha:PE X e te) (hr:PA X es t) (hs:starEach (e :: es) X.env = (false,eval e X.env) :: starEach es X.env:=by rfl):PA X (e :: es) (ztG te t):=by
 intro pos pins s σ H Q I h
 rw [hs]
 show wpAny _ _ (spliced ((false,eval e X.env) :: backTo pos (starEach es X.env))) _ _ s
 refine Calls.spliced_cons (thn (ha pins s σ H _ I h) fun u s1 ⟨x,H1,I1,r1,q1⟩=>?_)
 exact thn (hr pos pins s1 σ H1 _ I1 q1) fun us s2 ⟨xs,H2,I2,r2,q2⟩=>⟨x :: xs,H2,I2,.cons r1 r2,q2⟩
def tTup (t:TA):TE:=fun σ H Q=>t σ H fun xs H1=>xs.length <= sizeLine/\∀ p,H1 p = none->Q (.ref p) (upd H1 p (.tup xs))
def tLst (t:TA):TE:=fun σ H Q=>t σ H fun xs H1=>xs.length <= sizeLine/\∀ p,H1 p = none->Q (.ref p) (upd H1 p (.lst xs))
theorem zru {x1} (h:PA X es t):PE X (.Tuple es x1 pos) (tTup t):=by
 intro pins s σ H Q I hq
 refine wpAny_Tuple_spliced (thn (h pos pins s σ H _ I hq) fun us s1 ⟨xs,H1,I1,r,z,q⟩=>⟨by rw [<- r.length];exact z,?_⟩)
 have hf:H1 s1.heap.objs.size = none:=I1.hok.fresh (YAk _)
 refine ⟨.ref s1.heap.objs.size,upd H1 s1.heap.objs.size (.tup xs),I1.laid (t':=s1.toks) (fun b u e=>YAb _ e) (YAk _) ?_,rfl,q _ hf⟩
 exact ⟨z,us,r,⟨_,YAj _ rfl,rfl,_,rfl⟩⟩
theorem zo5 (h:PA X es t):PE X (.List es pos) (tLst t):=by
 intro pins s σ H Q I hq
 refine wpAny_List_spliced (thn (h pos pins s σ H _ I hq) fun us s1 ⟨xs,H1,I1,r,z,q⟩=>⟨by rw [<- r.length];exact z,?_⟩)
 have hf:H1 s1.heap.objs.size = none:=I1.hok.fresh (YAk _)
 refine ⟨.ref s1.heap.objs.size,upd H1 s1.heap.objs.size (.lst xs),I1.laid (t':=s1.toks) (fun b u e=>YAb _ e) (YAk _) ?_,rfl,q _ hf⟩
 exact ⟨z,us,0,r,YAj _ rfl⟩
end
abbrev Sp:=List V->Hp->VK->XK->Prop
abbrev CXT:=List Env->Hp->Shared->XK->Value->Shared->Prop
structure Env0 (P:Program) (w:World) (K:PySem.W.Frag) (mg:Str->Option Value) (base:Heap) (A:Around) (outer:List Env) (s:Shared) (H:Hp):Prop where
 frames:A.frames = some outer
 mod:Mod K mg base
 bs:∀ b o,base.get? b = some o->s.heap.get? b = some o/\H b = none
 bsz:base.objs.size <= s.heap.objs.size
 funs:s.heap.FunFrames base outer
 frf:∀ b ∈ frs outer,H b = none
 hok:HOk P w H s.heap
 bare:AllBare s.gens
def CE (outer:List Env) (P:Program) (w:World) (H:Hp) (s:Shared) (Q:VK) (u:Value) (s':Shared):Prop:=
 ∃ v H',s'.os = s.os/\AllBare s'.gens/\Un (frs outer) [] H H' s.heap s'.heap/\HOk P w H' s'.heap/\RelV v u/\Q v H'
def CR (CX:CXT) (outer:List Env) (P:Program) (w:World) (H:Hp) (s:Shared) (Q:VK) (E:XK) (r:Result) (s':Shared):Prop:=
 match r with
 | .ok (.ret u)=>CE outer P w H s Q u s'
 | .ok _=>False
 | .error e=>CX outer H s E e s'
structure FnOk (P:Program) (w:World) (K:PySem.W.Frag) (mg:Str->Option Value) (base:Heap) (CX:CXT) (k:Nat) (f:Addr) (fd:FuncData) (ps:List Str) (sp:Sp):Prop where
 len:∀ vs H Q E,sp vs H Q E->vs.length = ps.length
 run:∀ (A:Around) (outer:List Env) (s:Shared) (H:Hp) (args:Args) (us:List Value) (vs:List V) (Q:VK) (E:XK),Room k A->Env0 P w K mg base A outer s H->BindsTo s fd args (ps.zip us)->Vals vs us->sp vs H Q E ->
  codeAny (model P w) A (.call (.ref f) args) (CR CX outer P w H s Q E) s
theorem FnOk.imp {P:Program} {w:World} {K:PySem.W.Frag} {mg:Str->Option Value} {base:Heap} {CX:CXT} {k:Nat} {f:Addr} {fd:FuncData} {ps:List Str} {sp sp':Sp} (F:FnOk P w K mg base CX k f fd ps sp)
  (h:∀ vs H Q E,sp' vs H Q E->sp vs H Q E):FnOk P w K mg base CX k f fd ps sp':=
 ⟨fun vs H Q E q=>F.len vs H Q E (h _ _ _ _ q),fun A outer s H args us vs Q E hr he hb hv hs=>F.run A outer s H args us vs Q E hr he hb hv (h _ _ _ _ hs)⟩
theorem Env0.make {P:Program} {w:World} {K:PySem.W.Frag} {mg:Str->Option Value} {base:Heap} {A:Around} {outer:List Env} {s:Shared} {H:Hp} (e:Env0 P w K mg base A outer s H) (C:Addr) (us:List Value) (kw:List (Str × Value)) :
  Env0 P w K mg base (A.under (.builtin "type.__call__" ⟨.ref C :: us,kw⟩)) outer s H:=⟨by first | exact e.frames | (simpa [Around.under,Code.envs,Code.isFrame,pushEnvs] using e.frames),e.mod,e.bs,e.bsz,e.funs,e.frf,e.hok,e.bare⟩
section
variable {X:Cx} {pins:List (Addr × Obj)} {σ:St} {H:Hp} {s s':Shared}
theorem Inv.env0 (I:Inv X pins σ H s):Env0 X.prog X.w X.K X.mg X.base X.A X.stack s H:=
 ⟨I.ok.frames,I.ok.mod,I.bs,YAF I.ok.bsz I.sz,I.stack,I.stkFree,I.hok,I.bare⟩
theorem Inv.after  (I:Inv X pins σ H s) (h:CE X.stack X.prog X.w H s Q u s'):EP X pins σ Q u s':=by
 obtain ⟨v,H',os,bare,un,hok,r,q⟩:=h
 obtain ⟨hh,g,d,t,os'⟩:=s'
 obtain rfl:os' = s.os:=os
 exact ⟨v,H',I.call (h':=hh) (g':=g) (d':=d) (t':=t) (ch:=[]) un hok bare (fun b z=>absurd z (by simp)),r,q⟩
end
def zrf (sp:Sp) (dvs:List V) (E:XK) (t:TA):TE:=fun σ H Q=>t σ H fun vs H1=>sp (vs ++ dvs) H1 Q E
def zkO (C:Addr) (m:Str) (sp:Sp) (dvs:List V) (E:XK) (ta:TE) (t:TA):TE:=fun σ H Q=>ta σ H fun x H1=>∃ a dx fs,x = .ref a/\H1 a = some (.ins C dx fs)/\fs.lookup m = none /\
 t σ H1 fun vs H2=>sp (x :: (vs ++ dvs)) H2 Q E
def ztt (C:Addr) (sp:Sp) (dvs:List V) (E:XK) (t:TA):TE:=fun σ H Q=>t σ H fun vs H1=>∀ x dx,H1 x = none->H1 dx = none->dx ≠ x ->
 sp (.ref x :: (vs ++ dvs)) (upd (upd H1 dx (.own x)) x (.ins C dx [])) (fun v H2=>v = .non/\Q (.ref x) H2) E
def Binds (K:PySem.W.Frag) (fd:FuncData) (ps:List Str) (ds:List Value):Prop:=
 ∀ (s:Shared) (us:List Value),K.In s.heap->(us ++ ds).length = ps.length->BindsTo s fd ⟨us,[]⟩ (ps.zip (us ++ ds))
theorem Binds.all {K:PySem.W.Frag} {fd:FuncData} {ps:List Str} (h:∀ us:List Value,us.length = ps.length->bindArgs fd ⟨us,[]⟩ = pure (ps.zip us)):Binds K fd ps []:=fun s us _ hl=>by
 rw [YAS] at hl ⊢
 exact .of_eq (h us hl)
def zbs (CX:CXT) (X:Cx) (E:XK):Prop:=∀ (pins:List (Addr × Obj)) (σ:St) (H:Hp) (s:Shared) (e:Value) (s':Shared),Inv X pins σ H s->CX X.stack H s E e s'->X.xe e s'
section
variable {X:Cx} {CX:CXT} {k:Nat} {f C:Addr} {fd:FuncData} {ps:List Str} {sp:Sp} {dvs:List V} {ds:List Value} {E:XK} {x m:Str} {p pos apos:Pos} {e o:Expr} {es:List Expr} {ta:TE} {t:TA}
theorem zhO {pins:List (Addr × Obj)} {σ:St} {H:Hp} {s:Shared} {Q:VK} {us:List Value} {vs:List V} (F:FnOk X.prog X.w X.K X.mg X.base CX k f fd ps sp) (hr:Room k X.A) (hb:Binds X.K fd ps ds) (hd:Vals dvs ds) (hx:zbs CX X E)
  (I:Inv X pins σ H s) (r:Vals vs us) (h:sp (vs ++ dvs) H Q E):wpAny (model X.prog X.w) X.A (call (.ref f) us) (EP X pins σ Q) X.xe s:=by
 have r2:Vals (vs ++ dvs) (us ++ ds):=r.append hd
 have hl:(us ++ ds).length = ps.length:=by rw [<- r2.length];exact F.len _ _ _ _ h
 refine YCx (YB4 (F.run X.A X.stack s H ⟨us,[]⟩ (us ++ ds) (vs ++ dvs) Q E hr I.env0 (hb s us I.kIn hl) r2 h) fun r s' hq=>?_)
 cases r with
 | error e=>exact hx pins σ H s e s' I hq
 | ok fl=>
  cases fl with
  | ret u=>exact I.after hq
  | next=>exact False.elim hq
  | brk=>exact False.elim hq
  | cont=>exact False.elim hq
theorem zda (F:FnOk X.prog X.w X.K X.mg X.base CX k f fd ps sp) (hr:Room k X.A) (hg:Gl X x) (hm:X.mg x = some (.ref f)) (hk:PySem.W.keepIn X.K (.ref f) = true) (hb:Binds X.K fd ps ds) (hd:Vals dvs ds) (hx:zbs CX X E)
  (ha:PA X (e :: es) t) (hdb:(x == ("__debug__" : Str)) = false:=by decide) (he:starEach (e :: es) X.env = (false,eval e X.env) :: starEach es X.env:=by rfl) (hpl:(backTo pos (starEach es X.env)).any (·.1) = false:=by rfl) :
  PE X (.Call (.Name x p) (e :: es) [] pos) (zrf sp dvs E t):=by
 intro pins s σ H Q I h
 refine YAX (zdh I hg hm ?_ hdb)
 refine YBB (h₀:=X.base) I.ok.mod.kin hk (thn (ha pos pins s σ H _ I h) fun us s1 ⟨vs,H1,I1,r,q⟩=>⟨I1.kIn,?_⟩) he hpl
 exact zhO F hr hb hd hx I1 r q
theorem zot (F:FnOk X.prog X.w X.K X.mg X.base CX k f fd ps sp) (hr:Room k X.A) (hg:Gl X x) (hm:X.mg x = some (.ref f)) (hk:PySem.W.keepIn X.K (.ref f) = true) (hb:Binds X.K fd ps ds) (hd:Vals dvs ds) (hx:zbs CX X E)
  (hdb:(x == ("__debug__" : Str)) = false:=by decide):PE X (.Call (.Name x p) [] [] pos) (zrf sp dvs E tNil):=by
 intro pins s σ H Q I h
 refine YAX (zdh I hg hm ?_ hdb)
 exact YCk I.kIn hk (zhO (us:=[]) F hr hb hd hx I .nil h)
theorem zpU (he:PE X o ta) (c:Cls X.K C) (hm:Meth X.K C m f) (F:FnOk X.prog X.w X.K X.mg X.base CX k f fd ps sp) (hr:Room k X.A) (hb:Binds X.K fd ps ds) (hd:Vals dvs ds) (hx:zbs CX X E) (ha:PA X (e :: es) t)
  (hst:starEach (e :: es) X.env = (false,eval e X.env) :: starEach es X.env:=by rfl) (hpl:(backTo pos (starEach es X.env)).any (·.1) = false:=by rfl)
  (ht:eval (.Call (.Attribute o m apos) (e :: es) [] pos) X.env = (do
   let ov <- eval o X.env
   standAt apos.atName
   let (f,first) <- holding [ov] (getMethod ov m pl)
   callWith pos f first (backTo pos (starEach (e :: es) X.env)) (backToKw pos (keywordEach [] X.env))):=by rfl) :
  PE X (.Call (.Attribute o m apos) (e :: es) [] pos) (zkO C m sp dvs E ta t):=by
 intro pins s σ H Q I h
 refine YB5 (pl:=pl) (thn (he pins s σ H _ I h) fun u s1 ⟨x,H1,I1,rx,a,dx,fs,ex,ea,l,q⟩=>?_) ht
 subst ex
 obtain rfl:u = Value.ref a:=rx
 refine zeW I1 ea c hm l ?_
 refine YBB (first:=[.ref a]) (h₀:=X.base) I.ok.mod.kin hm.kp (thn (ha pos pins s1 σ H1 _ I1 q) fun us s2 ⟨vs,H2,I2,r,q2⟩=>⟨I2.kIn,?_⟩) hst hpl
 exact zhO (us:=.ref a :: us) (vs:=.ref a :: vs) F hr hb hd hx I2 (.cons rfl r) q2
theorem znE (he:PE X o ta) (c:Cls X.K C) (hm:Meth X.K C m f) (F:FnOk X.prog X.w X.K X.mg X.base CX k f fd ps sp) (hr:Room k X.A) (hb:Binds X.K fd ps ds) (hd:Vals dvs ds) (hx:zbs CX X E)
  (ht:eval (.Call (.Attribute o m apos) [] [] pos) X.env = (do
   let ov <- eval o X.env
   standAt apos.atName
   let (f,first) <- holding [ov] (getMethod ov m pl)
   callWith pos f first (backTo pos (starEach [] X.env)) (backToKw pos (keywordEach [] X.env))):=by rfl) :
  PE X (.Call (.Attribute o m apos) [] [] pos) (zkO C m sp dvs E ta tNil):=by
 intro pins s σ H Q I h
 refine YB5 (pl:=pl) (thn (he pins s σ H _ I h) fun u s1 ⟨x,H1,I1,rx,a,dx,fs,ex,ea,l,q⟩=>?_) ht
 subst ex
 obtain rfl:u = Value.ref a:=rx
 refine zeW I1 ea c hm l ?_
 exact YCk (first:=[.ref a]) I1.kIn hm.kp (zhO (us:=[.ref a]) (vs:=[.ref a]) F hr hb hd hx I1 (.cons rfl .nil) q)
structure Mk (K:PySem.W.Frag) (C f:Addr):Prop where
 makes:PySem.W.makesIn K C = true
 init:PySem.W.findIn K (.ref C) "__init__" = some (some (.ref f))
 fn:PySem.W.isFn K (.ref f) = true
 kp:PySem.W.keepIn K (.ref C) = true
theorem znu    (M:Mk X.K C f) (F:FnOk X.prog X.w X.K X.mg X.base CX k f fd ps sp) (hr:Room (k + 1) X.A) (hb:Binds X.K fd ps ds) (hd:Vals dvs ds)
  (hx:zbs CX X E) (I:Inv X pins σ H s) (r:Vals vs us)
  (h:∀ x dx,H x = none->H dx = none->dx ≠ x->sp (.ref x :: (vs ++ dvs)) (upd (upd H dx (.own x)) x (.ins C dx [])) (fun v H2=>v = .non/\Q (.ref x) H2) E) :
  wpAny (model X.prog X.w) X.A (call (.ref C) us) (EP X pins σ Q) X.xe s:=by
 have hq:=h (s.heap.objs.size + 1) s.heap.objs.size (I.hok.fresh (Nat.le_succ _)) (I.hok.fresh (YAk _)) (YAp (YB9 _))
 have I2:=Inv.made (C:=C) I
 have r2:Vals (V.ref (s.heap.objs.size + 1) :: (vs ++ dvs)) (Value.ref (s.heap.objs.size + 1) :: (us ++ ds)):=.cons rfl (r.append hd)
 have hl:(Value.ref (s.heap.objs.size + 1) :: us ++ ds).length = ps.length:=by
  have e:=r2.length
  rw [F.len _ _ _ _ hq] at e
  exact e.symm
 refine YCx (zoB (f:=f) I.kIn M.makes M.init (YBZ.mp M.fn) (YB4 (F.run _ X.stack _ _ ⟨Value.ref (s.heap.objs.size + 1) :: us,[]⟩ (Value.ref (s.heap.objs.size + 1) :: (us ++ ds)) _ _ E (hr.make C us [])
  (I2.env0.make C us []) (hb _ (Value.ref (s.heap.objs.size + 1) :: us) I2.kIn hl) r2 hq) fun r s' hq'=>?_))
 cases r with
 | error e=>exact hx pins σ _ _ e s' I2 hq'
 | ok fl=>
  cases fl with
  | ret u=>
   obtain ⟨v,H',I3,rv,ev,q3⟩:=I2.after hq'
   subst ev
   exact ⟨rv,⟨V.ref (s.heap.objs.size + 1),H',I3,rfl,q3⟩⟩
  | next=>exact False.elim hq'
  | brk=>exact False.elim hq'
  | cont=>exact False.elim hq'
theorem zn2 (M:Mk X.K C f) (F:FnOk X.prog X.w X.K X.mg X.base CX k f fd ps sp) (hr:Room (k + 1) X.A) (hg:Gl X x) (hm:X.mg x = some (.ref C)) (hb:Binds X.K fd ps ds) (hd:Vals dvs ds) (hx:zbs CX X E)
  (hdb:(x == ("__debug__" : Str)) = false:=by decide):PE X (.Call (.Name x p) [] [] pos) (ztt C sp dvs E tNil):=by
 intro pins s σ H Q I h
 refine YAX (zdh I hg hm ?_ hdb)
 exact YCk I.kIn M.kp (znu (us:=[]) M F hr hb hd hx I .nil h)
end
section
variable {X:Cx} {CX:CXT} {k:Nat} {f C:Addr} {fd:FuncData} {ps ks:List Str} {sp:Sp} {E:XK} {x m:Str} {p pos apos kpos:Pos} {e o:Expr} {es:List Expr} {kws:List Keyword} {te ta:TE} {t tk:TA} {nm:Option Str}
variable {g:List Value->List Value->List Value} {gV:List V->List V->List V}
end
structure FnScope (N P:List Str) (sc:Scope):Prop where
 kind:sc.kind = .function
 co:sc.isCoroutine = false
 gen:sc.isGenerator = false
 nd:N.Nodup
 pre:N.take P.length = P
 par:∀ x ∈ P,sc.names.lookup x = some .local\/sc.names.lookup x = some .cell
 nofree:∀ y ∈ sc.names,y.2 ≠ .free
theorem zh2 {kindOf:Str->Option NameKind} {x:Str}:∀ {binds:List (Str × Value)} {m:Str->Option Value},(∀ v,(x,v) ∉ binds)->bindL kindOf binds m x = m x
 | [],_,_=>rfl
 | (n,v) :: r,m,h=>by
  unfold bindL
  rw [zh2 fun w hw=>h w (YAq _ hw)]
  split
  ·have:x ≠ n:=by rintro rfl;exact h v YAf
   simp [this]
  ·rfl
theorem zhI {kindOf:Str->Option NameKind} {x:Str}:∀ {binds:List (Str × Value)} {m:Str->Option Value},(∀ v,(x,v) ∉ binds)->bindC kindOf binds m x = m x
 | [],_,_=>rfl
 | (n,v) :: r,m,h=>by
  unfold bindC
  rw [zhI fun w hw=>h w (YAq _ hw)]
  split
  ·rfl
  ·have:x ≠ n:=by rintro rfl;exact h v YAf
   simp [this]
theorem zik {kindOf:Str->Option NameKind} {x:Str} {v:Value}:∀ {P:List Str} {vs:List Value} {i:Nat} {m:Str->Option Value},P.Nodup->P[i]? = some x->vs[i]? = some v->kindOf x = some .local ->
  bindL kindOf (P.zip vs) m x = some v
 | [],_,_,_,_,h,_,_=>by simp at h
 | _ :: _,[],_,_,_,_,h,_=>by simp at h
 | p :: P,w :: vs,0,m,nd,h1,h2,hk=>by
  simp at h1 h2;subst h1;subst h2
  show bindL kindOf ((p,w) :: P.zip vs) m p = _
  unfold bindL
  rw [zh2 fun v hv=>(YBk.mp nd).1 (YCl hv).1,if_pos hk]
  simp
 | p :: P,w :: vs,i + 1,m,nd,h1,h2,hk=>by
  show bindL kindOf ((p,w) :: P.zip vs) m x = _
  unfold bindL
  exact zik (i:=i) (YBk.mp nd).2 (by simpa using h1) (by simpa using h2) hk
theorem zhp {kindOf:Str->Option NameKind} {x:Str} {v:Value}:∀ {P:List Str} {vs:List Value} {i:Nat} {m:Str->Option Value},P.Nodup->P[i]? = some x->vs[i]? = some v->kindOf x ≠ some .local ->
  bindC kindOf (P.zip vs) m x = some v
 | [],_,_,_,_,h,_,_=>by simp at h
 | _ :: _,[],_,_,_,_,h,_=>by simp at h
 | p :: P,w :: vs,0,m,nd,h1,h2,hk=>by
  simp at h1 h2;subst h1;subst h2
  show bindC kindOf ((p,w) :: P.zip vs) m p = _
  unfold bindC
  rw [zhI fun v hv=>(YBk.mp nd).1 (YCl hv).1,if_neg hk]
  simp
 | p :: P,w :: vs,i + 1,m,nd,h1,h2,hk=>by
  show bindC kindOf ((p,w) :: P.zip vs) m x = _
  unfold bindC
  exact zhp (i:=i) (YBk.mp nd).2 (by simpa using h1) (by simpa using h2) hk
def zcV (N:List Str) (vs:List V):St:=vs.map some ++ List.replicate (N.length - vs.length) none
def cxOf (CX:CXT) (P:Program) (w:World) (K:PySem.W.Frag) (mg:Str->Option Value) (base:Heap) (N:List Str) (qual:Str) (scope:Scope) (f:Addr) (cd:Value) (A:Around) (outer:List Env) (s:Shared) (H:Hp) (E:XK):Cx where
 prog:=P
 w:=w
 K:=K
 mg:=mg
 base:=base
 A:=A.deeper (envOfC qual scope s.heap.objs.size f cd)
 N:=N
 s₀:=s
 H₀:=H
 env:=envOfC qual scope s.heap.objs.size f cd
 outer:=outer
 stack:=envOfC qual scope s.heap.objs.size f cd :: outer
 ex:=[]
 calm:=true
 fn:=fun _=>true
 pn:=[]
 xe:=fun e s'=>wpAny (model P w) (A.deeper (envOfC qual scope s.heap.objs.size f cd)) (leaving (envOfC qual scope s.heap.objs.size f cd) e) (fun _ s''=>CX outer H s E e s'') (fun e' s''=>CX outer H s E e' s'') s'
theorem zjP {sc:Scope} {n:Nat} {x:Str} (h:sc.names.lookup x = some .cell):∃ c,(cellsFrom n sc.names []).lookup x = some c:=by
 have q:=YBW sc.names n [] (.inl h)
 exact YBN.mp q
theorem zhS {CX:CXT} {P:Program} {w:World} {K:PySem.W.Frag} {mg:Str->Option Value} {base:Heap} {N ps:List Str} {qual:Str} {scope:Scope} {f:Addr} {cd:Value} {A:Around} {outer:List Env} {s s1:Shared} {H:Hp} {E:XK} {us:List Value} {vs:List V}
  (S:FnScope N ps scope) (hd:A.handled = none) (e0:Env0 P w K mg base A outer s H) (hl:vs.length = ps.length) (r:Vals vs us)
  (x:InCallC s s.heap.objs.size (bindL (envOfC qual scope s.heap.objs.size f cd).kindOf (ps.zip us) fun _=>none) (cellsFrom (s.heap.objs.size + 1) scope.names []) (bindC (envOfC qual scope s.heap.objs.size f cd).kindOf (ps.zip us) fun _=>none) s1) :
  Inv (cxOf CX P w K mg base N qual scope f cd A outer s H E) [] (zcV N vs) H s1:=by
 have hpl:ps.length <= N.length:=by have:=congrArg List.length S.pre;rw [YCa] at this;omega
 obtain ⟨h1,tk,rfl,hk⟩:=x.done
 have noA:∀ b:Addr,b ∉ (cxOf CX P w K mg base N qual scope f cd A outer s H E).ex:=fun b z=>absurd (show b ∈ ([]:List Addr) from z) (by simp)
 refine ⟨⟨e0.mod,S.kind,rfl,rfl,YAk _,fun y z c h1 h2=>?_,fun y hy=>?_,fun y c _ h=>?_,fun _=>hd,Around.frames_deeper e0.frames,.inr ⟨rfl,rfl⟩,fun b z=>absurd z (noA b),e0.bs,e0.bsz,fun b _ _=>noA b,fun b z=>absurd z (noA b),e0.funs,e0.frf⟩,
  rfl,e0.bare,Un.kept hk,⟨_,x.toInCall.ns,fun i y v h1 h2 h3=>?_⟩,fun y c h=>⟨_,x.cell y c h⟩,e0.hok.fresh (YAk _),fun y c h=>?_,fun p hp=>absurd (show p ∈ ([]:List (Addr × Obj)) from hp) (by simp),e0.hok.kept hk,?_⟩
 ·exact name_of_addr x.apart (YA0 h1) (YA0 h2)
 ·have hy:scope.names.lookup y = some .cell\/scope.names.lookup y = some .free:=hy
  rcases hy with hy | hy
  ·exact zjP hy
  ·exact absurd rfl (S.nofree _ (YA0 hy))
 ·exact Nat.le_of_lt (x.above y c (YA0 h))
 ·have hi:i < vs.length:=by
   unfold zcV at h2
   by_cases hi:i < vs.length
   ·exact hi
   ·rw [YBK (by simpa using hi)] at h2
    rw [YBg] at h2
    split at h2 <;> cases h2
  have ha:vs[i]? = some v:=by
   unfold zcV at h2
   rw [YA9 (by simpa using hi),YAt] at h2
   cases e:vs[i]? with
   | none=>rw [e] at h2;cases h2
   | some a=>rw [e] at h2;cases h2;rfl
  obtain ⟨u,hu,rv⟩:=r.get ha
  have hp:ps[i]? = some y:=by
   rw [<- S.pre,List.getElem?_take_of_lt (by omega)];exact h1
  have ndP:ps.Nodup:=by rw [<- S.pre];exact S.nd.sublist (List.take_sublist _ _)
  refine ⟨u,rv,?_⟩
  rcases S.par y (YCd hp) with k | k
  ·exact .inl ⟨k,zik ndP hp hu k⟩
  ·obtain ⟨c,e⟩:=zjP (n:=s.heap.objs.size + 1) k
   refine .inr ⟨.inl k,c,e,?_⟩
   have q:=x.cell y c e
   rw [zhp ndP hp hu (by show scope.names.lookup y ≠ _;rw [k];decide)] at q
   exact q
 ·exact e0.hok.fresh (Nat.le_of_lt (x.above y c (YA0 h)))
 ·unfold zcV
  show _ = N.length
  rw [YAs,YAd,List.length_replicate]
  omega
theorem zpX {CX:CXT} {P:Program} {w:World} {K:PySem.W.Frag} {mg:Str->Option Value} {base:Heap} {k:Nat} {f:Addr} {name qual:Str} {params:Arguments} {body:List Stmt} {scope:Scope} {dV kV doc pm cdv ct oc:Value} {an od:Option Addr}
  {osl:Array (Option Value)} {N ps:List Str} {sp:Sp} (lk:K.lookup f = some ⟨oc,od,.func (PySem.W.fnOf name qual params body scope dV kV doc pm an cdv ct),osl⟩) (hcd:PySem.W.codeIn K cdv qual = true) (S:FnScope N ps scope)
  (len:∀ vs H Q E,sp vs H Q E->vs.length = ps.length)
  (hbody:∀ (A:Around) (outer:List Env) (s:Shared) (H:Hp) (vs:List V) (Q:VK) (E:XK),Room k (A.deeper (envOfC qual scope s.heap.objs.size f cdv))->sp vs H Q E ->
   ∃ t,PSs (cxOf CX P w K mg base N qual scope f cdv A outer s H E) body t/\t { nx:=fun _ H'=>Q .non H',rt:=Q } (zcV N vs) H) :
  FnOk P w K mg base CX (k + 1) f (PySem.W.fnOf name qual params body scope dV kV doc pm an cdv ct) ps sp:=by
 refine ⟨len,fun A outer s H args us vs Q E hr e0 hb r hsp=>?_⟩
 have hl:=len _ _ _ _ hsp
 have KX:K.In s.heap:=e0.mod.kin.keeps fun b o e=>(e0.bs b o e).1
 have lim:s.heap.NoLimit:=e0.mod.nolimit.keeps fun b o e=>(e0.bs b o e).1
 have hkind:∀ y ∈ ps.zip us,scope.names.lookup y.1 = some .local\/(scope.names.lookup y.1 = some .cell/\((cellsFrom (s.heap.objs.size + 1) scope.names []).lookup y.1).isSome = true):=fun ⟨n,v⟩ hy=>by
  rcases S.par n (YCl hy).1 with q | q
  ·exact .inl q
  ·exact .inr ⟨q,YBW _ _ _ (.inl q)⟩
 refine codeAny_call_function hr.depth (KX _ _ lk) rfl S.co S.gen rfl (PySem.W.codeRec_of KX hcd) (hb _ _ _ _ ?_)
 refine wpAny_newFunctionEnv_cells S.kind hkind fun env he s1 x=>?_
 subst he
 refine ⟨lim.keeps x.toInCall.keep,codeAny_func ?_⟩
 obtain ⟨t,ht,hq⟩:=hbody A outer s H vs Q E (hr.deeper _) hsp
 have I:Inv (cxOf CX P w K mg base N qual scope f cdv A outer s H E) [] (zcV N vs) H s1:=zhS S hr.hd e0 hl r x
 refine YAL (ht [] s1 (zcV N vs) H _ I hq) (fun fl s' hs=>?_) fun e s' hs=>hs
 have fin:∀ {σ':St} {H':Hp} {v:V} {u:Value},Inv (cxOf CX P w K mg base N qual scope f cdv A outer s H E) [] σ' H' s'->RelV v u->Q v H'->CE outer P w H s Q u s':=
  fun {σ' H' v u} J rv q=>⟨v,H',J.os,J.bare,J.base,J.hok,rv,q⟩
 cases fl with
 | ret u=>
  obtain ⟨v,σ',H',J,rv,q⟩:=hs
  exact fin J rv q
 | next=>
  obtain ⟨σ',H',J,q⟩:=hs
  exact fin (v:=V.non) (u:=Value.none) J rfl q
 | brk=>
  obtain ⟨_,_,_,q⟩:=hs
  exact False.elim q
 | cont=>
  obtain ⟨_,_,_,q⟩:=hs
  exact False.elim q
section
variable {X:Cx} {x:Str} {p pos:Pos} {e:Expr} {es:List Expr} {t:TA} {id T:String} {r:List V->Hp->VK->Prop}
def tCB (r:List V->Hp->VK->Prop) (t:TA):TE:=fun σ H Q=>t σ H fun vs H1=>r vs H1 Q
theorem zdW (hc:CallR X (.builtin id) r) (hg:Gl X x) (hm:X.mg x = none) (hv:bootBuiltins x = some (.builtin id)) (ha:PA X (e :: es) t) (hn:x ≠ "__name__" := by decide) (hdb:(x == ("__debug__" : Str)) = false:=by decide)
  (he:starEach (e :: es) X.env = (false,eval e X.env) :: starEach es X.env:=by rfl) (hpl:(backTo pos (starEach es X.env)).any (·.1) = false:=by rfl):PE X (.Call (.Name x p) (e :: es) [] pos) (tCB r t):=by
 intro pins s σ H Q I h
 refine YAX (zgo I hg hm hv ?_ hn hdb)
 exact PyProof.Rows.callWith_builtin1 (thn (ha pos pins s σ H _ I h) fun us s1 ⟨vs,H1,I1,r1,q1⟩=>hc pins s1 σ H1 vs us Q I1 r1 q1) he hpl
theorem zbX (hc:CallR X (.type T) r) (hg:Gl X x) (hm:X.mg x = none) (hv:bootBuiltins x = some (.type T)) (ha:PA X (e :: es) t) (hn:x ≠ "__name__" := by decide) (hdb:(x == ("__debug__" : Str)) = false:=by decide)
  (he:starEach (e :: es) X.env = (false,eval e X.env) :: starEach es X.env:=by rfl) (hpl:(backTo pos (starEach es X.env)).any (·.1) = false:=by rfl):PE X (.Call (.Name x p) (e :: es) [] pos) (tCB r t):=by
 intro pins s σ H Q I h
 refine YAX (zgo I hg hm hv ?_ hn hdb)
 exact YBj (thn (ha pos pins s σ H _ I h) fun us s1 ⟨vs,H1,I1,r1,q1⟩=>hc pins s1 σ H1 vs us Q I1 r1 q1) he hpl
end
end L2
namespace HT
open PySem PyProof.Rows
section
open PySem.SeqAt
open PySem.AutoSeq1 (wpAny_loadPart')
open PySem.MeetsSeq PySem.MeetsSeq2 PySem.MeetsSeq3
end
section
variable {prog:Program} {w:World} {A:Around} {E:Value->Shared->Prop} {s:Shared}
theorem cat_tup  (ht:IsTup s.heap t vs.toArray) (hb:IsTup s.heap b ws.toArray) (hv:vs ≠ [])
  (h1:ws = []->Q (.ref t) s) (h2:ws ≠ []->Q (.ref s.heap.objs.size) { s with heap:=s.heap.push { cls:=.type "tuple",data:=.seq (vs ++ ws).toArray } })
  (hsz:vs.length + ws.length <= sizeLine):wpAny (model prog w) A (binaryOp .Add (.ref t) (.ref b)) Q E s:=by
 obtain ⟨⟨cls,dd,data,sl⟩,ho,hc,n,hd⟩:=id ht
 obtain ⟨⟨cls2,dd2,data2,sl2⟩,ho2,hc2,n2,hd2⟩:=id hb
 simp only at hc hd hc2 hd2
 subst hc hd hc2 hd2
 have e:vs.toArray ++ ws.toArray = (vs ++ ws).toArray:=by simp
 by_cases hw:ws = []
 ·exact concat_meets ⟨_,ho,rfl⟩ ⟨_,ho2,rfl⟩ YCH seq_tuple_add YBX YBR (YBO _ _)
   (tuple_addW1 t b vs.toArray ws.toArray n n2 dd dd2 sl sl2 (by simpa using hv) (by simp [hw])) ⟨ho,ho2,h1 hw⟩
 ·refine concat_meets ⟨_,ho,rfl⟩ ⟨_,ho2,rfl⟩ YCH seq_tuple_add YBX YBR (YBO _ _)
   (tuple_addW2 t b vs.toArray ws.toArray n n2 dd dd2 sl sl2 (by simpa using hv) (by simpa using hw) (by rw [YAo,YAo];exact hsz)) ⟨ho,ho2,?_⟩
  rw [e]
  exact h2 hw
def sIx (n d:Nat):Option Int->Nat
 | none=>d
 | some v=>if v < 0 then (v + (n:Int)).toNat else min v.toNat n
theorem sIx_none (n d:Nat):sIx n d none = d:=rfl
theorem sIx_nat (n d k:Nat):sIx n d (some (k:Int)) = min k n:=by
 show (if (k:Int) < 0 then ((k:Int) + (n:Int)).toNat else min (k:Int).toNat n) = min k n
 rw [if_neg (by omega),YBI]
theorem zkk (n d:Nat) (hd:d <= n) (o:Option Int):sIx n d o <= n:=by
 cases o with
 | none=>exact hd
 | some v=>
  show (if v < 0 then (v + (n:Int)).toNat else min v.toNat n) <= n
  by_cases hv:v < 0
  ·rw [if_pos hv];omega
  ·rw [if_neg hv];exact Nat.min_le_right _ _
theorem zml (v:Int) (n d:Nat):(if v < 0 then max (v + (n:Int)) 0 else min v (n:Int)) = ((sIx n d (some v):Nat):Int):=by
 show (if v < 0 then max (v + (n:Int)) 0 else min v (n:Int)) = (((if v < 0 then (v + (n:Int)).toNat else min v.toNat n):Nat):Int)
 by_cases hv:v < 0
 ·simp only [if_pos hv];omega
 ·simp only [if_neg hv];omega
theorem zkq (lo hi:Option Int) (n:Nat):Builtin.Slice.sliceAdjust lo hi 1 (n:Int) = (((sIx n 0 lo:Nat):Int),((sIx n n hi:Nat):Int)):=by
 have h1:¬ ((1:Int) < 0):=by omega
 unfold Builtin.Slice.sliceAdjust
 simp only [h1,YB2]
 refine Prod.ext ?_ ?_
 ·cases lo with
  | none=>rfl
  | some v=>exact zml v n 0
 ·cases hi with
  | none=>rfl
  | some v=>exact zml v n n
theorem zkA (i j:Nat):Builtin.Slice.slicePlaces (i:Int) (j:Int) 1 = j - i:=by
 unfold Builtin.Slice.slicePlaces
 have h1:(1:Int) > 0:=by omega
 simp only [h1,YCs,Int.ediv_one]
 split <;> omega
theorem zgu {v:Value} {o:Option Int} {Q:Option Int->Shared->Prop} (p:IsPart v o) (h:Q o s):wpAny (model prog w) A (Builtin.Slice.slicePartIndex v) Q E s:=by
 cases p with
 | none=>exact slicePart_none h
 | int i t=>exact slicePart_int h
theorem zc4 {sl:Addr} {vl vu:Value} {lo hi:Option Int} {n:Nat} {Q:Int × Int × Nat->Shared->Prop} (hs:s.heap.IsSliceOf sl vl vu .none) (pl:IsPart vl lo) (pu:IsPart vu hi)
  (h:Q (((sIx n 0 lo:Nat):Int),1,sIx n n hi - sIx n 0 lo) s):wpAny (model prog w) A (Builtin.Slice.sliceApplied (.ref sl) (pure (n:Int))) Q E s:=by
 obtain ⟨os,hos,hcs,hds⟩:=id hs
 unfold Builtin.Slice.sliceApplied Builtin.Slice.sliceFields
 refine YAa (YAa (YAz hos hds (x:=vl) rfl (YAa (YAz hos hds (x:=vu) rfl (YAa (YAz hos hds (x:=.none) rfl (YAc ?_)))))))
 refine YAa (slicePart_none ?_)
 show wpAny _ _ (if ((1:Int) == 0) = true then _ else _) _ _ s
 rw [if_neg (by decide)]
 refine YAa (zgu pl (YAa (zgu pu (YAa (YAc ?_)))))
 show wpAny _ _ (match Builtin.Slice.sliceAdjust lo hi 1 (n:Int) with | (lo,hi)=>pure (lo,(1:Int),Builtin.Slice.slicePlaces lo hi 1)) _ _ s
 rw [zkq lo hi n]
 show wpAny _ _ (pure (((sIx n 0 lo:Nat):Int),(1:Int),Builtin.Slice.slicePlaces ((sIx n 0 lo:Nat):Int) ((sIx n n hi:Nat):Int) 1)) _ _ s
 rw [zkA]
 exact YAc h
theorem zm6 (xs:Array Value) (i k:Nat):((List.range k).filterMap fun (m:Nat)=>xs[((i:Int) + (m:Int) * 1).toNat]?).toArray = ((xs.toList.drop i).take k).toArray:=by
 have e:(fun (m:Nat)=>xs[((i:Int) + (m:Int) * 1).toNat]?) = fun m=>xs[i + m]?:=by
  funext m
  have:((i:Int) + (m:Int) * 1).toNat = i + m:=by omega
  rw [this]
 rw [e]
 have:=pick_run xs i k
 rw [List.filterMap_map] at this
 have e2:((fun x=>xs[x]?) ∘ fun x=>i + x) = fun m=>xs[i + m]?:=rfl
 rw [e2] at this
 rw [this]
theorem getItem_tuple_cut {t sl:Addr} {items:Array Value} {vl vu:Value} {lo hi:Option Int} {Q:Value->Shared->Prop} (ht:IsTup s.heap t items) (hs:s.heap.IsSliceOf sl vl vu .none) (pl:IsPart vl lo) (pu:IsPart vu hi)
  (hw:¬ (sIx items.size 0 lo = 0/\sIx items.size items.size hi = items.size))
  (h:Q (.ref s.heap.objs.size) { s with heap:=s.heap.push { cls:=.type "tuple",data:=.seq ((items.toList.drop (sIx items.size 0 lo)).take (sIx items.size items.size hi - sIx items.size 0 lo)).toArray } })
  (hsz:items.size <= sizeLine):wpAny (model prog w) A (getItem (.ref t) (.ref sl)) Q E s:=by
 have htake:sizeOk (.seq ((items.toList.drop (sIx items.size 0 lo)).take (sIx items.size items.size hi - sIx items.size 0 lo)).toArray):=by
  show ((items.toList.drop (sIx items.size 0 lo)).take (sIx items.size items.size hi - sIx items.size 0 lo)).toArray.size <= sizeLine
  rw [YAo,YCa,YCI,YA8]
  omega
 have hj:sIx items.size items.size hi <= items.size:=zkk _ _ (YAk _) hi
 obtain ⟨os,hos,hcs,hds⟩:=id hs
 have hTs:s.TypeIs (.ref sl) "slice" := ⟨os,hos,hcs⟩
 unfold getItem
 try with_reducible refine YAN ?_
 first | refine YAa (YAc ?_) | skip
 refine YAa (wpAny_sequenceKey ht.typeIs (by decide) ?_)
 refine YAa (YAA (name:=Str.ofString "__getitem__") ht.typeIs YAJ
  (YAU YAJ ht.typeIs entry_tuple_getitem ?_ (args_tuple_getitem _ _)))
 show wpAny _ _ (Builtin.Tuple.tupleItemsOf (.ref t) >>= _) _ _ s
 refine YAa (tupleItemsOf_ ht ?_)
 refine YAa (YCq hTs ?_)
 rw [if_pos (by decide)]
 refine YAa (zc4 hs pl pu ?_)
 have hno:¬ ((((sIx items.size 0 lo:Nat):Int) == 0 && (1:Int) == 1 && (sIx items.size items.size hi - sIx items.size 0 lo) == items.size) = true):=by
  intro q
  rw [YAx,YAx] at q
  have q1:((sIx items.size 0 lo:Nat):Int) = 0:=eq_of_beq q.1.1
  have q2:sIx items.size items.size hi - sIx items.size 0 lo = items.size:=eq_of_beq q.2
  exact hw ⟨by omega,by omega⟩
 show wpAny _ _ (if (((sIx items.size 0 lo:Nat):Int) == 0 && (1:Int) == 1 && (sIx items.size items.size hi - sIx items.size 0 lo) == items.size) = true then _ else _) _ _ s
 rw [if_neg hno,zm6]
 first
  | exact YAa (m:=Builtin.Tuple.tupleExact _) (YAD (YAc ⟨_,rfl,YAc h⟩) htake)
  | exact YAa (m:=Builtin.Tuple.tupleExact _) (YAD (YAa (YAc (YAc ⟨_,rfl,YAc h⟩))) htake)
  | exact YAa (YAa (m:=Builtin.Tuple.tupleExact _) (YAD (YAc (YAc ⟨_,rfl,YAc h⟩)) htake))
  | exact YAa (YAa (m:=Builtin.Tuple.tupleExact _) (YAD (YAc ⟨_,rfl,YAc h⟩) htake))
end
end HT
namespace L2
open PySem PySem.Spec PyProof.Rows
abbrev TO:=St->Hp->(Option Int->Hp->Prop)->Prop
def PO (X:Cx) (e:Option Expr) (t:TO):Prop:=
 ∀ (pins:List (Addr × Obj)) (s:Shared) (σ:St) (H:Hp) (Q:Option Int->Hp->Prop),Inv X pins σ H s->t σ H Q ->
  wpAny (model X.prog X.w) X.A (evalPart e X.env) (fun u s'=>∃ o H',Inv X pins σ H' s'/\IsPart u o/\Q o H') X.xe s
def zpA:TO:=fun _ H Q=>Q none H
def zsR (t:TE):TO:=fun σ H Q=>t σ H fun x H1=>∃ i,x = .int i/\Q (some i) H1
section
variable {X:Cx} {e:Expr} {te:TE} {lo hi:Option Expr} {tl th:TO} {pos p2:Pos}
theorem zlW:PO X none zpA:=by
 intro pins s σ H Q I h
 rw [evalPart_none]
 exact YAc ⟨none,H,I,.none,h⟩
theorem zl0 (h:PE X e te):PO X (some e) (zsR te):=by
 intro pins s σ H Q I hw
 rw [evalPart_some]
 refine thn (h pins s σ H _ I hw) fun u s1 ⟨x,H1,I1,r1,q1⟩=>?_
 obtain ⟨i,rfl,q⟩:=q1
 obtain ⟨t,rfl⟩:=r1
 exact ⟨some i,H1,I1,.int i t,q⟩
def SlR (X:Cx) (r:V->Option Int->Option Int->Hp->VK->Prop):Prop:=
 ∀ (pins:List (Addr × Obj)) (s:Shared) (σ:St) (H:Hp) (x:V) (v vl vu:Value) (lo hi:Option Int) (sl:Addr) (Q:VK),Inv X pins σ H s->RelV x v->s.heap.IsSliceOf sl vl vu .none->IsPart vl lo->IsPart vu hi->r x lo hi H Q ->
  ∃ T id,typeLookup (.type T) "__getitem__" = pure (some (.builtin id))/\s.TypeIs v T/\wpAny (model X.prog X.w) X.A (getItem v (.ref sl)) (EP X pins σ Q) X.xe s
theorem SlR.or {r r':V->Option Int->Option Int->Hp->VK->Prop} (h:SlR X r) (h':SlR X r'):SlR X (fun x lo hi H Q=>r x lo hi H Q\/r' x lo hi H Q):=by
 intro pins s σ H x v vl vu lo hi sl Q I rx hs pl pu q
 rcases q with q | q
 ·exact h pins s σ H x v vl vu lo hi sl Q I rx hs pl pu q
 ·exact h' pins s σ H x v vl vu lo hi sl Q I rx hs pl pu q
def tSl (r:V->Option Int->Option Int->Hp->VK->Prop) (te:TE) (tl th:TO):TE:=fun σ H Q=>te σ H fun x H1=>tl σ H1 fun l H2=>th σ H2 fun u H3=>r x l u H3 Q
theorem zjE (hr:SlR X r) (he:PE X e te) (hl:PO X lo tl) (hu:PO X hi th):PE X (.Subscript e (.Slice lo hi none p2) pos) (tSl r te tl th):=by
 intro pins s σ H Q I h
 refine Subscript_ (thn (he pins s σ H _ I h) fun v s1 ⟨x,H1,I1,r1,q1⟩=>?_)
 refine wpAny_Slice (thn (hl pins s1 σ H1 _ I1 q1) fun vl s2 ⟨l,H2,I2,pl,q2⟩=>thn (hu pins s2 σ H2 _ I2 q2) fun vu s3 ⟨u,H3,I3,pu,q3⟩=>?_)
 rw [evalPart_none]
 refine YAc ?_
 have I4:Inv X pins σ H3 { s3 with heap:=s3.heap.push { cls:=.type "slice",data:=.fields #[vl,vu,.none] } }:=I3.kept (t':=s3.toks) fun b ob q=>YAb _ q
 obtain ⟨T,id,hT,ht,hg⟩:=hr pins { s3 with heap:=s3.heap.push { cls:=.type "slice",data:=.fields #[vl,vu,.none] } } σ H3 x v vl vu l u s3.heap.objs.size Q I4 r1 (Heap.IsSliceOf.new ..) pl pu q3
 show wpAny (model X.prog X.w) X.A (subscriptTail e (.Slice lo hi none p2) v (.ref s3.heap.objs.size)) (EP X pins σ Q) X.xe { s3 with heap:=s3.heap.push { cls:=.type "slice",data:=.fields #[vl,vu,.none] } }
 exact tail_any (ops:=[.ref s3.heap.objs.size,v]) ht hT hg (by with_unfolding_all rfl)
def cutV (xs:List V) (lo hi:Option Int):List V:=(xs.drop (HT.sIx xs.length 0 lo)).take (HT.sIx xs.length xs.length hi - HT.sIx xs.length 0 lo)
theorem zfY (xs:List V) (lo hi:Option Int):(cutV xs lo hi).length <= xs.length:=by
 unfold cutV
 rw [YCa,YCI]
 omega
def rSlT (K:PySem.W.Frag):V->Option Int->Option Int->Hp->VK->Prop:=fun x lo hi H Q=>∃ a xs,x = .ref a/\SqT K H a xs /\
 ¬ (HT.sIx xs.length 0 lo = 0/\HT.sIx xs.length xs.length hi = xs.length)/\∀ p,H p = none->Q (.ref p) (upd H p (.tup (cutV xs lo hi)))
theorem zrm:SlR X (rSlT X.K):=by
 intro pins s σ H x v vl vu lo hi sl Q I rx hs pl pu h
 obtain ⟨a,xs,rfl,hx,hw,q⟩:=h
 cases rx
 obtain ⟨its,r,ht,hz⟩:=I.tuple hx
 have hlen:its.toArray.size = xs.length:=by rw [YAo];exact r.length.symm
 refine ⟨"tuple",_,YAJ.lookup,ht.typeIs,?_⟩
 refine HT.getItem_tuple_cut ht hs pl pu (by rw [hlen];exact hw) ?_ (by rw [hlen];exact hz)
 rw [hlen]
 refine ⟨.ref s.heap.objs.size,_,I.laid (t':=s.toks) (o:=.tup (cutV xs lo hi)) (fun b ob q=>YAb _ q) (YAk _) ?_,rfl,q _ (I.hok.fresh (YAk _))⟩
 exact ⟨YAF (zfY xs lo hi) hz,_,(r.drop (HT.sIx xs.length 0 lo)).take (HT.sIx xs.length xs.length hi - HT.sIx xs.length 0 lo),IsTup.new _ _⟩
def zsK (K:PySem.W.Frag):R2:=fun x y H Q=>∃ a b xs ys,x = .ref a/\y = .ref b/\SqT K H a xs/\SqT K H b ys/\xs ≠ []/\xs.length + ys.length <= sizeLine /\
 (ys = []->Q (.ref a) H)/\(ys ≠ []->∀ p,H p = none->Q (.ref p) (upd H p (.tup (xs ++ ys))))
theorem Vals.nil_iff  (r:Vals xs us):us = [] ↔ xs = []:=by
 cases r with
 | nil=>simp
 | cons _ _=>simp
theorem zpF:OpR X (binaryOp .Add) (zsK X.K):=by
 intro pins s σ H x y v u Q I rx ry h
 obtain ⟨a,b,xs,ys,rfl,rfl,ha,hb,hx,hz,q1,q2⟩:=h
 cases rx
 cases ry
 obtain ⟨its,r1,p1,_⟩:=I.tuple ha
 obtain ⟨its2,r2,p2,_⟩:=I.tuple hb
 refine HT.cat_tup p1 p2 (fun z=>hx (r1.nil_iff.mp z)) (fun z=>⟨.ref a,H,I,rfl,q1 (r2.nil_iff.mp z)⟩) (fun z=>?_) (by rw [<- r1.length,<- r2.length];exact hz)
 refine ⟨.ref s.heap.objs.size,_,I.laid (t':=s.toks) (o:=.tup (xs ++ ys)) (fun b ob q=>YAb _ q) (YAk _) ?_,rfl,q2 (fun w=>z (r2.nil_iff.mpr w)) _ (I.hok.fresh (YAk _))⟩
 exact ⟨by rw [YAs];exact hz,_,r1.append r2,IsTup.new _ _⟩
end
def ixN (n:Nat) (i:Int):Option Nat:=if 0 <= i then (if i < n then some i.toNat else none) else if -(n:Int) <= i then some (i + n).toNat else none
def atI {α:Type} (xs:List α) (i:Int):Option α:=(ixN xs.length i).bind fun j=>xs[j]?
theorem zmX  (h:ixN n i = some j):seqIndex? i n = some j/\j < n/\-(n:Int) <= i/\i < n:=by
 unfold ixN at h
 by_cases h0:0 <= i
 ·rw [if_pos h0] at h
  by_cases h1:i < n
  ·rw [if_pos h1] at h
   have e:i.toNat = j:=Option.some.inj h
   exact ⟨by rw [seqIndex_of h0 h1,e],by omega,by omega,h1⟩
  ·rw [if_neg h1] at h;cases h
 ·rw [if_neg h0] at h
  by_cases h1:-(n:Int) <= i
  ·rw [if_pos h1] at h
   have e:(i + n).toNat = j:=Option.some.inj h
   exact ⟨by rw [seqIndex_neg (by omega) h1,e],by omega,h1,by omega⟩
  ·rw [if_neg h1] at h;cases h
theorem ziX {α:Type} {xs:List α} {i:Int} {v:α} (h:atI xs i = some v):∃ j,seqIndex? i xs.length = some j/\xs[j]? = some v/\j < xs.length/\-(xs.length:Int) <= i/\i < xs.length:=by
 unfold atI at h
 cases e:ixN xs.length i with
 | none=>rw [e] at h;cases h
 | some j=>
  rw [e] at h
  obtain ⟨h1,h2,h3,h4⟩:=zmX e
  exact ⟨j,h1,h,h2,h3,h4⟩
theorem zaD {α:Type} {xs:List α} {j:Nat} {v:α} (h:xs[j]? = some v):atI xs (j:Int) = some v:=by
 have hj:j < xs.length:=(YAe.mp h).1
 have e:ixN xs.length (j:Int) = some j:=by
  unfold ixN
  rw [if_pos (by omega),if_pos (by omega)];simp
 unfold atI;rw [e];exact h
def zje (b:Expr):Prop:=∀ o i,subscripted b false o i = operate [o,i] (getItem o i)
def IxR (X:Cx) (r:R2):Prop:=
 ∀ (value slice:Expr) (pins:List (Addr × Obj)) (s:Shared) (σ:St) (H:Hp) (x y:V) (v u:Value) (Q:VK),Inv X pins σ H s->RelV x v->RelV y u->r x y H Q ->
  subscripted slice false v u = operate [v,u] (getItem v u)->wpAny (model X.prog X.w) X.A (subscriptTail value slice v u) (EP X pins σ Q) X.xe s
def MtR (X:Cx) (id:String) (r:V->List V->Hp->VK->Prop):Prop:=
 ∀ (pins:List (Addr × Obj)) (s:Shared) (σ:St) (H:Hp) (x:V) (xs:List V) (v:Value) (us:List Value) (Q:VK),Inv X pins σ H s->RelV x v->Vals xs us->r x xs H Q ->
  wpAny (model X.prog X.w) X.A (call (.builtin id) (v :: us)) (EP X pins σ Q) X.xe s
section
variable {X:Cx} {a b:Expr} {ta tb:TE} {pos:Pos}
theorem IxR.or {r r':R2} (h:IxR X r) (h':IxR X r'):IxR X (fun x y H Q=>r x y H Q\/r' x y H Q):=by
 intro value slice pins s σ H x y v u Q I rx ry q hs
 rcases q with q | q
 ·exact h value slice pins s σ H x y v u Q I rx ry q hs
 ·exact h' value slice pins s σ H x y v u Q I rx ry q hs
theorem zfP (hr:IxR X r) (ha:PE X a ta) (hb:PE X b tb) (hs:zje b):PE X (.Subscript a b pos) (tOp r ta tb):=by
 intro pins s σ H Q I h
 exact Subscript_ (binT ha hb I h fun v u s2 x y H2 I2 rx ry q=>hr a b pins s2 σ H2 x y v u Q I2 rx ry q (hs _ _))
def rIxL (K:PySem.W.Frag):R2:=fun x y H Q=>∃ p xs i v,x = .ref p/\y = .int i/\SqL K H p xs/\atI xs i = some v/\Q v H
def rIxT (K:PySem.W.Frag):R2:=fun x y H Q=>∃ p xs i v,x = .ref p/\y = .int i/\SqT K H p xs/\atI xs i = some v/\Q v H
def rIxS:R2:=fun x y H Q=>∃ z i c,x = .str z/\y = .int i/\z.length <= sizeLine/\atI z.cps.toList i = some c/\Q (.str ⟨#[c]⟩) H
theorem ix_list:IxR X (rIxL X.K):=by
 intro value slice pins s σ H x y v u Q I rx ry h hs
 obtain ⟨p,xs,i,z,rfl,rfl,hq,he,q⟩:=h
 cases rx
 obtain ⟨t,rfl⟩:=ry
 obtain ⟨its,r,pl,hz⟩:=I.list hq
 obtain ⟨j,h1,h2,h3,h4,h5⟩:=ziX he
 obtain ⟨w,ew,rw'⟩:=r.get h2
 have hl:=r.length
 have hn:=ze4
 have fin:EP X pins σ Q w s:=⟨z,H,I,rw',q⟩
 by_cases h0:0 <= i
 ·have hj:i.toNat = j:=by
   rw [seqIndex_of h0 h5] at h1
   exact Option.some.inj h1
  exact item_listR pl.isList h0 (by omega) (by rw [hj];simpa using ew) fin hs
 ·have hj:(i + (its.toArray.size:Int)).toNat = j:=by
   rw [seqIndex_neg (by omega) h4] at h1
   rw [YAo,<- hl]
   exact Option.some.inj h1
  exact subscriptTail_builtinR (x:=w) pl.isList.typeIs slot_list_getitem.lookup
   (wpAny_getItem_list_neg (Q:=fun r s'=>r = w/\EP X pins σ Q r s') pl.isList (by omega) (by rw [YAo] <;> omega) (by omega) (by rw [hj];simpa using ew) ⟨rfl,fin⟩) hs
theorem ix_tup:IxR X (rIxT X.K):=by
 intro value slice pins s σ H x y v u Q I rx ry h hs
 obtain ⟨p,xs,i,z,rfl,rfl,hq,he,q⟩:=h
 cases rx
 obtain ⟨t,rfl⟩:=ry
 obtain ⟨its,r,pl,hz⟩:=I.tuple hq
 obtain ⟨j,h1,h2,h3,h4,h5⟩:=ziX he
 obtain ⟨w,ew,rw'⟩:=r.get h2
 have hl:=r.length
 have hn:=ze4
 have fin:EP X pins σ Q w s:=⟨z,H,I,rw',q⟩
 exact subscriptTail_builtinR (x:=w) pl.typeIs slot_tuple_getitem.lookup
  (getItem_tuple (j:=j) (Q:=fun r s'=>r = w/\EP X pins σ Q r s') pl (by omega) (by omega) (by rw [YAo,<- hl];exact h1) (by simpa using ew) ⟨rfl,fin⟩) hs
theorem zrY:IxR X rIxS:=by
 intro value slice pins s σ H x y v u Q I rx ry h hs
 obtain ⟨z,i,c,rfl,rfl,hz,he,q⟩:=h
 obtain ⟨t,rfl⟩:=rx
 obtain ⟨t',rfl⟩:=ry
 obtain ⟨j,h1,h2,h3,h4,h5⟩:=ziX he
 have hl:z.cps.toList.length = z.length:=by simp [Str.length]
 rw [hl] at h1 h4 h5
 have hn:=ze4
 exact tail_any (YCy s z t) slot_str_getitem.lookup (getItem_str (c:=c) (by
  have e1:decide (i < -(2 ^ 63:Int)) = false:=YAv (by omega)
  have e2:decide (i ≥ 2 ^ 63) = false:=YAv (by omega)
  rw [e1,e2,Bool.or_false]) (by rw [h1];simpa using h2) ⟨.str ⟨#[c]⟩,H,I.tok _,⟨_,rfl⟩,q⟩) hs
def rIx (K:PySem.W.Frag):R2:=fun x y H Q=>rIxL K x y H Q\/rIxT K x y H Q\/rIxS x y H Q
theorem zoI:IxR X (rIx X.K):=ix_list.or (ix_tup.or zrY)
theorem zkE (its:List Value) (n j:Nat) (u:Value):Obj.mapSeq (·.setIfInBounds j u) { cls:=.type "list",data:=.seq its.toArray n } = { cls:=.type "list",data:=.seq (its.set j u).toArray n }:=by
 simp [Obj.mapSeq]
theorem Inv.lst {pins:List (Addr × Obj)} {σ:St} {H:Hp} {s:Shared} {p:Addr} {xs:List V} (I:Inv X pins σ H s) (h:H p = some (.lst xs)) :
  ∃ (its:List Value) (n:Nat),Vals xs its/\s.heap.get? p = some { cls:=.type "list",data:=.seq its.toArray n }/\xs.length <= sizeLine:=by
 obtain ⟨z,its,n,r,e⟩:=I.hok p _ h
 exact ⟨its,n,r,e,z⟩
theorem Inv.lstUpd {pins:List (Addr × Obj)} {σ:St} {H:Hp} {s:Shared} {p:Addr} {xs ys:List V} {its its':List Value} {n n':Nat} {f:Obj->Obj} (I:Inv X pins σ H s) (h:H p = some (.lst xs))
  (ho:s.heap.get? p = some { cls:=.type "list",data:=.seq its.toArray n }) (hf:f { cls:=.type "list",data:=.seq its.toArray n } = { cls:=.type "list",data:=.seq its'.toArray n' }) (r:Vals ys its') (hz:ys.length <= sizeLine) (t:Nat) :
  Inv X pins σ (upd H p (.lst ys)) { s with heap:=s.heap.update p f,toks:=t }:=by
 have e:(s.heap.update p f).get? p = some { cls:=.type "list",data:=.seq its'.toArray n' }:=by
  rw [YAK f ho (by rw [hf] <;> rfl),hf]
 refine I.write (x:=p) (e:=p) (by rw [h];trivial) (.inl rfl) (fun b u hb q=>(YAC _ _ (YAH hb)).trans q) ⟨_,e⟩ ?_
 exact ⟨hz,its',n',r,e⟩
def ztn:V->V->V->Hp->(Hp->Prop)->Prop:=fun o i v H Q=>∃ p xs k j,o = .ref p/\i = .int k/\H p = some (.lst xs)/\ixN xs.length k = some j/\Q (upd H p (.lst (xs.set j v)))
theorem zdR:PSet X ztn:=by
 intro pins s σ H o i v ov iv u Q I ro ri rv h
 obtain ⟨p,xs,k,j,rfl,rfl,hp,hj,q⟩:=h
 cases ro
 obtain ⟨t,rfl⟩:=ri
 obtain ⟨its,n,r,ho,hz⟩:=I.lst hp
 obtain ⟨h1,h2,h3,h4⟩:=zmX hj
 have hl:=r.length
 have hn:=ze4
 have I':Inv X pins σ (upd H p (.lst (xs.set j v))) { s with heap:=s.heap.update p (Obj.mapSeq (·.setIfInBounds j u)) }:=
  I.lstUpd hp ho (zkE its n j u) (r.set rv j) (by rw [YCm];exact hz) s.toks
 by_cases h0:0 <= k
 ·have hk:k.toNat = j:=by
   rw [seqIndex_of h0 h4] at h1
   exact Option.some.inj h1
  exact PySem.W.ki_setAt ho h0 (by omega) (by rw [YAo,<- hl];exact h4) (by rw [hk];exact ⟨_,I',q⟩)
 ·have hk:(k + (its.toArray.size:Int)).toNat = j:=by
   rw [seqIndex_neg (by omega) h3] at h1
   rw [YAo,<- hl]
   exact Option.some.inj h1
  exact PySem.W.ki_setBack ho (by omega) (by rw [YAo,<- hl];exact h3) (by omega) (by rw [hk];exact ⟨_,I',q⟩)
theorem zh7 (lo hi:Option Int) (n:Nat):(sliceBounds lo hi none n).1 = ((HT.sIx n 0 lo:Nat):Int)/\(sliceBounds lo hi none n).2.1 = ((HT.sIx n n hi:Nat):Int)/\(sliceBounds lo hi none n).2.2 = 1:=by
 refine ⟨?_,?_,rfl⟩
 ·cases lo with
  | none=>simp [sliceBounds,HT.sIx]
  | some i=>
   simp only [sliceBounds,HT.sIx,Option.getD_none,show (1:Int) > 0 by decide,YCs]
   by_cases h:i < 0
   ·simp only [h,YCs] <;> omega
   ·simp only [h,YB2] <;> omega
 ·cases hi with
  | none=>simp [sliceBounds,HT.sIx]
  | some i=>
   simp only [sliceBounds,HT.sIx,Option.getD_none,show (1:Int) > 0 by decide,YCs]
   by_cases h:i < 0
   ·simp only [h,YCs] <;> omega
   ·simp only [h,YB2] <;> omega
theorem zg6 (its:List Value) (lo hi:Option Int):slicePick its.toArray lo hi none = ((its.drop (HT.sIx its.length 0 lo)).take (HT.sIx its.length its.length hi - HT.sIx its.length 0 lo)).toArray:=by
 obtain ⟨h1,h2,h3⟩:=zh7 lo hi its.toArray.size
 unfold slicePick
 rw [h1,h2,h3]
 simp only [sliceRange_one,pick_run,YAo] <;> rfl
def rSlL (K:PySem.W.Frag):V->Option Int->Option Int->Hp->VK->Prop:=fun x lo hi H Q=>∃ a xs,x = .ref a/\SqL K H a xs/\∀ p,H p = none->Q (.ref p) (upd H p (.lst (cutV xs lo hi)))
theorem sl_list:SlR X (rSlL X.K):=by
 intro pins s σ H x v vl vu lo hi sl Q I rx hs pl pu h
 obtain ⟨a,xs,rfl,hx,q⟩:=h
 cases rx
 obtain ⟨its,r,ht,hz⟩:=I.list hx
 have hlen:=r.length
 refine ⟨"list",_,slot_list_getitem.lookup,ht.isList.typeIs,?_⟩
 refine wpAny_getItem_list_slice ht.isList hs pl pu .none (by simp) ?_ (by rw [YAo] <;> omega)
 rw [zg6,<- hlen]
 refine ⟨.ref s.heap.objs.size,_,I.laid (t':=s.toks) (o:=.lst (cutV xs lo hi)) (fun b ob q=>YAb _ q) (YAk _) ?_,rfl,q _ (I.hok.fresh (YAk _))⟩
 exact ⟨YAF (zfY xs lo hi) hz,_,0,(r.drop (HT.sIx xs.length 0 lo)).take (HT.sIx xs.length xs.length hi - HT.sIx xs.length 0 lo),YAj _ rfl⟩
theorem zhM:OpR X (compareOp .NotIn) (fun x y H Q=>∃ i j,x = .str i/\y = .str j/\Q (.bl (!(!(Builtin.Str.occurrences j i 0 j.length 1).isEmpty))) H):=by
 intro pins s σ H x y v u Q I rx ry h
 obtain ⟨i,j,rfl,rfl,q⟩:=h
 obtain ⟨t,rfl⟩:=rx
 obtain ⟨t',rfl⟩:=ry
 exact notIn_str ⟨.bl _,H,I,rfl,q⟩
theorem call_len_seq:CallR X (.builtin "len") (fun xs H Q=>∃ p ys,xs = [.ref p]/\(SqL X.K H p ys\/SqT X.K H p ys)/\Q (.int ys.length) H):=by
 intro pins s σ H xs us Q I r h
 obtain ⟨p,ys,rfl,hq,q⟩:=h
 obtain ⟨u,rfl,rx⟩:=zeI r
 cases rx
 have hn:=ze4
 rcases hq with hq | hq
 ·obtain ⟨its,r',pl,hz⟩:=I.list hq
  have hlen:=r'.length
  exact Calls.call_len_list pl.isList (by simp only [YAo] <;> omega) ⟨.int ys.length,H,I.tok _,⟨s.toks + 1,by rw [YAo,hlen]⟩,q⟩
 ·obtain ⟨its,r',pl,hz⟩:=I.tuple hq
  have hlen:=r'.length
  exact len_tuple pl (by simp only [YAo] <;> omega) ⟨.int ys.length,H,I.tok _,⟨s.toks + 1,by rw [YAo,hlen]⟩,q⟩
theorem ziv:CallR X (.builtin "len") (fun xs H Q=>∃ z,xs = [.str z]/\z.length <= sizeLine/\Q (.int z.length) H):=by
 intro pins s σ H xs us Q I r h
 obtain ⟨z,rfl,hz,q⟩:=h
 obtain ⟨u,rfl,t,rfl⟩:=zeI r
 have hn:=ze4
 exact len_str (by omega) ⟨.int z.length,H,I.tok _,⟨_,rfl⟩,q⟩
theorem CallR.or {f:Value} {r r':List V->Hp->VK->Prop} (h:CallR X f r) (h':CallR X f r'):CallR X f (fun xs H Q=>r xs H Q\/r' xs H Q):=by
 intro pins s σ H xs us Q I rs q
 rcases q with q | q
 ·exact h pins s σ H xs us Q I rs q
 ·exact h' pins s σ H xs us Q I rs q
theorem zc8:CallR X (.type "list") (fun xs H Q=>∃ p ys,xs = [.ref p]/\(SqL X.K H p ys\/SqT X.K H p ys)/\∀ l,H l = none->Q (.ref l) (upd H l (.lst ys))):=by
 intro pins s σ H xs us Q I r h
 obtain ⟨p,ys,rfl,hq,q⟩:=h
 obtain ⟨u,rfl,rx⟩:=zeI r
 cases rx
 have fin:∀ (its:List Value),Vals ys its->ys.length <= sizeLine->∀ (h':Heap) (c':Nat),(∀ b o',s.heap.get? b = some o'->h'.get? b = some o') ->
   h'.get? s.heap.objs.size = some { cls:=.type "list",dict:=none,data:=.seq its.toArray c',slots:=#[] }->EP X pins σ Q (.ref s.heap.objs.size) { s with heap:=h' }:=fun its r' hz h' c' kp e=>
  ⟨.ref s.heap.objs.size,_,I.laid (t':=s.toks) kp (YAk _) (show ObjOk X.prog X.w _ h' _ (.lst ys) from ⟨hz,its,c',r',e⟩),rfl,q _ (I.hok.fresh (YAk _))⟩
 rcases hq with hq | hq
 ·obtain ⟨its,r',pl,hz⟩:=I.list hq
  have hlen:=r'.length
  obtain ⟨o,ho,hc,n,hd⟩:=pl.isList
  exact call_list_seq p (.inl rfl) ho hc hd (fun h' c' kp e=>fin its r' hz h' c' kp e) (by simp only [YAo] <;> omega)
 ·obtain ⟨its,r',pl,hz⟩:=I.tuple hq
  have hlen:=r'.length
  obtain ⟨o,ho,hc,n,hd⟩:=pl
  exact call_list_seq p (.inr rfl) ho hc hd (fun h' c' kp e=>fin its r' hz h' c' kp e) (by simp only [YAo] <;> omega)
def tyV (K:PySem.W.Frag) (T:String) (x:V) (H:Hp):Prop:=match x with
 | .str _=>T = "str"
 | .int _=>T = "int"
 | .ref p=>(T = "list" /\ ∃ xs,SqL K H p xs)\/(T = "tuple" /\ ∃ o,K.lookup p = some o/\o.cls = .type "tuple" /\ o.dict = none) \/
   (T = "dict" /\ ((∃ kvs,H p = some (.dK kvs))\/∃ kvs,H p = some (.dT kvs)))\/(T = "set" /\ ∃ S n,H p = some (.set S n))
 | _=>False
theorem zri    (I:Inv X pins σ H s) (r:RelV x v) (ty:tyV X.K T x H) :
  s.TypeIs v T/\∀ a,v = .ref a->∃ ob,s.heap.get? a = some ob/\ob.dict = none:=by
 cases x with
 | str z=>
  obtain ⟨t,rfl⟩:=r
  cases (show T = "str" from ty)
  exact ⟨YCy s z t,fun _ e=>nomatch e⟩
 | int i=>
  obtain ⟨t,rfl⟩:=r
  cases (show T = "int" from ty)
  exact ⟨typeIs_int s i t,fun _ e=>nomatch e⟩
 | ref p=>
  cases r
  rcases ty with ⟨rfl,xs,hq⟩ | ⟨rfl,o,hk,hc,hd⟩ | ⟨rfl,hk⟩ | ⟨rfl,S,n,hk⟩
  ·obtain ⟨its,_,pl,_⟩:=I.list hq
   refine ⟨pl.isList.typeIs,fun a e=>?_⟩
   cases e
   obtain ⟨o,n,e,c,hd,_⟩:=pl
   exact ⟨o,e,hd⟩
  ·refine ⟨⟨o,I.kIn p o hk,hc⟩,fun a e=>?_⟩
   cases e
   exact ⟨o,I.kIn _ o hk,hd⟩
  ·have z:∃ o,s.heap.get? p = some o/\o.ExactDict:=by
    rcases hk with ⟨kvs,hk⟩ | ⟨kvs,hk⟩
    ·obtain ⟨_,_,_,_,o,_,_,e,ex,_⟩:=I.hok p _ hk
     exact ⟨o,e,ex⟩
    ·obtain ⟨_,_,_,_,o,_,_,e,ex,_⟩:=I.hok p _ hk
     exact ⟨o,e,ex⟩
   obtain ⟨o,e,ex⟩:=z
   refine ⟨⟨o,e,ex.1⟩,fun a e2=>?_⟩
   cases e2
   exact ⟨o,e,ex.2.1⟩
  ·obtain ⟨o,_,_,_,e,ex,_⟩:=I.hok p _ hk
   refine ⟨⟨o,e,ex.1⟩,fun a e2=>?_⟩
   cases e2
   exact ⟨o,e,ex.2.1⟩
 | _=>exact False.elim ty
def tBM (K:PySem.W.Frag) (T:String) (r:V->List V->Hp->VK->Prop) (to:TE) (t:TA):TE:=fun σ H Q=>to σ H fun x H1=>tyV K T x H1/\t σ H1 fun xs H2=>r x xs H2 Q
variable {o e:Expr} {es:List Expr} {to:TE} {t:TA} {name:Str} {apos cpos:Pos} {T id:String} {r:V->List V->Hp->VK->Prop}
theorem zn9 (pa:PlainAttrs T) (slot:Slot T name id) (hty:typeOf (.builtin id) = pure (.type "method_descriptor")) (hm:MtR X id r) (ho:PE X o to) (ha:PA X (e :: es) t)
  (hbase:attributeBase o name X.env (eval o X.env) = eval o X.env:=by rfl)
  (hfew:((backTo cpos (starEach (e :: es) X.env)).all (fun x=>!x.1) && (backToKw cpos (keywordEach [] X.env)).all (fun x=>x.1.isSome)
   && decide ((e :: es).length + ([]:List Keyword).length + (if ([]:List Keyword).isEmpty then 0 else 1) < 30)) = true:=by rfl)
  (hline:(apos.endLine == cpos.line) = true:=by rfl) (hs:starEach (e :: es) X.env = (false,eval e X.env) :: starEach es X.env:=by rfl) (hplain:(backTo cpos (starEach es X.env)).any (·.1) = false:=by rfl) :
  PE X (.Call (.Attribute o name apos) (e :: es) [] cpos) (tBM X.K T r to t):=by
 intro pins s σ H Q I h
 refine wpAny_Call_method_late hbase hfew hline rfl (thn (ho pins s σ H _ I h) fun v s1 ⟨x,H1,I1,r1,ty,q1⟩=>?_)
 obtain ⟨h1,h2⟩:=zri I1 r1 ty
 refine ⟨T,id,pa,slot,hty,h1,h2,?_⟩
 have hA:=ha cpos pins s1 σ H1 _ I1 q1
 rw [hs] at hA ⊢
 refine Calls.callWith_builtin (by show (false || (backTo cpos (starEach es X.env)).any (·.1)) = false;rw [hplain] <;> rfl) (Calls.evalArgs_plain ?_)
 exact thn hA fun us s2 ⟨vs,H2,I2,r2,q2⟩=>hm pins s2 σ H2 x vs v us Q I2 r1 r2 q2
end
def MtM (X:Cx) (id:String) (r:V->List V->Hp->VK->Prop):Prop:=
 ∀ (pins:List (Addr × Obj)) (s:Shared) (σ:St) (H:Hp) (x:V) (xs:List V) (v:Value) (us:List Value) (Q:VK),Inv X pins σ H s->RelV x v->Vals xs us->r x xs H Q ->
  wpAny (model X.prog X.w) X.A (call (.builtin id) (v :: us)) (EP X pins σ Q) X.xe s
theorem Vals.one:∀ {x:V} {us:List Value},Vals [x] us->∃ u,us = [u]/\RelV x u
 | _,_,.cons r .nil=>⟨_,rfl,r⟩
theorem Vals.rep  (h:Vals xs us):∀ k:Nat,Vals (List.replicate k xs).flatten (List.replicate k us).flatten
 | 0=>.nil
 | k + 1=>by
  rw [YA1,YA1,YBi,YBi]
  exact Vals.append h (Vals.rep h k)
theorem zhR (its:List Value):∀ (k:Nat) (acc:List Value),
  List.foldl (fun x1 x2=>x1 ++ x2) acc.toArray (List.replicate k its.toArray) = (acc ++ (List.replicate k its).flatten).toArray
 | 0,acc=>by simp
 | k + 1,acc=>by
  have e:acc.toArray ++ its.toArray = (acc ++ its).toArray:=by simp
  have e2:(acc ++ its) ++ (List.replicate k its).flatten = acc ++ (List.replicate (k + 1) its).flatten:=by
   rw [YA1,YBi,YCz]
  rw [<- e2,<- zhR its k (acc ++ its),<- e,YA1,List.foldl_cons]
section
variable {X:Cx} {pins:List (Addr × Obj)} {σ:St} {H:Hp} {s:Shared} {l b:Addr} {xs ys zs:List V}
theorem Inv.lset {its its':List Value} {n:Nat} {f:Array Value->Array Value} {t':Nat} (I:Inv X pins σ H s) (hH:H l = some (.lst xs))
  (e:s.heap.get? l = some { cls:=.type "list",data:=.seq its.toArray n }) (hf:f its.toArray = its'.toArray) (hv:Vals ys its') (hz:ys.length <= sizeLine) :
  Inv X pins σ (upd H l (.lst ys)) { s with heap:=s.heap.update l (Obj.mapSeq f),toks:=t' }:=by
 have q:=PySem.IsL.update e f
 rw [hf] at q
 refine I.write (x:=l) (e:=l) (by rw [hH];exact trivial) (.inl rfl) (fun b' u hb hu=>(YAC s.heap (Obj.mapSeq f) (YAH hb)).trans hu) ⟨_,q⟩ ?_
 exact ⟨hz,its',_,hv,q⟩
theorem Inv.lnew  (I:Inv X pins σ H s) (hv:Vals ys its) (hz:ys.length <= sizeLine) :
  Inv X pins σ (upd H s.heap.objs.size (.lst ys)) { s with heap:=s.heap.push { cls:=.type "list",data:=.seq its.toArray },toks:=t' }:=
 I.laid (fun _ _ q=>YAb _ q) (YAk _) ⟨hz,its,0,hv,YAj _ rfl⟩
theorem Inv.fresh (I:Inv X pins σ H s):H s.heap.objs.size = none:=I.hok.fresh (YAk _)
theorem Inv.lstM (I:Inv X pins σ H s) (hH:H l = some (.lst xs)):xs.length <= sizeLine/\∃ (its:List Value) (n:Nat),Vals xs its/\xs.length = its.length/\s.heap.get? l = some { cls:=.type "list",data:=.seq its.toArray n }:=by
 obtain ⟨z,its,n,r,e⟩:=I.hok l _ hH
 exact ⟨z,its,n,r,r.length,e⟩
theorem znL {n:Nat} (h:n <= sizeLine):Builtin.List.listTooLong n = false:=by
 unfold Builtin.List.listTooLong
 exact YAv (by omega)
end
section
variable {X:Cx}
def zpu:V->List V->Hp->VK->Prop:=fun x vs H Q=>∃ l xs y,x = .ref l/\vs = [y]/\H l = some (.lst xs)/\xs.length < sizeLine/\Q .non (upd H l (.lst (xs ++ [y])))
theorem zfr:MtM X "list.append" zpu:=by
 intro pins s σ H x vs v us Q I rx rv h
 obtain ⟨l,xs,y,rfl,rfl,hH,hz,q⟩:=h
 cases rx
 obtain ⟨u,rfl,ru⟩:=rv.one
 obtain ⟨z,its,n,r,hl,e⟩:=I.lstM hH
 refine YCh F.slot_list_append ⟨_,e,rfl⟩ F.entry_list_append (F.args_list_append_2 _ _) (PySem.list_append l its.toArray n u (by rw [YAo];omega)) ⟨e,?_⟩
 refine ⟨.non,_,I.lset (its':=its ++ [u]) hH e (by simp) (r.append (.cons ru .nil)) ?_,rfl,q⟩
 rw [YAs,List.length_singleton]
 omega
def rCat:R2:=fun x y H Q=>∃ l b xs zs,x = .ref l/\y = .ref b/\H l = some (.lst xs)/\H b = some (.lst zs)/\xs.length + zs.length <= sizeLine/\∀ p,H p = none->Q (.ref p) (upd H p (.lst (xs ++ zs)))
theorem op_cat:OpR X (binaryOp .Add) rCat:=by
 intro pins s σ H x y v u Q I rx ry h
 obtain ⟨l,b,xs,zs,rfl,rfl,hH,hB,hz,q⟩:=h
 cases rx
 cases ry
 obtain ⟨z,its,n,r,hl,e⟩:=I.lstM hH
 obtain ⟨z2,its2,n2,r2,hl2,e2⟩:=I.lstM hB
 refine PySem.P.add_list e e2 ?_ (by rw [YAo,YAo];omega)
 have ea:its.toArray ++ its2.toArray = (its ++ its2).toArray:=by simp
 rw [ea]
 exact ⟨.ref _,_,I.lnew (t':=s.toks) (r.append r2) (by rw [YAs];omega),rfl,q _ I.fresh⟩
def rRep:R2:=fun x y H Q=>∃ l k xs,x = .ref l/\y = .int k/\H l = some (.lst xs)/\-(2 ^ 63) <= k/\k < 2 ^ 63/\xs.length * k.toNat <= sizeLine /\
 ∀ p,H p = none->Q (.ref p) (upd H p (.lst (List.replicate k.toNat xs).flatten))
theorem zpT {α:Type} (xs:List α) (k:Nat):(List.replicate k xs).flatten.length = k * xs.length:=by
 induction k with
 | zero=>simp
 | succ k ih=>rw [YA1,YBi,YAs,ih,Nat.succ_mul,Nat.add_comm]
theorem zo1:OpR X (binaryOp .Mult) rRep:=by
 intro pins s σ H x y v u Q I rx ry h
 obtain ⟨l,k,xs,rfl,rfl,hH,h1,h2,hz,q⟩:=h
 cases rx
 obtain ⟨t,rfl⟩:=ry
 obtain ⟨z,its,n,r,hl,e⟩:=I.lstM hH
 have hlen:its.toArray.size * k.toNat <= sizeLine:=by rw [YAo,<- hl];exact hz
 have hcap:¬ its.toArray.size * k.toNat > (2 ^ 63 - 1) / 8:=by
  have:(sizeLine:Nat) <= (2 ^ 63 - 1) / 8:=by decide
  omega
 have hfit:¬ (!Builtin.List.listFitsIndex k) = true:=by
  rw [fitsIndex_both h1 h2]
  exact YA4
 have hlong:¬ Builtin.List.listTooLong (its.toArray.size * k.toNat) = true:=by
  rw [znL hlen]
  exact YA4
 have hnew:List.foldl (fun x1 x2=>x1 ++ x2) #[] (List.replicate (if its.toArray.isEmpty = true then 0 else k.toNat) its.toArray) = (List.replicate k.toNat its).flatten.toArray:=by
  have f0:∀ m:Nat,List.foldl (fun x1 x2=>x1 ++ x2) #[] (List.replicate m its.toArray) = (List.replicate m its).flatten.toArray:=fun m=>by
   have:=zhR its m []
   rw [YCO] at this
   exact this
  rw [f0]
  cases its with
  | nil=>simp
  | cons a r'=>rw [if_neg (by simp)]
 refine wpAny_binaryOp_repeat_ref (T := "list") (U := "int") (by decide) ⟨_,e,rfl⟩ (fun s'=>typeIs_int s' k t) noFill_list_mul F.fills_int_mul F.slot_int_rmul repeat_list F.slot_int_index.lookup
  (YCh F.slot_int_rmul (typeIs_int s k t) F.entry_int_rmul (F.args_int_rmul_2 _ _) (int___rmul___int_list k t l its.toArray n)
   ⟨e,rfl,⟨_,e,rfl⟩,YCh F.slot_list_mul ⟨_,e,rfl⟩ F.entry_list_mul (F.args_list_mul_2 _ _) (AutoListH.list___mul___list_int_3 l its.toArray n k t hfit hcap hlong) ⟨e,?_⟩⟩)
 rw [hnew]
 exact ⟨.ref _,_,I.lnew (t':=s.toks) (r.rep k.toNat) (by rw [zpT,Nat.mul_comm];exact hz),rfl,q _ I.fresh⟩
end
section
variable {prog:Program} {w:World} {A:Around} {E:Value->Shared->Prop} {s:Shared}
end
section
variable {X:Cx}
end
end L2
namespace Att
open PySem PySem.W PySem.Calls PyProof.Rows
theorem zfI {P:Params} {h:Heap}:∀ (ns:List Int) (vs:List Value),WellAll P h vs (ns.map WData.int)->IntsAre vs ns:=by
 intro ns
 induction ns with
 | nil=>
  intro vs w
  rw [YA7] at w
  cases w
  exact .nil
 | cons n ns ih=>
  intro vs w
  rw [YAm] at w
  cases w with
  | cons a b=>
   cases a
   exact .cons _ _ (ih _ b)
theorem zk3 {l:OpenLaw} {n:Nat} (hn:l.most = some n) {P:Params} {h:Heap} {args:List WData} {vals:List Value}
  (hpre:l.row.toRowW.claim.pre args = true) (hwl:WellAll P h vals args) :
  ∃ a vs ns,vals = [Value.ref a]/\args = [WData.list (ns.map WData.int)]/\h.get? a = some { cls:=.type "list",data:=.seq vs.toArray }/\IntsAre vs ns/\ns.length <= n:=by
 have hsh:WShape.hasAll [] args [.list .int] = true:=(pre_splitW hpre).1
 have hc:l.pre.holds [] { args:=args } = true:=(pre_splitW hpre).2
 obtain ⟨d,r,rfl,h1,h2⟩:=hasAllW_cons hsh
 obtain rfl:=hasAllW_nil h2
 obtain ⟨xs,rfl,h3⟩:=hasW_list h1
 obtain ⟨ns,rfl⟩:=items_int h3
 have hlen:ns.length <= n:=by
  unfold OpenLaw.pre at hc
  have h4:(WTm.not (.lt (.lit (.int (n:Int))) (.len (.arg 0)))).holds [] { args:=[.list (ns.map .int)] } = true:=by
   have h4:=(holds_andW hc).1
   rw [hn] at h4
   exact h4
  have h5:=condW_of h4 (w_not (w_lt w_lit (w_len_list (w_arg rfl))))
  rw [YAd] at h5
  refine Nat.le_of_not_lt fun q=>?_
  have q':(n:Int) < ((ns.length:Nat):Int):=by omega
  first
   | (rw [YAy q'] at h5;exact absurd h5 (by decide))
   | (simp at h5;omega)
 cases hwl with
 | cons w1 w2=>
  cases w2
  cases w1 with
  | list ho hall=>exact ⟨_,_,ns,rfl,rfl,ho,zfI ns _ hall,hlen⟩
theorem zla (l:OpenLaw) (args:List WData):l.row.toRowW.claim.post args (.bool true) args = true:=
 postW_of (r:=l.row.toRowW) (X:=(true == true))
  (show WShape.has [] (.bool true) .bool = true by first | rfl | decide | simp [WShape.has,WShape.arms,WShape.armsAll])
  (show (WTm.eq .res (.lit (.bool true))).value [] { args:=args,res:=some (.bool true),after:=args } = some (.bool (true == true)) from w_eq_bool (w_res rfl) w_lit) rfl
theorem attach_call {l:OpenLaw} {n:Nat} {q:Program} {loose:List Str} {XP:(Str->Option Value)->Heap->Prop} {YP:World->Heap->Prop} {d:DefRec}
  (hn:l.most = some n) (hdf:d.params.defaults = [])
  (call:∀ (w:World) (s₀ s₁:Shared) (mg mb:Str->Option Value) (fa:Addr) (o:Obj) (pm cd doc:Value) (a:Addr) (vs:List Value) (ns:List Int),
   Ground q loose [] XP w s₀ mg mb s₁.heap->YP w s₁.heap ->
   s₁.heap.get? fa = some o->o.data = .func (docDef d.name d.params d.body d.scope pm cd doc)->s₁.heap.CodeRec cd d.name->mg d.name = some (.ref fa) ->
   s₁.heap.get? a = some { cls:=.type "list",data:=.seq vs.toArray }->IntsAre vs ns->ns.length <= n->s₁.gens = #[] ->
   codeAny (model l.prog w) callerA (.call (.ref fa) ⟨[.ref a],[]⟩) (fun r s'=>r = .ok (.ret (.bool true))/\OldK s₁.heap s'.heap/\s'.os = s₁.os/\AllBare s'.gens) s₁) :
  WalkO q loose XP YP l.row.toRowW d [] (fun f vs=>PySem.call f vs):=by
 intro w s₀ s₁ mg mb G Y fa o pm cd doc dV kV ho hd hcd hD hmg hg args vals as hpre hlay hrd hwl hlo
 obtain rfl:dV = .none:=Dflts.none hD hdf
 obtain rfl:kV = .none:=Dflts.noKw hD
 obtain ⟨a,vs,ns,rfl,rfl,hobj,hints,hlen⟩:=zk3 hn hpre hwl
 refine enter_call (YB4 (call w s₀ s₁ mg mb fa o pm cd doc a vs ns G Y ho (fd_plain hd) hcd hmg hobj hints hlen hg) fun r s' hq=>?_)
 obtain ⟨rfl,h2,h3,h4⟩:=hq
 exact ⟨.inl ⟨.bool true,.bool true,[],rfl,fun _=>rfl,.bool true,zla l _,fun _=>⟨List.Pairwise.nil,fun _ hm=>(nomatch hm)⟩⟩,h2,h3,h4⟩
section
variable {prog:Program} {w:World} {A:Around} {E:Value->Shared->Prop} {s:Shared} {K:Frag}
end
end Att
namespace L2
open PySem PySem.Spec PyProof.Rows
theorem zir:∀ {vs:List Value} {ns:List Int},IntsAre vs ns->Vals (ns.map V.int) vs
 | _,_,.nil=>.nil
 | _,_,.cons n t h=>.cons ⟨t,rfl⟩ (zir h)
def Only (H:Hp):Prop:=∀ b,H b = none\/∃ o xs,H b = some (.frz o (.lst xs))
theorem znr {P:Program} {w:World} {K:PySem.W.Frag} {mg mb:Str->Option Value} {CX:CXT} {k:Nat} {fa a:Addr} {fd:FuncData} {x:Str} {sp:Sp} {s₁:Shared} {vs:List Value} {ns:List Int}
  (KX:K.In s₁.heap) (hns:s₁.heap.Ns mainGlobals mg) (hb:s₁.heap.Ns builtinsNs mb) (hbb:∀ x:Str,x ≠ "__name__" -> mb x = bootBuiltins x) (hlim:s₁.heap.NoLimit) (hg:s₁.gens = #[])
  (ha:s₁.heap.get? a = some { cls:=.type "list",data:=.seq vs.toArray }) (hi:IntsAre vs ns) (hl:ns.length <= sizeLine) (hr:Room k callerA)
  (F:∀ base:Heap,K.In base->base.Ns mainGlobals mg->FnOk P w K mg base CX k fa fd [x] sp) (hbind:∀ (s:Shared) (u:Value),BindsTo s fd ⟨[u],[]⟩ [(x,u)])
  (hsp:∀ H:Hp,Only H->SqL K H a (ns.map V.int)->sp [.ref a] H (fun v _=>v = .bl true) fun _ _ _=>False)
  (hCX:∀ H e s',CX [] H s₁ (fun _ _ _=>False) e s'->False) :
  codeAny (model P w) callerA (.call (.ref fa) ⟨[.ref a],[]⟩) (fun r s'=>r = .ok (.ret (.bool true))/\OldK s₁.heap s'.heap/\s'.os = s₁.os/\AllBare s'.gens) s₁:=by
 have rv:=zir hi
 have lenV:=hi.length
 -- from an abstract heap in which nothing but the script may be tracked
 have core:∀ H:Hp,Only H->SqL K H a (ns.map V.int)->HOk P w H s₁.heap->(∀ b,H b ≠ none->b = a)->(H a ≠ none->K.lookup a = none) ->
   codeAny (model P w) callerA (.call (.ref fa) ⟨[.ref a],[]⟩) (fun r s'=>r = .ok (.ret (.bool true))/\OldK s₁.heap s'.heap/\s'.os = s₁.os/\AllBare s'.gens) s₁:=by
  intro H hO hS hok hA hK
  have base_of:∀ {b:Addr} {o:Obj},s₁.heap.get? b = some o->H b = none->(hidT s₁.heap H).get? b = some o:=fun e n=>znH e n
  have noA:∀ {b:Addr} {o:Obj} {es:Array DictEntry} {ep:Nat},s₁.heap.get? b = some o->o.data = .dict es ep->H b = none:=fun {b o es ep} e d=>by
   cases q:H b with
   | none=>rfl
   | some u=>
    have e':b = a:=hA b (by rw [q];simp)
    subst e'
    rw [ha] at e;cases e
    have d':Data.seq vs.toArray _ = Data.dict es ep:=d
    cases d'
  have nsK:∀ {b:Addr} {m:Str->Option Value},s₁.heap.Ns b m->(hidT s₁.heap H).Ns b m:=fun {b m} ⟨o,es,ep,e,d,r⟩=>⟨o,es,ep,base_of e (noA e d),d,r⟩
  have hKb:K.In (hidT s₁.heap H):=fun b o e=>base_of (KX b o e) (by
   cases q:H b with
   | none=>rfl
   | some u=>
    have e':b = a:=hA b (by rw [q];simp)
    subst e'
    rw [hK (by rw [q];simp)] at e;cases e)
  have hM:Mod K mg (hidT s₁.heap H):=⟨hKb,nsK hns,⟨mb,nsK hb,hbb⟩,let ⟨mc,h1,h2⟩:=hlim;⟨mc,nsK h1,h2⟩⟩
  have e0:Env0 P w K mg (hidT s₁.heap H) callerA [] s₁ H:=⟨rfl,hM,fun b o e=>zqF e,Nat.le_of_eq (zlv _ _),trivial,fun b hb=>absurd (show b ∈ ([]:List Addr) from hb) (by simp),hok,.of_eq hg⟩
  refine YB4 ((F _ hKb (nsK hns)).run callerA [] s₁ H ⟨[.ref a],[]⟩ [.ref a] [.ref a] _ _ hr e0 (hbind s₁ (.ref a)) (.cons rfl .nil) (hsp H hO hS)) fun r s' h=>?_
  cases r with
  | error e=>exact (hCX H e s' h).elim
  | ok fl=>
   cases fl with
   | next=>exact False.elim h
   | brk=>exact False.elim h
   | cont=>exact False.elim h
   | ret u=>
    obtain ⟨v,H',os,bare,un,hok',r',q⟩:=h
    have q':v = .bl true:=q
    subst q'
    obtain rfl:u = Value.bool true:=r'
    refine ⟨rfl,OldK.of_keep fun b o e=>?_,os,bare⟩
    cases q:H b with
    | none=>exact un.keep b o e q (by intro z;exact absurd (show b ∈ ([]:List Addr) from z) (by simp)) (by simp)
    | some u=>
     rcases hO b with z | ⟨ob,xs,z⟩
     ·rw [q] at z;cases z
     ·have z2:=un.frzs b ob _ z
      obtain ⟨e1,_⟩:=hok b _ z
      obtain ⟨e2,_⟩:=hok' b _ z2
      rw [e] at e1;cases e1
      exact e2
 cases hk:K.lookup a with
 | some o=>
  -- the script is one of the module's own objects
  have e:=KX a o hk
  rw [ha] at e
  cases e
  refine core (fun _=>none) (fun _=>.inl rfl) (.inr ⟨_,vs.toArray,_,hk,rfl,rfl,rfl,by rw [YAo,lenV];exact hl,by simpa using rv⟩) (fun b u z=>by have z':(none:Option HO) = some u:=z;cases z') (fun b z=>absurd rfl z) fun z=>absurd rfl z
 | none=>
  refine core (fun b=>if b = a then some (.frz { cls:=.type "list",data:=.seq vs.toArray } (.lst (ns.map V.int))) else none) (fun b=>?_) (.inl (.inr ⟨{ cls:=.type "list",data:=.seq vs.toArray },if_pos rfl⟩)) (fun b u z=>?_) (fun b z=>?_) fun _=>hk
  ·by_cases hb:b = a
   ·exact .inr ⟨_,_,if_pos hb⟩
   ·exact .inl (if_neg hb)
  ·by_cases hb:b = a
   ·have z':=(if_pos hb).symm.trans z
    cases z'
    subst hb
    exact ⟨ha,by rw [YAd];exact hl,vs,_,rv,ha⟩
   ·have z':=(if_neg hb).symm.trans z
    cases z'
  ·by_cases hb:b = a
   ·exact hb
   ·exact absurd (if_neg hb) z
theorem zp5 {l:PySem.W.OpenLaw} {n k:Nat} {q:Program} {loose:List Str} {XP:(Str->Option Value)->Heap->Prop} {YP:World->Heap->Prop} {d:DefRec} {K:Params->PySem.W.Frag} {CX:World->CXT} {sp:World->Sp} {x:Str}
  (hn:l.most = some n) (hn2:n <= sizeLine) (hdf:d.params.defaults = []) (hr:Room k callerA)
  (hY:∀ (w:World) (h:Heap),YP w h->(K w.params).In h)
  (F:∀ (w:World) (mg:Str->Option Value) (fa:Addr) (h:Heap),(K w.params).In h->h.Ns mainGlobals mg->mg d.name = some (.ref fa) ->
   ∃ fd:FuncData,(∀ (s:Shared) (u:Value),BindsTo s fd ⟨[u],[]⟩ [(x,u)]) /\
    ∀ base:Heap,(K w.params).In base->base.Ns mainGlobals mg->FnOk l.prog w (K w.params) mg base (CX w) k fa fd [x] (sp w))
  (hsp:∀ (w:World) (H:Hp) (a:Addr) (ns:List Int),ns.length <= n->Only H->SqL (K w.params) H a (ns.map V.int)->sp w [.ref a] H (fun v _=>v = .bl true) fun _ _ _=>False)
  (hCX:∀ (w:World) (H:Hp) (s:Shared) (e:Value) (s':Shared),CX w [] H s (fun _ _ _=>False) e s'->False) :
  PySem.W.WalkO q loose XP YP l.row.toRowW d [] (fun f vs=>PySem.call f vs):=by
 refine Att.attach_call hn hdf fun w s₀ s₁ mg mb fa o pm cd doc a vs ns G Y ho hd hcd hmg hobj hints hlen hg=>?_
 have KX:=hY w _ Y
 obtain ⟨fd,hb,hF⟩:=F w mg fa _ KX G.T.g hmg
 exact znr KX G.T.g G.T.b G.T.builtins G.T.nolimit hg hobj hints (YAF hlen hn2) hr hF hb (fun H hO hS=>hsp w H a ns hlen hO hS) fun H e s'=>hCX w H s₁ e s'
def zcd (s:Stmt):Arguments:=match s with
 | .FunctionDef _ a _ _ _ _ _ _ _ _=>a
 | _=>{ posonlyargs:=[],args:=[],vararg:=none,kwonlyargs:=[],kw_defaults:=[],kwarg:=none,defaults:=[] }
def zaX (s:Stmt):List Stmt:=match s with
 | .FunctionDef _ _ b _ _ _ _ _ _ _=>b
 | _=>[]
def zaj (s:Stmt):Scope:=match s with
 | .FunctionDef _ _ _ _ _ _ sc _ _ _=>sc
 | _=>{ kind:=.function,names:=[],isGenerator:=false,isCoroutine:=false }
abbrev CX0:CXT:=fun _ _ _ _ _ _=>False
abbrev E0:XK:=fun _ _ _=>False
theorem zjf:zbs CX0 X E0:=fun _ _ _ _ _ _ _ h=>h.elim
structure Fun (K:PySem.W.Frag) (x qual:Str) (st:Stmt) (f:Addr) (fd:FuncData):Prop where
 ex:∃ (oc:Value) (od:Option Addr) (kV doc pm:Value) (an:Option Addr) (cdv ct:Value) (osl:Array (Option Value)),
  fd = PySem.W.fnOf x qual (zcd st) (zaX st) (zaj st) .none kV doc pm an cdv ct/\K.lookup f = some ⟨oc,od,.func fd,osl⟩/\PySem.W.codeIn K cdv qual = true
 kp:PySem.W.keepIn K (.ref f) = true
section
variable {P:Program} {w:World} {K:PySem.W.Frag} {mg:Str->Option Value} {base:Heap}
theorem Fun.ok {x qual:Str} {st:Stmt} {f:Addr} {fd:FuncData} {N ps:List Str} {k:Nat} {sp:Sp} (F:Fun K x qual st f fd) (S:FnScope N ps (zaj st)) (len:∀ vs H Q E,sp vs H Q E->vs.length = ps.length)
  (hbody:∀ (cdv:Value) (A:Around) (outer:List Env) (s:Shared) (H:Hp) (vs:List V) (Q:VK) (E:XK),Room k (A.deeper (envOfC qual (zaj st) s.heap.objs.size f cdv))->sp vs H Q E ->
   ∃ t,PSs (cxOf CX0 P w K mg base N qual (zaj st) f cdv A outer s H E).nox (zaX st) t/\t { nx:=fun _ H'=>Q .non H',rt:=Q } (zcV N vs) H):FnOk P w K mg base CX0 (k + 1) f fd ps sp:=by
 obtain ⟨oc,od,kV,doc,pm,an,cdv,ct,osl,rfl,lk,hcd⟩:=F.ex
 refine zpX lk hcd S len fun A outer s H vs Q E hr hsp=>?_
 obtain ⟨t,h,q⟩:=hbody cdv A outer s H vs Q E hr hsp
 exact ⟨t,h.nox,q⟩
theorem Fun.binds {x qual:Str} {st:Stmt} {f:Addr} {fd:FuncData} {ps:List Str} (F:Fun K x qual st f fd)
  (h:∀ (kV doc pm:Value) (an:Option Addr) (cdv ct:Value) (us:List Value),us.length = ps.length->bindArgs (PySem.W.fnOf x qual (zcd st) (zaX st) (zaj st) .none kV doc pm an cdv ct) ⟨us,[]⟩ = pure (ps.zip us)):Binds K fd ps []:=by
 obtain ⟨oc,od,kV,doc,pm,an,cdv,ct,osl,rfl,lk,hcd⟩:=F.ex
 exact .all (h kV doc pm an cdv ct)
end
section
variable {X:Cx}
theorem pv (i:Nat)  (hN:X.N[i]? = some x:=by rfl) (hv:Vis X.env.scope x:=by first | exact Or.inl rfl | exact Or.inr (Or.inl rfl) | exact Or.inr (Or.inr rfl)) (hd:(x == ("__debug__" : Str)) = false:=by decide)
  (hcd:(x == ("__classdict__" : Str)) = false:=by decide):PE X (.Name x pos) (tVar i):=zbe hN hv hd hcd
end
theorem ite2 {c A B:Prop} [Decidable c] (h1:c->A) (h2:¬ c->B):if c then A else B:=by
 by_cases h:c
 ·rw [if_pos h]
  exact h1 h
 ·rw [if_neg h]
  exact h2 h
def Same (H H':Hp):Prop:=∀ b o,H b = some o->H' b = some o
theorem Same.refl (H:Hp):Same H H:=fun _ _ h=>h
theorem Same.trans {H H1 H2:Hp} (a:Same H H1) (b:Same H1 H2):Same H H2:=fun c o h=>b c o (a c o h)
theorem Same.free {H H':Hp} (e:Same H H') {l:Addr} (h:H' l = Option.none):H l = Option.none:=by
 cases q:H l with
 | none=>rfl
 | some o=>
  rw [e l o q] at h
  cases h
theorem Same.seq {K:PySem.W.Frag} {H H':Hp} {a:Addr} {xs:List V} (e:Same H H') (h:SqL K H a xs):SqL K H' a xs:=by
 rcases h with (h | ⟨o,h⟩) | h
 ·exact .inl (.inl (e _ _ h))
 ·exact .inl (.inr ⟨o,e _ _ h⟩)
 ·exact .inr h
section
variable {κ:Type} [DecidableEq κ]
def valV (kvs:List (κ × V)) (k:κ):Option V:=(kvs.find? fun kv=>decide (kv.1 = k)).map (·.2)
def putK (kvs:List (κ × V)) (k:κ) (v:V):List (κ × V):=
 if (kvs.any fun kv=>decide (kv.1 = k)) = true then kvs.map (fun kv=>if kv.1 = k then (kv.1,v) else kv) else kvs ++ [(k,v)]
theorem zd0 {p:κ × V} {r:List (κ × V)} {k:κ} (e:p.1 = k):valV (p :: r) k = some p.2:=by simp [valV,YBD,e]
theorem zel {p:κ × V} {r:List (κ × V)} {k:κ} (e:¬ p.1 = k):valV (p :: r) k = valV r k:=by simp [valV,YBD,e]
theorem zfh (k:κ):∀ kvs:List (κ × V),(kvs.any fun kv=>decide (kv.1 = k)) = (valV kvs k).isSome
 | []=>rfl
 | p :: r=>by
  rw [YBS]
  by_cases e:p.1 = k
  ·simp only [zd0 e,YAy e,Bool.true_or,Option.isSome_some]
  ·rw [zel e,YAv e,Bool.false_or];exact zfh k r
theorem zdI (kvs:List (κ × V)) (k:κ) (v:V):(putK kvs k v).length <= kvs.length + 1:=by
 unfold putK
 split
 ·rw [YAd];omega
 ·rw [YAs,YAP,List.length_nil];omega
theorem zne {kvs:List (κ × V)} {k:κ} (v:V) (h:valV kvs k = none):putK kvs k v = kvs ++ [(k,v)]:=by
 unfold putK
 rw [zfh,h]
 exact if_neg (by decide)
theorem RelO.isSome_eq  (r:RelO o u):o.isSome = u.isSome:=by
 cases o with
 | none=>cases u with
  | none=>rfl
  | some _=>exact (show False from r).elim
 | some _=>cases u with
  | none=>exact (show False from r).elim
  | some _=>rfl
theorem KV.val {kvs:List (κ × V)} {vs:List (κ × Value)} (r:KV kvs vs) (k:κ):RelO (valV kvs k) (valueAt vs k):=by
 unfold KV at r
 induction r with
 | nil=>exact True.intro
 | @cons p q ps qs h t ih=>
  obtain ⟨h1,h2⟩:=h
  by_cases e:p.1 = k
  ·have e':q.1 = k:=h1.symm.trans e
   have b:valueAt (q :: qs) k = some q.2:=by simp [valueAt,YBD,e']
   rw [zd0 e,b];exact h2
  ·have e':¬ q.1 = k:=fun z=>e (h1.trans z)
   have b:valueAt (q :: qs) k = valueAt qs k:=by simp [valueAt,YBD,e']
   rw [zel e,b];exact ih
theorem KV.any  (r:KV kvs vs) (k:κ):(kvs.any fun kv=>decide (kv.1 = k)) = vs.any fun kv=>decide (kv.1 = k):=by
 unfold KV at r
 induction r with
 | nil=>rfl
 | cons h t ih=>rw [YBS,YBS,ih,h.1]
theorem KV.repl  (r:KV kvs vs) (k:κ)  (ry:RelV y u) :
  KV (kvs.map fun kv=>if kv.1 = k then (kv.1,y) else kv) (vs.map fun kv=>if kv.1 = k then (kv.1,u) else kv):=by
 unfold KV at r ⊢
 induction r with
 | nil=>exact .nil
 | @cons p q ps qs h t ih=>
  rw [YAm,YAm]
  refine .cons ?_ ih
  obtain ⟨h1,h2⟩:=h
  by_cases e:p.1 = k
  ·rw [if_pos e,if_pos (h1.symm.trans e)];exact ⟨h1,ry⟩
  ·rw [if_neg e,if_neg (fun z=>e (h1.trans z))];exact ⟨h1,h2⟩
theorem KV.put  (r:KV kvs vs) (k:κ)  (ry:RelV y u):KV (putK kvs k y) (stored vs k u):=by
 unfold putK stored
 rw [r.any k]
 by_cases e:(vs.any fun kv=>decide (kv.1 = k)) = true
 ·rw [if_pos e,if_pos e];exact r.repl k ry
 ·rw [if_neg e,if_neg e];exact Paired.snoc r ⟨rfl,ry⟩
theorem KV.length  (r:KV kvs vs):kvs.length = vs.length:=Paired.length r
end
theorem ziD   (r:RelV (kV k) u):(zaL P w).is k u = true:=by
 cases k with
 | inl i=>obtain ⟨t,e⟩:=(show ∃ t,u = Value.int i t from r);subst e;exact zi8 P w i t
 | inr x=>obtain ⟨t,e⟩:=(show ∃ t,u = Value.str x t from r);subst e;exact zi4 P w x t
theorem zh6  : ∀ {ks:List Key} {us:List Value},Vals (ks.map kV) us->ItemsAre (zaL P w) ks us
 | [],_,r=>by rw [YA7] at r;cases r;exact .nil
 | k :: ks,_,r=>by
  rw [YAm] at r
  cases r with
  | cons h t=>exact .cons (ziD h) (zh6 t)
abbrev KT (H:Hp):List (List Key × V)->List (List Key × Addr × Value)->Prop:=Paired fun p q=>p.1 = q.1/\H q.2.1 = some (.tup (p.1.map kV))/\RelV p.2 q.2.2
theorem KT.val {H:Hp} {kvs:List (List Key × V)} {xs:List (List Key × Addr × Value)} (r:KT H kvs xs) (k:List Key):RelO (valV kvs k) ((atKey xs k).map (·.2)):=by
 induction r with
 | nil=>exact True.intro
 | @cons p q ps qs h t ih=>
  obtain ⟨h1,_,h2⟩:=h
  by_cases e:p.1 = k
  ·have e':q.1 = k:=h1.symm.trans e
   have b:atKey (q :: qs) k = some q.2:=by simp [atKey,YBD,e']
   rw [zd0 e,b];exact h2
  ·have e':¬ q.1 = k:=fun z=>e (h1.trans z)
   have b:atKey (q :: qs) k = atKey qs k:=by simp [atKey,YBD,e']
   rw [zel e,b];exact ih
theorem KT.repl  (r:KT H kvs xs) (k:List Key)  (ry:RelV y u) :
  KT H (kvs.map fun kv=>if kv.1 = k then (kv.1,y) else kv) (xs.map (putAt k u)):=by
 induction r with
 | nil=>exact .nil
 | @cons p q ps qs h t ih=>
  rw [YAm,YAm]
  refine .cons ?_ ih
  obtain ⟨h1,h2,h3⟩:=h
  unfold putAt
  by_cases e:p.1 = k
  ·rw [if_pos e,if_pos (h1.symm.trans e)];exact ⟨h1,h2,ry⟩
  ·rw [if_neg e,if_neg (fun z=>e (h1.trans z))];exact ⟨h1,h2,h3⟩
theorem KT.put  (r:KT H kvs xs) (k:List Key)  (hb:H b = some (.tup (k.map kV))) (ry:RelV y u) :
  KT H (putK kvs k y) (storedH xs k b u):=by
 have e:(kvs.any fun kv=>decide (kv.1 = k)) = (atKey xs k).isSome:=by
  rw [zfh,(r.val k).isSome_eq,YCA]
 unfold putK storedH
 rw [e]
 by_cases q:(atKey xs k).isSome = true
 ·rw [if_pos q,if_pos q];exact r.repl k ry
 ·rw [if_neg q,if_neg q];exact Paired.snoc r ⟨rfl,hb,ry⟩
theorem KT.keeps  (r:KT H kvs xs) (ht:∀ b ys,H b = some (.tup ys)->H' b = some (.tup ys)):KT H' kvs xs:=
 Paired.mapP r fun _ _ z=>⟨z.1,ht _ _ z.2.1,z.2.2⟩
section
variable {P:Program} {w:World} {H:Hp} {h:Heap} {a:Addr}
theorem zrD (ok:HOk P w H h) (e:Rd H a u):ObjOk P w H h a u:=e.ok ok
theorem zie (ok:HOk P w H h) (e:Rd H a (.dK kvs)):kvs.length <= sizeLine/\(a == sysModules) = false/\∃ vs,KV kvs vs/\h.DictOf (zaL P w) a vs:=
 show ObjOk P w H h a (.dK kvs) from zrD ok e
theorem zrw (ok:HOk P w H h) (e:H a = some (.dK kvs)):kvs.length <= sizeLine/\(a == sysModules) = false/\∃ vs,KV kvs vs/\h.DictOf (zaL P w) a vs:=zie ok (.inl e)
theorem zhK (ok:HOk P w H h) (e:H a = some (.tup (ks.map kV))):(tupleKind (zaL P w)).is h ks a:=by
 obtain ⟨_,its,r,o,h1,h2,n,h3⟩:=(show ObjOk P w H h a (.tup (ks.map kV)) from ok a _ e)
 exact ⟨o,its.toArray,n,h1,h2,h3,by simpa using zh6 r⟩
theorem zld (ok:HOk P w H h) (e:Rd H a (.dT kvs)):kvs.length <= sizeLine/\(a == sysModules) = false /\
  ∃ xs,KT H kvs xs/\h.DictOfH (tupleKind (zaL P w)) a xs:=by
 obtain ⟨z,y,xs,r,o,es,ep,h1,h2,h3,h4,h5⟩:=(show ObjOk P w H h a (.dT kvs) from zrD ok e)
 refine ⟨z,y,xs,r,o,es,ep,h1,h2,h3,h4,fun x hx=>?_,h5⟩
 have all:∀ {l:List (List Key × V)} {m:List (List Key × Addr × Value)},KT H l m->∀ x ∈ m,(tupleKind (zaL P w)).is h x.1 x.2.1:=by
  intro l m q
  induction q with
  | nil=>intro x hx;exact nomatch hx
  | @cons p q ps qs hq t ih=>
   intro x hx
   rcases YAr.mp hx with e | hx
   ·subst e
    exact zhK ok (by rw [<- hq.1];exact hq.2.1)
   ·exact ih x hx
 exact all r x hx
theorem zta (ok:HOk P w H h) (e:H a = some (.dT kvs)):kvs.length <= sizeLine/\(a == sysModules) = false /\
  ∃ xs,KT H kvs xs/\h.DictOfH (tupleKind (zaL P w)) a xs:=zld ok (.inl e)
end
def DGet (H:Hp) (a:Addr) (y:V) (r:Option V):Prop:=
 (∃ kvs k,Rd H a (.dK kvs)/\y = kV k/\r = valV kvs k)\/∃ kvs k b,Rd H a (.dT kvs)/\y = .ref b/\H b = some (.tup (k.map kV))/\r = valV kvs k
def DPut (H:Hp) (a:Addr) (y v:V) (H':Hp):Prop:=
 (∃ kvs k,H a = some (.dK kvs)/\y = kV k/\kvs.length < sizeLine/\H' = upd H a (.dK (putK kvs k v))) \/
 ∃ kvs k b,H a = some (.dT kvs)/\y = .ref b/\H b = some (.tup (k.map kV))/\kvs.length < sizeLine/\H' = upd H a (.dT (putK kvs k v))
theorem DGet.k {H:Hp} {a:Addr} {kvs:List (Key × V)} {k:Key} (e:H a = some (.dK kvs)):DGet H a (kV k) (valV kvs k):=.inl ⟨kvs,k,.inl e,rfl,rfl⟩
theorem DPut.k {H:Hp} {a:Addr} {kvs:List (Key × V)} {k:Key} {v:V} (e:H a = some (.dK kvs)) (hl:kvs.length < sizeLine):DPut H a (kV k) v (upd H a (.dK (putK kvs k v))):=.inl ⟨kvs,k,e,rfl,hl,rfl⟩
section
variable {X:Cx} {pins:List (Addr × Obj)} {σ:St} {H:Hp} {s:Shared} {a:Addr} {y v:V} {u r:Value} {o:Option V} {A:Around} {E:Value->Shared->Prop}
theorem Inv.big (I:Inv X pins σ H s):sysModules < s.heap.objs.size:=by
 have h:mainGlobals < s.heap.objs.size:=(I.mod.glob.keeps I.bk).lt
 exact Nat.lt_trans (by decide) h
theorem zil (hu:A.units + 1 < cLine) (I:Inv X pins σ H s) (g:DGet H a y (some v)) (ry:RelV y u) (h:∀ w' s',Inv X pins σ H s'->RelV v w'->Q w' s') :
  wpAny (model X.prog X.w) A (getItem (.ref a) u) Q E s:=by
 rcases g with ⟨kvs,k,e,ey,l⟩ | ⟨kvs,k,b,e,ey,eb,l⟩
 ·subst ey
  obtain ⟨z,hd,vs,rel,dd⟩:=zie I.hok e
  obtain ⟨w',hw,rw'⟩:=RelO.some_of (v:=v) (o:=valueAt vs k) (by rw [l];exact rel.val k)
  exact wpAny_getItem_of (ziD ry) dd.mapOf hw (h w' _ (I.tok _) rw')
 ·subst ey
  cases (show u = Value.ref b from ry)
  obtain ⟨z,hd,xs,rel,dd⟩:=zld I.hok e
  obtain ⟨w',hw,rw'⟩:=RelO.some_of (v:=v) (o:=(atKey xs k).map (·.2)) (by rw [l];exact rel.val k)
  obtain ⟨p,hp,hp2⟩:=Option.map_eq_some_iff.mp hw
  refine wpAny_getItem_heap (YBT hu) (zhK I.hok eb) dd hp ?_
  rw [hp2]
  exact h w' _ (I.tok _) rw'
theorem d_in (hu:A.units + 1 < cLine) (I:Inv X pins σ H s) (g:DGet H a y o) (ry:RelV y u) (h:∀ s',Inv X pins σ H s'->Q (.bool o.isSome) s') :
  wpAny (model X.prog X.w) A (compareOp .In u (.ref a)) Q E s:=by
 rcases g with ⟨kvs,k,e,ey,l⟩ | ⟨kvs,k,b,e,ey,eb,l⟩
 ·subst ey
  obtain ⟨z,hd,vs,rel,dd⟩:=zie I.hok e
  refine wpAny_in_of (ziD ry) hd dd.mapOf ?_
  rw [<- (rel.val k).isSome_eq,<- l]
  exact h _ (I.tok _)
 ·subst ey
  cases (show u = Value.ref b from ry)
  obtain ⟨z,hd,xs,rel,dd⟩:=zld I.hok e
  refine wpAny_in_heap (YBT hu) (zhK I.hok eb) hd dd ?_
  have q:=(rel.val k).isSome_eq
  rw [YCA] at q
  rw [<- q,<- l]
  exact h _ (I.tok _)
theorem zqe (hu:A.units + 1 < cLine) (I:Inv X pins σ H s) (g:DGet H a y o) (ry:RelV y u) (h:∀ s',Inv X pins σ H s'->Q (.bool (!o.isSome)) s') :
  wpAny (model X.prog X.w) A (compareOp .NotIn u (.ref a)) Q E s:=by
 rcases g with ⟨kvs,k,e,ey,l⟩ | ⟨kvs,k,b,e,ey,eb,l⟩
 ·subst ey
  obtain ⟨z,hd,vs,rel,dd⟩:=zie I.hok e
  refine wpAny_notIn_of (ziD ry) hd dd.mapOf ?_
  rw [<- (rel.val k).isSome_eq,<- l]
  exact h _ (I.tok _)
 ·subst ey
  cases (show u = Value.ref b from ry)
  obtain ⟨z,hd,xs,rel,dd⟩:=zld I.hok e
  refine wpAny_notIn_heap (YBT hu) (zhK I.hok eb) hd dd ?_
  have q:=(rel.val k).isSome_eq
  rw [YCA] at q
  rw [<- q,<- l]
  exact h _ (I.tok _)
theorem zjh  (I:Inv X pins σ H s) (mu:Mut (H a)) (hs:Heap.SameBut a s.heap h') (he:∃ q,h'.get? a = some q) (new:ObjOk X.prog X.w (upd H a ob) h' a ob) :
  Inv X pins σ (upd H a ob) { s with heap:=h',toks:=t' }:=
 I.write (x:=a) (e:=a) mu (.inl rfl) (fun b q hb z=>(hs.2 b hb).trans z) he new
theorem zlr    (z:kvs.length <= sizeLine) (hd:(a == sysModules) = false) (rel:KV kvs vs) (dd:h'.DictOf (zaL P w) a vs) :
  ObjOk P w H' h' a (.dK kvs):=⟨z,hd,vs,rel,dd⟩
theorem zis  (hu:A.units + 1 < cLine) (I:Inv X pins σ H s) (g:DPut H a y v H') (ry:RelV y u) (rv:RelV v r) (h:∀ s',Inv X pins σ H' s'->Q () s') :
  wpAny (model X.prog X.w) A (setItem (.ref a) u r) Q E s:=by
 rcases g with ⟨kvs,k,e,ey,l,eH⟩ | ⟨kvs,k,b,e,ey,eb,l,eH⟩
 ·subst ey eH
  obtain ⟨z,hd,vs,rel,dd⟩:=zrw I.hok e
  have hz:vs.length <= sizeLine:=by rw [<- rel.length];exact z
  have hl:(putK kvs k v).length <= sizeLine:=by have:=zdI kvs k v;omega
  refine wpAny_setItem_pairs (hsz:=hz) (ziD ry) dd fun h' dd' hs=>h _ ?_
  have he:∃ q,h'.get? a = some q:=let ⟨q,_,_,hq,_⟩:=dd';⟨q,hq⟩
  exact zjh I (by rw [e];exact True.intro) hs he (zlr hl hd (rel.put k rv) dd')
 ·subst ey eH
  cases (show u = Value.ref b from ry)
  obtain ⟨z,hd,xs,rel,dd⟩:=zta I.hok e
  have hz:xs.length <= sizeLine:=by rw [<- Paired.length rel];exact z
  have hl:(putK kvs k v).length <= sizeLine:=by have:=zdI kvs k v;omega
  refine wpAny_setItem_heap (hsz:=hz) (YBT hu) (zhK I.hok eb) dd fun h' dd' hs=>h _ ?_
  obtain ⟨q,es,ep,hq,h2,h3,h4,_,h5⟩:=dd'
  refine zjh I (by rw [e];exact True.intro) hs ⟨q,hq⟩ ⟨hl,hd,_,(rel.put k eb rv).keeps fun c ys ec=>?_,q,es,ep,hq,h2,h3,h4,h5⟩
  rw [upd_ne (ztE ec e (fun z=>nomatch z))]
  exact ec
end
section
variable {X:Cx} {pins:List (Addr × Obj)} {σ:St} {H:Hp} {s:Shared} {a:Addr} {kvs:List (Key × V)} {k:Key} {u:Value} {A:Around} {E:Value->Shared->Prop}
theorem zsV (I:Inv X pins σ H s) (e:Rd H a (.dK kvs)) (h:∀ t s',Inv X pins σ H s'->Q (.int kvs.length t) s'):wpAny (model X.prog X.w) A (call (.builtin "len") [.ref a]) Q E s:=by
 obtain ⟨z,hd,vs,rel,dd⟩:=zie I.hok e
 refine call_len_dict hd dd (by rw [<- rel.length];rw [YAO] at z;omega) ?_
 rw [<- rel.length]
 exact h _ _ (I.tok _)
end
def NoSl (i:Expr):Prop:=∀ ov iv,subscripted i false ov iv = operate [ov,iv] (getItem ov iv)
theorem zlR {prog:Program} {w:World} {A:Around} {E:Value->Shared->Prop} {s:Shared} {env:Env} {value slice:Expr} {pos:Pos} {T id:String} {Q:Value->Shared->Prop}
  (hl:typeLookup (.type T) "__getitem__" = pure (some (.builtin id))) (hs:NoSl slice)
  (h:wpAny (model prog w) A (eval value env) (fun o s₁=>wpAny (model prog w) A (eval slice env) (fun i s₂=>s₂.TypeIs o T/\wpAny (model prog w) A (getItem o i) Q E s₂) E s₁) E s) :
  wpAny (model prog w) A (eval (.Subscript value slice pos) env) Q E s:=by
 refine Subscript_ (YAL h (fun o s₁ h₁=>YAL h₁ (fun i s₂ h₂=>?_) fun _ _ x=>x) fun _ _ x=>x)
 obtain ⟨hT,h₂⟩:=h₂
 unfold subscriptTail
 refine YAa ?_
 rw [getitemInPython_of_ne hT.not_modules]
 refine YAa (YCP hT hl ?_)
 have fin:wpAny (model prog w) A (subscripted slice false o i) (fun r s₃=>wpAny (model prog w) A (letTemporaryGo value o r >>= fun _=>pure r) Q E s₃) E s₂:=by
  rw [hs o i]
  exact wpAny_operating (YAL h₂ (fun r s₃ h₃=>YAa (wpAny_letTemporaryGo (YAc h₃))) fun _ _ x=>x)
 first
  | exact YAc (YAa fin)
  | exact YAa (YAc (YAa fin))
  | exact YAa fin
theorem zjg     (I:Inv X pins σ H s) (g:DGet H a y o):s.TypeIs (.ref a) "dict" := by
 rcases g with ⟨kvs,k,e,_,_⟩ | ⟨kvs,k,b,e,_,_,_⟩
 ·obtain ⟨_,_,vs,_,dd⟩:=zie I.hok e
  exact dd.typeIs
 ·obtain ⟨_,_,xs,_,dd⟩:=zld I.hok e
  exact dd.typeIs
def zto (td ty:TE):TE:=fun σ H Q=>td σ H fun x H1=>ty σ H1 fun y H2=>∃ a v,x = .ref a/\DGet H2 a y (some v)/\Q v H2
def tDIn (ty td:TE):TE:=fun σ H Q=>ty σ H fun y H1=>td σ H1 fun x H2=>∃ a o,x = .ref a/\DGet H2 a y o/\Q (.bl o.isSome) H2
def zqA (ty td:TE):TE:=fun σ H Q=>ty σ H fun y H1=>td σ H1 fun x H2=>∃ a o,x = .ref a/\DGet H2 a y o/\Q (.bl (!o.isSome)) H2
def zs1 (td ty tv:TE):TS:=fun D σ H=>tv σ H fun v H1=>td σ H1 fun x H2=>ty σ H2 fun y H3=>∃ a H4,x = .ref a/\DPut H3 a y v H4/\D.nx σ H4
def zsF (td ty tv:TE) (rd:V->V->Hp->VK->Prop):TS:=fun D σ H=>td σ H fun x H1=>ty σ H1 fun y H2=>∃ a v,x = .ref a/\DGet H2 a y (some v) /\
 tv σ H2 fun y2 H3=>rd v y2 H3 fun z H4=>∃ H5,DPut H4 a y z H5/\D.nx σ H5
section
variable {X:Cx} {o i e value:Expr} {pos pos' tpos:Pos} {td ty tv:TE}
theorem zmc (hu:X.A.units + 1 < cLine) (ho:PE X o td) (hi:PE X i ty) (hs:NoSl i):PE X (.Subscript o i pos) (zto td ty):=by
 intro pins s σ H Q I h
 refine zlR PySem.F.slot_dict_getitem.lookup hs (thn (ho pins s σ H _ I h) fun u s1 ⟨x,H1,I1,rx,q1⟩=>thn (hi pins s1 σ H1 _ I1 q1) fun iv s2 ⟨y,H2,I2,ry,a,v,ex,g,q2⟩=>?_)
 subst ex
 obtain rfl:u = Value.ref a:=rx
 exact ⟨zjg I2 g,zil hu I2 g ry fun w' s3 I3 rw'=>⟨v,H2,I3,rw',q2⟩⟩
theorem zrq (hu:X.A.units + 1 < cLine) (hi:PE X i ty) (ho:PE X o td):PC X .In i o (tDIn ty td):=by
 intro pins s σ H Q I h
 refine thn (hi pins s σ H _ I h) fun iv s1 ⟨y,H1,I1,ry,q1⟩=>thn (ho pins s1 σ H1 _ I1 q1) fun u s2 ⟨x,H2,I2,rx,a,ov,ex,g,q2⟩=>?_
 subst ex
 obtain rfl:u = Value.ref a:=rx
 exact d_in hu I2 g ry fun s3 I3=>⟨.bl ov.isSome,H2,I3,rfl,q2⟩
theorem zm5 (hu:X.A.units + 1 < cLine) (hi:PE X i ty) (ho:PE X o td):PC X .NotIn i o (zqA ty td):=by
 intro pins s σ H Q I h
 refine thn (hi pins s σ H _ I h) fun iv s1 ⟨y,H1,I1,ry,q1⟩=>thn (ho pins s1 σ H1 _ I1 q1) fun u s2 ⟨x,H2,I2,rx,a,ov,ex,g,q2⟩=>?_
 subst ex
 obtain rfl:u = Value.ref a:=rx
 exact zqe hu I2 g ry fun s3 I3=>⟨.bl (!ov.isSome),H2,I3,rfl,q2⟩
theorem ziC (hu:X.A.units + 1 < cLine) (ho:PE X o td) (hi:PE X i ty) (hv:PE X value tv) (hs:swapsWith value (some (.Subscript o i pos')) pos.line X.env = pure false) :
  PS X (.Assign [.Subscript o i pos'] value pos) (zs1 td ty tv):=by
 intro pins s σ H D I h
 refine wpAny_Assign_Subscript (thn (hv pins s σ H _ I h) fun r s1 ⟨v,H1,I1,rv,q1⟩=>thn (ho pins s1 σ H1 _ I1 q1) fun u s2 ⟨x,H2,I2,rx,q2⟩=>thn (hi pins s2 σ H2 _ I2 q2) fun iv s3 ⟨y,H3,I3,ry,a,H4,ex,g,q3⟩=>?_) hs
 subst ex
 obtain rfl:u = Value.ref a:=rx
 exact zis hu I3 g ry rv fun s4 I4=>⟨σ,H4,I4,q3⟩
theorem zqr  (hu:X.A.units + 1 < cLine) (ho:PE X o td) (hi:PE X i ty) (hv:PE X value tv) (hop:InOp X op rd)
  (ha:∀ ov iv new,augStore i ov iv new = (do holding [new,ov,iv] (setItem ov iv new);release [new,ov,iv] [];pure .next)):PS X (.AugAssign (.Subscript o i tpos) op value pos) (zsF td ty tv rd):=by
 intro pins s σ H D I h
 refine wpAny_AugAssign_SubscriptAny (thn (ho pins s σ H _ I h) fun u s1 ⟨x,H1,I1,rx,q1⟩=>thn (hi pins s1 σ H1 _ I1 q1) fun iv s2 ⟨y,H2,I2,ry,a,v,ex,g,q2⟩=>?_) ha
 subst ex
 obtain rfl:u = Value.ref a:=rx
 refine zil hu I2 g ry fun w' s3 I3 rw'=>thn (hv pins s3 σ H2 _ I3 q2) fun w2 s4 ⟨y2,H3,I4,ry2,q3⟩=>thn (hop pins s4 σ H3 v y2 w' w2 _ I4 rw' ry2 q3) fun w3 s5 ⟨z,H4,I5,rz,H5,g5,q4⟩=>?_
 exact zis hu I5 g5 ry rz fun s6 I6=>⟨σ,H5,I6,q4⟩
end
theorem zkj  (h:Heap) (hb:sysModules < h.objs.size):ObjOk P w H (h.push { cls:=.type "dict",data:=.dict #[] }) h.objs.size (.dK []):=
 ⟨YBy _,YAM.mpr (YAH (YAp hb)),[],.nil,Heap.DictOf.new h⟩
def zrB:TE:=fun _ H Q=>∀ p,H p = none->Q (.ref p) (upd H p (.dK []))
section
variable {X:Cx} {pos:Pos}
theorem zox:PE X (.Dict [] [] pos) zrB:=fun pins s σ H Q I h=>
 wpAny_Dict_empty ⟨.ref s.heap.objs.size,_,I.laid (a:=s.heap.objs.size) (o:=.dK []) (t':=s.toks) (fun _ _ q=>YAb _ q) (YAk _) (zkj s.heap I.big),rfl,h _ (I.hok.fresh (YAk _))⟩
end
def zju:List (TE × TE)->St->Hp->(List (V × V)->Hp->Prop)->Prop
 | [],_,H,Q=>Q [] H
 | (tk,tv) :: r,σ,H,Q=>tk σ H fun x H1=>tv σ H1 fun y H2=>zju r σ H2 fun ps H3=>Q ((x,y) :: ps) H3
abbrev VV:List (V × V)->List (Value × Value)->Prop:=Paired fun p q=>RelV p.1 q.1/\RelV p.2 q.2
def PPs (X:Cx) (pos:Pos) (keys:List (Option Expr)) (values:List Expr) (trs:List (TE × TE)):Prop:=
 ∀ (pins:List (Addr × Obj)) (s:Shared) (σ:St) (H:Hp) (Q:List (V × V)->Hp->Prop),Inv X pins σ H s->zju trs σ H Q ->
  wpAny (model X.prog X.w) X.A (evalPairs (pairTrees keys values X.env pos)) (fun vs s'=>∃ ps H',Inv X pins σ H' s'/\VV ps vs/\Q ps H') X.xe s
theorem zpE  : PPs X pos [] [] []:=fun pins s σ H Q I h=>pairTrees_nil_walk ⟨[],H,I,.nil,h⟩
theorem znm    (hk:PE X k tk) (hv:PE X v tv) (hr:PPs X pos ks vs trs) :
  PPs X pos (some k :: ks) (v :: vs) ((tk,tv) :: trs):=fun pins s σ H Q I h=>
 pairTrees_cons_walk (thn (hk pins s σ H _ I h) fun u s1 ⟨x,H1,I1,rx,q1⟩=>thn (hv pins s1 σ H1 _ I1 q1) fun w2 s2 ⟨y,H2,I2,ry,q2⟩=>
  thn (hr pins s2 σ H2 _ I2 q2) fun ws s3 ⟨ps,H3,I3,rel,q3⟩=>⟨(x,y) :: ps,H3,I3,.cons ⟨rx,ry⟩ rel,q3⟩)
def zeY (kvs more:List (Key × V)):List (Key × V):=more.foldl (fun acc kv=>putK acc kv.1 kv.2) kvs
theorem KV.merge:∀ {more:List (Key × V)} {rs:List (Key × Value)} {kvs:List (Key × V)} {vs:List (Key × Value)},KV more rs->KV kvs vs->KV (zeY kvs more) (merged vs rs):=by
 intro more rs kvs vs r
 unfold KV at r
 induction r generalizing kvs vs with
 | nil=>intro q;exact q
 | @cons p q ps qs h t ih=>
  intro r0
  have e:KV (putK kvs p.1 p.2) (stored vs q.1 q.2):=by
   have:=r0.put p.1 h.2
   rw [<- h.1];exact this
  exact ih e
theorem zek:∀ (more kvs:List (Key × V)),(zeY kvs more).length <= kvs.length + more.length
 | [],kvs=>by show kvs.length <= kvs.length + 0;omega
 | p :: r,kvs=>by
  have h1:=zek r (putK kvs p.1 p.2)
  have h2:=zdI kvs p.1 p.2
  show (zeY (putK kvs p.1 p.2) r).length <= _
  rw [YAP];omega
theorem zgv  : ∀ {kvs:List (Key × V)} {ws:List (Value × Value)},VV (kvs.map fun kv=>(kV kv.1,kv.2)) ws->∃ rs,Carries (zaL P w) ws rs/\KV kvs rs
 | [],_,r=>by rw [YA7] at r;cases r;exact ⟨[],True.intro,.nil⟩
 | p :: kvs,_,r=>by
  rw [YAm] at r
  cases r with
  | @cons a b as bs h t=>
   obtain ⟨rs,c,q⟩:=zgv (P:=P) (w:=w) t
   obtain ⟨b1,b2⟩:=b
   exact ⟨(p.1,b2) :: rs,⟨ziD h.1,rfl,c⟩,.cons ⟨rfl,h.2⟩ q⟩
def zsO (trs:List (TE × TE)):TE:=fun σ H Q=>∀ p,H p = none->zju trs σ (upd H p (.dK [])) fun ps H2=>H2 p = some (.dK [])/\∃ kvs:List (Key × V),ps = kvs.map (fun kv=>(kV kv.1,kv.2))/\kvs.length <= 15/\Q (.ref p) (upd H2 p (.dK (zeY [] kvs)))
theorem zqw   (h:PPs X pos keys values trs) (hall:keys.all (·.isSome) = true) (hl:keys.length = values.length) (h0:keys ≠ [])
  (h15:keys.length <= 15):PE X (.Dict keys values pos) (zsO trs):=by
 intro pins s σ H Q I q
 have hn:=I.hok.fresh (YAk s.heap.objs.size)
 have I1:=I.laid (a:=s.heap.objs.size) (o:=.dK []) (h':=s.heap.push { cls:=.type "dict",data:=.dict #[] }) (t':=s.toks) (fun _ _ q=>YAb _ q) (YAk _) (zkj s.heap I.big)
 refine wpAny_Dict_walk (knd:=zaL X.prog X.w) hall hl h0 h15 (thn (h pins _ σ _ _ I1 (q _ hn)) fun ws s2 ⟨ps,H2,I2,rel,e,kvs,ep,lk,q2⟩=>?_)
 subst ep
 obtain ⟨rs,c,rk⟩:=zgv (P:=X.prog) (w:=X.w) rel
 obtain ⟨z,hd,vs0,r0,dd⟩:=zrw I2.hok e
 cases r0
 refine ⟨rs,c,dd,fun h' dd' hs=>⟨.ref s.heap.objs.size,_,?_,rfl,q2⟩⟩
 have hz:(zeY [] kvs).length <= sizeLine:=by
  have h1:=zek kvs []
  rw [List.length_nil] at h1
  rw [YAO];omega
 have he:∃ q,h'.get? s.heap.objs.size = some q:=let ⟨q,_,_,hq,_⟩:=dd';⟨q,hq⟩
 exact zjh I2 (by rw [e];exact True.intro) hs he (zlr hz hd (rk.merge .nil) dd')
section
variable {X:Cx} {pins:List (Addr × Obj)} {σ:St} {H:Hp} {s:Shared} {a:Addr} {y d:V} {u r:Value} {o:Option V} {A:Around} {E:Value->Shared->Prop}
end
section
variable {X:Cx} {o e f:Expr} {apos cpos:Pos} {td ty tx:TE}
end
section
variable {X:Cx} {pins:List (Addr × Obj)} {σ:St} {H:Hp} {s:Shared} {a:Addr} {kvs:List (Key × V)} {A:Around} {E:Value->Shared->Prop}
theorem zm9 (I:Inv X pins σ H s) (e:Rd H a (.dK kvs)) (h:∀ p s',H p = none->Inv X pins σ (upd H p (.dK kvs)) s'->Q (.ref p) s'):wpAny (model X.prog X.w) A (call (.type "dict") [.ref a]) Q E s:=by
 obtain ⟨z,hd,vs,rel,dd⟩:=zie I.hok e
 refine kt_call_dict hd dd (by rw [<- rel.length];exact z) fun h' dd' hs=>?_
 refine h _ _ (I.hok.fresh (YAk _)) (I.laid (a:=s.heap.objs.size) (o:=.dK kvs) (t':=s.toks) (fun b q hq=>?_) (YAk _) (zlr z (YAM.mpr (YAH (YAp I.big))) rel dd'))
 exact (hs.2 b (YAp (YAg hq))).trans (YAb _ hq)
end
section
variable {X:Cx} {pins:List (Addr × Obj)} {σ:St} {H:Hp} {s:Shared} {a:Addr} {y:V} {u:Value} {A:Around} {E:Value->Shared->Prop}
end
section
variable {X:Cx}
end
section
variable {κ:Type} [DecidableEq κ]
theorem zpz {kvs:List (κ × V)} {k:κ} {v:V} (h:valV kvs k = some v):k ∈ kvs.map (·.1):=by
 have q:(kvs.any fun kv=>decide (kv.1 = k)) = true:=by
  rw [zfh,h]
  all_goals rfl
 obtain ⟨p,hp,e⟩:=List.any_eq_true.mp q
 exact YBc.mpr ⟨p,hp,YAE e⟩
end
end L2
set_option maxHeartbeats 4000000
namespace L2
open PySem PySem.Spec PyProof.Rows
def zqW (σ:St):Option Nat->Option V
 | none=>none
 | some j=>(σ[j]?).join
def zc7 (sub:List (Option Nat)) (σ:St):St:=sub.map (zqW σ)
theorem zhT (sub:List (Option Nat)) (σ:St):(zc7 sub σ).length = sub.length:=by unfold zc7;simp
theorem zix {sub:List (Option Nat)} {σ:St} {i:Nat} {v:V} (h:(zc7 sub σ)[i]? = some (some v)):∃ j,sub[i]? = some (some j)/\σ[j]? = some (some v):=by
 unfold zc7 at h
 rw [YAt] at h
 cases e:sub[i]? with
 | none=>rw [e] at h;cases h
 | some o=>
  rw [e] at h
  have h':zqW σ o = some v:=Option.some.inj h
  cases o with
  | none=>cases h'
  | some j=>
   refine ⟨j,rfl,?_⟩
   have h2:(σ[j]?).join = some v:=h'
   cases e2:σ[j]? with
   | none=>rw [e2] at h2;cases h2
   | some w=>rw [e2] at h2;exact congrArg some h2
def zgz (N:List Str) (osc sc:Scope) (Nc:List Str) (sub:List (Option Nat)):Bool:=
 decide (sc.kind = .function) && sc.names.all (fun y=>decide (y.2 ≠ .cell)) && sc.names.all (fun y=>!decide (y.2 = .local) || decide (sc.names.lookup y.1 = some .local)) && decide (sub.length = Nc.length) &&
 (Nc.zip sub).all (fun p=>match p.2 with | none=>true | some j=>decide (N[j]? = some p.1) && decide (sc.names.lookup p.1 = some .free)) &&
 sc.names.all (fun y=>!decide (y.2 = .free) || (decide (osc.names.lookup y.1 = some .cell) || decide (osc.names.lookup y.1 = some .free)))
structure CompScope (N:List Str) (osc sc:Scope) (Nc:List Str) (sub:List (Option Nat)):Prop where
 kind:sc.kind = .function
 nocell:∀ y ∈ sc.names,y.2 ≠ .cell
 names:∀ y ∈ sc.names,y.2 = .local->sc.names.lookup y.1 = some .local
 len:sub.length = Nc.length
 vis:∀ (i j:Nat) (x:Str),Nc[i]? = some x->sub[i]? = some (some j)->N[j]? = some x/\sc.names.lookup x = some .free
 frees:∀ y ∈ sc.names,y.2 = .free->osc.names.lookup y.1 = some .cell\/osc.names.lookup y.1 = some .free
theorem CompScope.of {N:List Str} {osc sc:Scope} {Nc:List Str} {sub:List (Option Nat)} (h:zgz N osc sc Nc sub = true):CompScope N osc sc Nc sub:=by
 unfold zgz at h
 simp only [YAx,YBq,decide_eq_true_eq,Bool.or_eq_true,Bool.not_eq_true',decide_eq_false_iff_not] at h
 obtain ⟨⟨⟨⟨⟨h1,h2⟩,h3⟩,h4⟩,h5⟩,h6⟩:=h
 refine ⟨h1,h2,fun y hy e=>(h3 y hy).elim (fun z=>absurd e z) id,h4,fun i j x e1 e2=>?_,fun y hy e=>(h6 y hy).elim (fun z=>absurd e z) id⟩
 have hz:(Nc.zip sub)[i]? = some (x,some j):=by
  rw [List.getElem?_zip_eq_some]
  exact ⟨e1,e2⟩
 have q:=h5 (x,some j) (YCd hz)
 simp only [YAx,decide_eq_true_eq] at q
 exact q
def clOf (cells:List (Str × Addr)):List (Str × NameKind)->List (Str × Addr)->List (Str × Addr)
 | [],acc=>acc
 | (n,k) :: r,acc=>clOf cells r (if k = .free then (n,(cells.lookup n).getD 0) :: acc else acc)
theorem zg3:∀ (names:List (Str × NameKind)) (acc:List (Str × Addr)),(∀ y ∈ names,y.2 = .free->∃ c,env.cells.lookup y.1 = some c) ->
  (forIn names acc fun x r=>match x with | (name,kind)=>if (kind == NameKind.free) = true then do let a <- cellOf env name;pure (ForInStep.yield ((name,a) :: r)) else pure (ForInStep.yield r):Sem (List (Str × Addr))) = pure (clOf env.cells names acc):=by
 intro names
 induction names with
 | nil=>intro acc _;rfl
 | cons y r ih=>
  intro acc h
  obtain ⟨n,k⟩:=y
  have ih':=ih (if k = .free then (n,(env.cells.lookup n).getD 0) :: acc else acc) fun y hy=>h y (YAq _ hy)
  rw [YCn]
  by_cases hk:k = .free
  ·subst hk
   obtain ⟨c,hc⟩:=h (n,.free) YAf rfl
   have e1:cellOf env n = pure c:=by unfold cellOf;rw [hc]
   simp only [beq_self_eq_true,YCs,e1,pure_bind]
   unfold clOf
   rw [hc] at ih' ⊢
   simpa using ih'
  ·have hb:(k == NameKind.free) = false:=by simpa using hk
   simp only [hb,YBt,YB2,pure_bind]
   unfold clOf
   rw [if_neg hk] at ih' ⊢
   exact ih'
theorem znX:∀ (names:List (Str × NameKind)) (acc:List (Str × Addr)),(∀ y ∈ names,y.2 = .free->∃ c,cells.lookup y.1 = some c)->(∀ p ∈ acc,cells.lookup p.1 = some p.2) ->
  ∀ p ∈ clOf cells names acc,cells.lookup p.1 = some p.2:=by
 intro names
 induction names with
 | nil=>intro acc _ h;exact h
 | cons y r ih=>
  intro acc h ha
  obtain ⟨n,k⟩:=y
  refine ih _ (fun y hy=>h y (YAq _ hy)) ?_
  by_cases hk:k = .free
  ·rw [if_pos hk]
   intro p hp
   rcases YAr.mp hp with e | e
   ·subst e
    obtain ⟨c,hc⟩:=h (n,k) YAf hk
    show cells.lookup n = some ((cells.lookup n).getD 0)
    have hc':cells.lookup n = some c:=hc
    rw [hc'];rfl
   ·exact ha p e
  ·rw [if_neg hk];exact ha
theorem zlA  : ∀ (names:List (Str × NameKind)) (acc:List (Str × Addr)),p ∈ acc->p ∈ clOf cells names acc:=by
 intro names
 induction names with
 | nil=>intro acc h;exact h
 | cons y r ih=>
  intro acc h
  obtain ⟨n,k⟩:=y
  refine ih _ ?_
  by_cases hk:k = .free
  ·rw [if_pos hk];exact YAq _ h
  ·rw [if_neg hk];exact h
theorem znW  : ∀ (names:List (Str × NameKind)) (acc:List (Str × Addr)),(x,NameKind.free) ∈ names->∃ c,(x,c) ∈ clOf cells names acc:=by
 intro names
 induction names with
 | nil=>intro acc h;cases h
 | cons y r ih=>
  intro acc h
  obtain ⟨n,k⟩:=y
  rcases YAr.mp h with e | e
  ·cases e
   refine ⟨(cells.lookup x).getD 0,?_⟩
   unfold clOf
   refine zlA _ _ ?_
   rw [if_pos rfl]
   exact YAf
  ·exact ih _ e
theorem zet {α:Type} {x:Str} {c:α}:∀ {l:List (Str × α)},(x,c) ∈ l->∃ d,l.lookup x = some d
 | [],h=>by cases h
 | (y,d) :: r,h=>by
  by_cases e:x = y
  ·subst e;exact ⟨d,by simp [List.lookup]⟩
  ·have hb:(x == y) = false:=YAM.mpr e
   rcases YAr.mp h with q | q
   ·cases q;exact absurd rfl e
   ·obtain ⟨d',q'⟩:=zet q
    exact ⟨d',by simp only [List.lookup,hb];exact q'⟩
theorem zdl  (h:∀ y ∈ scope.names,y.2 = .free->∃ c,env.cells.lookup y.1 = some c) :
  ∃ cl,closureFor scope env = pure cl/\(∀ x c,cl.lookup x = some c->env.cells.lookup x = some c)/\∀ x,scope.names.lookup x = some .free->∃ c,cl.lookup x = some c:=by
 refine ⟨clOf env.cells scope.names [],?_,fun x c e=>?_,fun x e=>?_⟩
 ·unfold closureFor
  show (forIn scope.names ([]:List (Str × Addr)) (fun x r=>match x with | (name,kind)=>if (kind == NameKind.free) = true then do let a <- cellOf env name;pure (ForInStep.yield ((name,a) :: r)) else pure (ForInStep.yield r)) >>= fun cs=>pure cs:Sem (List (Str × Addr))) = _
  rw [zg3 scope.names [] h,pure_bind]
 ·exact znX scope.names [] h (fun p hp=>nomatch hp) (x,c) (YA0 e)
 ·obtain ⟨c,hc⟩:=znW (cells:=env.cells) scope.names [] (YA0 e)
  exact zet hc
theorem zco {env:Env}:∀ {names:List (Str × NameKind)} {x:Str},names.lookup x = some .free ->
  (names.map fun (n,k)=>if (k == NameKind.free && env.scope.kind == .function && env.kindOf n == some .cell) then (n,NameKind.cell) else (n,k)).lookup x = some .cell \/
  (names.map fun (n,k)=>if (k == NameKind.free && env.scope.kind == .function && env.kindOf n == some .cell) then (n,NameKind.cell) else (n,k)).lookup x = some .free
 | [],_,h=>by simp at h
 | (n,k) :: r,x,h=>by
  have ih:=@zco env r x
  show List.lookup x ((if (k == NameKind.free && env.scope.kind == .function && env.kindOf n == some .cell) = true then (n,NameKind.cell) else (n,k)) :: _) = _\/List.lookup x ((if (k == NameKind.free && env.scope.kind == .function && env.kindOf n == some .cell) = true then (n,NameKind.cell) else (n,k)) :: _) = _
  cases hx:x == n with
  | true=>
   simp only [YAI,hx] at h
   cases h
   by_cases hc:(NameKind.free == NameKind.free && env.scope.kind == .function && env.kindOf n == some .cell) = true
   ·rw [if_pos hc];left;simp only [YAI,hx]
   ·rw [if_neg hc];right;simp only [YAI,hx]
  | false=>
   simp only [YAI,hx] at h
   by_cases hc:(k == NameKind.free && env.scope.kind == .function && env.kindOf n == some .cell) = true
   ·rw [if_pos hc];simp only [YAI,hx];exact ih h
   ·rw [if_neg hc];simp only [YAI,hx];exact ih h
theorem zdf {env:Env}:∀ {names:List (Str × NameKind)} {x:Str},(∀ y ∈ names,y.2 ≠ .cell) ->
  ((names.map fun (n,k)=>if (k == NameKind.free && env.scope.kind == .function && env.kindOf n == some .cell) then (n,NameKind.cell) else (n,k)).lookup x = some .cell \/
  (names.map fun (n,k)=>if (k == NameKind.free && env.scope.kind == .function && env.kindOf n == some .cell) then (n,NameKind.cell) else (n,k)).lookup x = some .free)->names.lookup x = some .free
 | [],_,_,h=>by simp at h
 | (n,k) :: r,x,nc,h=>by
  have ih:=@zdf env r x fun y hy=>nc y (YAq _ hy)
  have nk:k ≠ .cell:=nc (n,k) YAf
  have h':List.lookup x ((if (k == NameKind.free && env.scope.kind == .function && env.kindOf n == some .cell) = true then (n,NameKind.cell) else (n,k)) :: (r.map fun (n,k)=>if (k == NameKind.free && env.scope.kind == .function && env.kindOf n == some .cell) then (n,NameKind.cell) else (n,k))) = some .cell\/List.lookup x ((if (k == NameKind.free && env.scope.kind == .function && env.kindOf n == some .cell) = true then (n,NameKind.cell) else (n,k)) :: (r.map fun (n,k)=>if (k == NameKind.free && env.scope.kind == .function && env.kindOf n == some .cell) then (n,NameKind.cell) else (n,k))) = some .free:=h
  clear h
  by_cases hc:(k == NameKind.free && env.scope.kind == .function && env.kindOf n == some .cell) = true
  ·rw [if_pos hc] at h'
   have kf:k = .free:=by
    rw [YAx,YAx] at hc
    exact YBZ.mp hc.1.1
   cases hx:x == n with
   | true=>simp only [YAI,hx];rw [kf]
   | false=>simp only [YAI,hx] at h' ⊢;exact ih h'
  ·rw [if_neg hc] at h'
   cases hx:x == n with
   | true=>
    simp only [YAI,hx] at h' ⊢
    rcases h' with e | e
    ·exact absurd (Option.some.inj e) nk
    ·exact e
   | false=>simp only [YAI,hx] at h' ⊢;exact ih h'
def zaz (X:Cx) (Nc:List Str) (scope:Scope) (cl:List (Str × Addr)) (L:Addr) (s₀:Shared) (H₀:Hp) (ex:List Addr):Cx:=
 { X with N:=Nc,s₀:=s₀,H₀:=H₀,env:=compEnvC scope cl L X.env,outer:=X.stack,ex:=ex,fn:=fun _=>false,pn:=[],xe:=fun _ _=>False }
def zhB (sub:List (Option Nat)) (g:TG):Prop:=∀ v σ H (Q:St->Hp->Prop),g v σ H Q->g v σ H fun σ2 H2=>Q σ2 H2/\∀ (i j:Nat),sub[i]? = some (some j)->σ2[i]? = σ[i]?
def zh5 (sub:List (Option Nat)) (g:TGs):Prop:=∀ v σ H (Q:St->Hp->Prop),g v σ H Q->g v σ H fun σ2 H2=>Q σ2 H2/\∀ (i j:Nat),sub[i]? = some (some j)->σ2[i]? = σ[i]?
theorem zpi  (h:sub[i]? = some none):zhB sub (zhG i):=fun v σ H Q q=>by
 refine ⟨q,fun k j e=>?_⟩
 have ne:i ≠ k:=fun z=>by subst z;rw [h] at e;cases e
 rw [YAi ne]
theorem zqk:zh5 sub gNil:=fun _ _ _ _ ⟨e,q⟩=>⟨e,q,fun _ _ _=>rfl⟩
def zgR (g:TG):Prop:=∀ v σ H (Q Q':St->Hp->Prop),(∀ σ2 H2,Q σ2 H2->Q' σ2 H2)->g v σ H Q->g v σ H Q'
def zgt (g:TGs):Prop:=∀ v σ H (Q Q':St->Hp->Prop),(∀ σ2 H2,Q σ2 H2->Q' σ2 H2)->g v σ H Q->g v σ H Q'
theorem zp6:zgR (zhG i):=fun _ _ _ _ _ f q=>f _ _ q
theorem zqi:zgt gNil:=fun _ _ _ _ _ f ⟨e,q⟩=>⟨e,f _ _ q⟩
theorem znp  (h1:zgR t) (h2:zgt u):zgt (znB t u):=fun v σ H Q Q' f ⟨x,r,e,q⟩=>⟨x,r,e,h1 _ _ _ _ _ (fun σ2 H2 z=>h2 _ _ _ _ _ f z) q⟩
theorem znD  (h1:zhB sub t) (m1:zgR t) (h2:zh5 sub u) (m2:zgt u):zh5 sub (znB t u):=fun v σ H Q ⟨x,r,e,q⟩=>by
 refine ⟨x,r,e,?_⟩
 refine m1 _ _ _ _ _ (fun σ2 H2 z=>?_) (h1 _ _ _ _ q)
 obtain ⟨z,k⟩:=z
 refine m2 _ _ _ _ _ (fun σ3 H3 y=>?_) (h2 _ _ _ _ z)
 exact ⟨y.1,fun i j e=>(y.2 i j e).trans (k i j e)⟩
def PIfs (X:Cx) (ifs:List Expr) (t:TT):Prop:=
 ∀ (pins:List (Addr × Obj)) (s:Shared) (σ:St) (H:Hp) (Q:Bool->Hp->Prop),Inv X pins σ H s->t σ H Q ->
  wpAny (model X.prog X.w) X.A (forIn ifs true fun c r=>if r = true then do let ok <- isTrue c X.env (eval c X.env);pure (ForInStep.yield ok) else pure (ForInStep.yield r)) (TP X pins σ Q) X.xe s
def zsJ:TT:=fun _ H Q=>Q true H
theorem pif0:PIfs X [] zsJ:=fun _ _ _ H _ I h=>wpAny_tests_nil ⟨H,I,h⟩
theorem pif1  (h:PT X c t):PIfs X [c] t:=fun pins s σ H Q I q=>wpAny_tests_one (h pins s σ H Q I q)
def zoE (g:TG) (tc:TT) (te:TE) (σc:St) (l:Addr) (J:It) (H1:Hp) (Q:VK):Prop:=
 ∃ W:Nat->Nat->List V->Hp->Prop,(∃ m,W 0 m [] (upd H1 l (.lst [])))/\∀ i m xs H2,W i m xs H2->H2 l = some (.lst xs) /\
  ((J.stop i H2/\Q (.ref l) H2)\/(J.go i H2/\∃ N:List V->Hp->Prop,(∀ xs' H',N xs' H'->∃ m',m' < m/\W (i + 1) m' xs' H') /\
   ∀ x H',J.yld i H2 x H'->g x σc H' fun σ2 H3=>tc σ2 H3 fun b H4=>if b = true then te σ2 H4 fun y H5=>H5 l = some (.lst xs)/\xs.length < sizeLine/\N (xs ++ [y]) (upd H5 l (.lst (xs ++ [y]))) else N xs H4))
def zkf (sub:List (Option Nat)) (wi:TI) (g:TG) (tc:TT) (te:TE):TE:=fun σ H Q=>wi σ H fun J H1=>∀ l,H1 l = none->zoE g tc te (zc7 sub σ) l J H1 Q
section
variable {X:Cx} {pins:List (Addr × Obj)} {σ:St} {H:Hp} {s:Shared} {scope:Scope} {Nc:List Str} {sub:List (Option Nat)} {elt tg iter:Expr} {ifs:List Expr} {pos:Pos} {g:TG} {tc:TT} {te:TE}
theorem zlL {cl:List (Str × Addr)} {fp:List Addr} {it:Addr} {J:It} {tn:Nat->Heap->Prop} (I:Inv X pins σ H s) (hS:CompScope X.N X.env.scope scope Nc sub)
  (hcl:∀ x c,cl.lookup x = some c->X.env.cells.lookup x = some c) (hcl2:∀ x,scope.names.lookup x = some .free->∃ c,cl.lookup x = some c)
  (hf:∀ b ∈ fp,FpOk X pins H b) (hlt:∀ b ∈ fp,b < s.heap.objs.size):(zaz X Nc scope cl s.heap.objs.size s H fp).Ok where
 mod:=I.ok.mod
 kind:=hS.kind
 glob:=I.ok.glob
 blt:=I.ok.blt
 above:=YAk _
 inj:=fun x y c e1 e2=>I.ok.inj x y c (hcl x c e1) (hcl y c e2)
 has:=fun x h=>hcl2 x (zdf (env:=X.env) hS.nocell h)
 cab:=fun x c h=>by cases h
 hd:=I.ok.hd
 frames:=I.ok.frames
 stk:=.inl rfl
 exf:=fun b hb=>⟨YAp (hlt b hb),fun x c e=>(hf b hb).2.2.2.2.1 x c (hcl x c e)⟩
 bs:=I.bs
 bsz:=YAF I.ok.bsz I.sz
 noex:=fun b o e hb=>by
  rcases (hf b hb).2.2.2.1 with z | z
  ·exact I.ok.noex b o e z
  ·exact absurd (YAl (YAg e) (YAF I.ok.bsz z)) (YA3 _)
 exfs:=fun b hb hq=>by
  rcases YAr.mp (I.stkSub b hq) with z | z
  ·exact (hf b hb).2.1 z
  ·exact (hf b hb).2.2.1 z
 funs:=I.stack
 frf:=I.stkFree
theorem zhU {cl:List (Str × Addr)} {fp:List Addr} {h1:Heap} {t':Nat} {m:Str->Option Value} (I:Inv X pins σ H s) (hS:CompScope X.N X.env.scope scope Nc sub)
  (hcl:∀ x c,cl.lookup x = some c->X.env.cells.lookup x = some c) (hcl2:∀ x,scope.names.lookup x = some .free->∃ c,cl.lookup x = some c)
  (ok:(zaz X Nc scope cl s.heap.objs.size s H fp).Ok) (hn:h1.Ns s.heap.objs.size m) (hk:∀ b o,s.heap.get? b = some o->h1.get? b = some o) :
  Inv (zaz X Nc scope cl s.heap.objs.size s H fp) [] (zc7 sub σ) H { s with heap:=h1,toks:=t' } where
 ok:=ok
 os:=rfl
 bare:=I.bare
 base:=Un.kept hk
 loc:=by
  refine ⟨m,hn,fun i x v e1 e2 _=>?_⟩
  obtain ⟨j,e3,e4⟩:=zix e2
  obtain ⟨e5,e6⟩:=hS.vis i j x e1 e3
  obtain ⟨m',_,hl⟩:=I.loc
  have hfr:X.env.kindOf x = some .cell\/X.env.kindOf x = some .free:=hS.frees (x,.free) (YA0 e6) rfl
  obtain ⟨u,r,l⟩:=hl j x v e5 e4 (.inr hfr)
  refine ⟨u,r,?_⟩
  rcases l with ⟨k,_⟩ | ⟨_,c,e,z⟩
  ·rcases hfr with q | q
   ·rw [k] at q;cases q
   ·rw [k] at q;cases q
  ·obtain ⟨c',e'⟩:=hcl2 x e6
   have:=hcl x c' e'
   rw [e] at this;cases this
   exact .inr ⟨zco (env:=X.env) e6,c,e',z.keeps hk⟩
 cell:=fun x c e=>by
  obtain ⟨v,z⟩:=I.cell x c (hcl x c e)
  exact ⟨v,z.keeps hk⟩
 free:=I.hok.fresh (YAk _)
 freeC:=fun x c e=>I.freeC x c (hcl x c e)
 pin:=fun p hp=>absurd (show p ∈ ([]:List (Addr × Obj)) from hp) (by simp)
 hok:=I.hok.kept hk
 len:=(zhT sub σ).trans hS.len
theorem zku {cl:List (Str × Addr)} {fp:List Addr} {pinsC:List (Addr × Obj)} {σc:St} {H':Hp} {s':Shared} (I:Inv X pins σ H s) (hf:∀ b ∈ fp,FpOk X pins H b)
  (J:Inv (zaz X Nc scope cl s.heap.objs.size s H fp) pinsC σc H' s'):Inv X pins σ H' s':=
 I.call' (ch:=fp) J.os J.base J.hok J.bare fun b hb=>⟨(hf b hb).2.2.2.1,(hf b hb).2.1,(hf b hb).2.2.2.2.1,(hf b hb).2.2.2.2.2⟩
def zkg (X:Cx) (tg:Expr) (J:It) (fp:List Addr) (it:Addr) (tn:Nat->Heap->Prop):Prop:=∀ (i:Nat) (s:Shared) (σ:St) (H:Hp),Inv X [] σ H s->(∀ b ∈ fp,FpOk X [] H b)->tn i s.heap ->
 (J.go i H->∀ E,wpAny (model X.prog X.w) X.A (pyNext (.ref it)) (fun r s1=>∃ u,r = some u/\wpAny (model X.prog X.w) X.A (letOwnedTupleGo tg (.ref it) u) (fun _ s2=>∃ x H',Inv X [] σ H' s2/\RelV x u/\J.yld i H x H'/\tn (i + 1) s2.heap/\∀ b ∈ fp,H' b = none) E s1) E s) /\
 (J.stop i H->∀ E,wpAny (model X.prog X.w) X.A (pyNext (.ref it)) (fun r s1=>r = none/\Inv X [] σ H s1) E s)
theorem Turn.at {P:Program} {w:World} {K:PySem.W.Frag} {J:It} {fp:List Addr} {it:Addr} {tn:Nat->Heap->Prop} (T:Turn P w K tg J fp it tn) (h1:X.prog = P) (h2:X.w = w) (h3:X.K = K) (hc:X.calm = true):zkg X tg J fp it tn:=by
 subst h1 h2 h3
 exact fun i s σ H I hf st=>⟨fun g E=>T.item X rfl rfl rfl hc i [] s σ H E I hf st g,fun g E=>T.done X rfl rfl rfl hc i [] s σ H E I hf st g⟩
theorem zjz {cl:List (Str × Addr)} {fp:List Addr} {it:Addr} {J:It} {tn:Nat->Heap->Prop} {E:Value->Shared->Prop} {Q:VK} {RR:Value->Addr->Result->Shared->Prop}
  (I:Inv X pins σ H s) (hS:CompScope X.N X.env.scope scope Nc sub)
  (hcl:∀ x c,cl.lookup x = some c->X.env.cells.lookup x = some c) (hcl2:∀ x,scope.names.lookup x = some .free->∃ c,cl.lookup x = some c)
  (hT:∀ s0:Shared,(∀ b o,s.heap.get? b = some o->s0.heap.get? b = some o)->zkg (zaz X Nc scope cl s0.heap.objs.size s0 (upd H s.heap.objs.size (.lst [])) fp) tg J fp it tn) (T:Turn X.prog X.w X.K tg J fp it tn) (st:tn 0 s.heap) (hf:∀ b ∈ fp,FpOk X pins H b)
  (hg:∀ cl L s0 H0 ex,PG (zaz X Nc scope cl L s0 H0 ex) tg g) (gk:zhB sub g)
  (hi:∀ cl L s0 H0 ex,PIfs (zaz X Nc scope cl L s0 H0 ex) ifs tc) (he:∀ cl L s0 H0 ex,PE (zaz X Nc scope cl L s0 H0 ex) elt te)
  (gm:zgR g) (q:∀ l,H l = none->zoE g tc te (zc7 sub σ) l J H Q)
  (hRR:∀ l C H' s' m,Inv X pins σ H' s'->Q (.ref l) H'->s'.heap.Ns C m->s.heap.objs.size <= C->H' C = none->RR (.ref l) C (.ok .next) s') :
  wpAny (model X.prog X.w) X.A (newList []) (fun acc s₃=>wpAny (model X.prog X.w) X.A (newFunctionEnv scope X.env.globals cl [] X.env.qual none .none (some X.env)) (fun cenv s₄=>
   codeAny (model X.prog X.w) X.A (.compStart (.ListComp elt [⟨tg,iter,ifs,0⟩] scope pos) 0 (.ref it) acc { cenv with scope:=relabel scope X.env }) (RR acc cenv.locals) s₄) E s₃) E s:=by
 have hlt:∀ b ∈ fp,b < s.heap.objs.size:=fun b hb=>let ⟨o,e,_⟩:=T.obj _ _ st b hb;YAg e
 have hl0:H s.heap.objs.size = none:=I.hok.fresh (YAk _)
 obtain ⟨W,⟨m0,w0⟩,turn⟩:=q s.heap.objs.size hl0
 refine YAD ?_
 -- the list is laid
 have I3:Inv X pins σ (upd H s.heap.objs.size (.lst [])) { s with heap:=s.heap.push { cls:=.type "list",data:=.seq ([]:List Value).toArray },toks:=s.toks }:=I.lnew (its:=[]) .nil (YBy _)
 generalize hs3:({ s with heap:=s.heap.push { cls:=.type "list",data:=.seq ([]:List Value).toArray },toks:=s.toks }:Shared) = s3 at I3
 have e3:({ s with heap:=s.heap.push { cls:=.type "list",data:=.seq ([]:List Value).toArray } }:Shared) = s3:=hs3
 have k3:∀ b o,s.heap.get? b = some o->s3.heap.get? b = some o:=fun b o e=>by rw [<- hs3];exact YAb _ e
 have z3:s.heap.objs.size <= s3.heap.objs.size:=by rw [<- hs3];show _ <= (s.heap.push _).objs.size;rw [YBh];exact Nat.le_succ _
 have f3:∀ b ∈ fp,FpOk X pins (upd H s.heap.objs.size (.lst [])) b:=fun b hb=>⟨by rw [upd_ne (YAp (hlt b hb))];exact (hf b hb).1,(hf b hb).2⟩
 have lt3:∀ b ∈ fp,b < s3.heap.objs.size:=fun b hb=>YAl (hlt b hb) z3
 have st3:tn 0 s3.heap:=T.keep _ _ _ st fun b _ o e=>k3 b o e
 refine wpAny_newFunctionEnv hS.nocell (by intro y hy;simp at hy) (fun h₁ hns₁ hsb₁=>?_) hS.kind
 have k4:∀ b o,s3.heap.get? b = some o->h₁.get? b = some o:=fun b o e=>hsb₁.extBut b o (YAp (YAg e)) (YAb _ e)
 have ok4:=zlL (J:=J) (it:=it) (tn:=tn) I3 hS hcl hcl2 f3 lt3
 have I4:=zhU (t':=s3.toks + ([]:List (Str × Value)).length) I3 hS hcl hcl2 ok4 hns₁ k4
 have st4:tn 0 h₁:=T.keep _ _ _ st3 fun b _ o e=>k4 b o e
 -- what stays true of the iterator's objects
 have stat:∀ {H':Hp},(∀ b ∈ fp,H' b = none)->∀ b ∈ fp,FpOk (zaz X Nc scope cl s3.heap.objs.size s3 (upd H s.heap.objs.size (.lst [])) fp) [] H' b:=fun hn b hb=>
  ⟨hn b hb,(ok4.exf b hb).1,ok4.exfs b hb,.inl hb,(ok4.exf b hb).2,fun p hp=>absurd (show p ∈ ([]:List (Addr × Obj)) from hp) (by simp)⟩
 have loop:∀ s₄:Shared,s₄ = { s3 with heap:=h₁,toks:=s3.toks + ([]:List (Str × Value)).length } ->
   codeAny (model X.prog X.w) X.A (.compLoop (.ListComp elt [⟨tg,iter,ifs,0⟩] scope pos) 0 (.ref it) (.ref s.heap.objs.size) (compEnvC scope cl s3.heap.objs.size X.env)) (RR (.ref s.heap.objs.size) s3.heap.objs.size) s₄:=by
  rintro s₄ rfl
  refine codeAny_loop rfl (fun n s'=>∃ i xs H',Inv (zaz X Nc scope cl s3.heap.objs.size s3 (upd H s.heap.objs.size (.lst [])) fp) [] (zc7 sub σ) H' s'/\tn i s'.heap/\(∀ b ∈ fp,H' b = none)/\W i n xs H') ?_ m0
   ⟨0,[],_,I4,st4,fun b hb=>(f3 b hb).1,w0⟩
  rintro n s5 ⟨i,xs,H5,I5,st5,fr5,w5⟩
  show wpAny _ X.A ((compTurn (.ListComp elt [⟨tg,iter,ifs,0⟩] scope pos) 0 (.ref it) (.ref s.heap.objs.size) (compEnvC scope cl s3.heap.objs.size X.env)).onRaise (fun x=>do noteFrame x (compEnvC scope cl s3.heap.objs.size X.env);theTreesLotGoes x)) _ _ s5
  refine wpAny_noted ?_
  rw [compTurn_list]
  refine YAa (YCF (YAa ?_))
  obtain ⟨hl5,w5⟩:=turn i n xs H5 w5
  rcases w5 with ⟨stop,qn⟩ | ⟨go,N,hN,step⟩
  ·refine thn ((hT s3 k3 i s5 (zc7 sub σ) H5 I5 (stat fr5) st5).2 stop _) fun r s6 ⟨hr,I6⟩=>?_
   subst hr
   obtain ⟨m6,hn6,_⟩:=I6.loc
   exact YAc (hRR _ _ H5 s6 m6 (zku I3 f3 I6) qn hn6 z3 I6.free)
  ·refine thn ((hT s3 k3 i s5 (zc7 sub σ) H5 I5 (stat fr5) st5).1 go _) fun r s6 ⟨u,hr,h6⟩=>?_
   subst hr
   refine YAa (thn h6 fun _ s7 ⟨x,H7,I7,r7,y7,st7,fr7⟩=>?_)
   have I7':=I7.pinned (stat fr7) (T.obj _ _ st7)
   have again:∀ {σ8:St} {H8:Hp} {ys:List V} {s8:Shared},Inv (zaz X Nc scope cl s3.heap.objs.size s3 (upd H s.heap.objs.size (.lst [])) fp) ([] ++ zhs fp s7.heap) σ8 H8 s8->(∀ (i j:Nat),sub[i]? = some (some j)->σ8[i]? = (zc7 sub σ)[i]?)->N ys H8 ->
     ∃ m,m < n/\∃ i xs H',Inv (zaz X Nc scope cl s3.heap.objs.size s3 (upd H s.heap.objs.size (.lst [])) fp) [] (zc7 sub σ) H' s8/\tn i s8.heap/\(∀ b ∈ fp,H' b = none)/\W i m xs H':=fun {σ8 H8 ys s8} I8 k8 n8=>by
    obtain ⟨m',hm,w8⟩:=hN ys H8 n8
    refine ⟨m',hm,i + 1,ys,H8,?_,T.keep _ _ _ st7 fun b hb o e=>(I8.pin (b,o) (YAG _ (YAG _ (zdv hb e)))).1,fun b hb=>?_,w8⟩
    ·refine I8.unpinned.weak ?_ fun k v e=>?_
     ·rw [I8.len];exact (zhT sub σ).trans hS.len
     ·obtain ⟨j,e1,_⟩:=zix e
      rw [k8 k j e1];exact e
    ·obtain ⟨o,e,d⟩:=T.obj _ _ st7 b hb
     exact (I8.pin (b,o) (YAG _ (YAG _ (zdv hb e)))).2.1
   refine YAa (YAL (hg cl _ s3 _ fp _ s7 (zc7 sub σ) H7 x u _ I7' r7 (gk _ _ _ _ (step x H7 y7))) (fun _ s8 ⟨σ8,H8,I8,q8,k8⟩=>?_) fun _ _ z=>False.elim z)
   refine YAa (YAL (hi cl _ s3 _ fp _ s8 σ8 H8 _ I8 q8) (fun ok s9 ⟨H9,I9,q9⟩=>?_) fun _ _ z=>False.elim z)
   cases ok with
   | false=>exact YAc ⟨rfl,again I9 k8 q9⟩
   | true=>
    refine YAa (YAa (YAL (he cl _ s3 _ fp _ s9 σ8 H9 _ I9 q9) (fun xv s10 ⟨y,H10,I10,r10,hl10,hz,q10⟩=>?_) fun _ _ z=>False.elim z))
    refine YAa (YAL (zfr (X:=(zaz X Nc scope cl s3.heap.objs.size s3 (upd H s.heap.objs.size (.lst [])) fp)) _ s10 σ8 H10 (.ref s.heap.objs.size) [y] (.ref s.heap.objs.size) [xv] (fun _ H11=>N (xs ++ [y]) H11) I10 rfl (.cons r10 .nil) ⟨_,xs,y,rfl,rfl,hl10,hz,q10⟩) (fun _ s11 ⟨_,H11,I11,_,q11⟩=>?_) fun _ _ z=>False.elim z)
    exact YAc (YAc ⟨rfl,again I11 k8 q11⟩)
 exact codeAny_compStart_list (loop _ rfl) (T.self _ 0 _ _ _ st4 (loop _ rfl))
theorem zgm (I:Inv X pins σ H s) (hS:CompScope X.N X.env.scope scope Nc sub):∀ y ∈ scope.names,y.2 = .free->∃ c,X.env.cells.lookup y.1 = some c:=fun y hy e=>
 I.ok.has y.1 (hS.frees y hy e)
def PIT (X:Cx) (Nc:List Str) (scope:Scope) (tg iter:Expr) (wi:TI):Prop:=
 ∀ (pins:List (Addr × Obj)) (s:Shared) (σ:St) (H:Hp) (R:It->Hp->Prop),Inv X pins σ H s->wi σ H R->wpAny (model X.prog X.w) X.A (eval iter X.env) (fun v s1=>wpAny (model X.prog X.w) X.A (pyIter v) (fun itv s2=>
  ∃ (it:Addr) (fp:List Addr) (tn:Nat->Heap->Prop) (J:It) (H':Hp),itv = .ref it/\Inv X pins σ H' s2/\Turn X.prog X.w X.K tg J fp it tn/\tn 0 s2.heap/\(∀ b ∈ fp,FpOk X pins H' b)/\R J H' /\
   ∀ cl s0,(∀ b o,s2.heap.get? b = some o->s0.heap.get? b = some o)->zkg (zaz X Nc scope cl s0.heap.objs.size s0 (upd H' s2.heap.objs.size (.lst [])) fp) tg J fp it tn) X.xe s1) X.xe s
theorem PI.t {wi:TI} (hc:X.calm = true) (h:PI X tg iter wi):PIT X Nc scope tg iter wi:=fun pins s σ H R I q=>thn (h pins s σ H R I q) fun v s1 h1=>thn h1 fun itv s2 ⟨it,fp,tn,J,H',e,I2,T,st,f,r⟩=>⟨it,fp,tn,J,H',e,I2,T,st,f,r,fun _ _ _=>T.at rfl rfl rfl hc⟩
theorem zhy {wi:TI} (hS:CompScope X.N X.env.scope scope Nc sub) (hI:PIT X Nc scope tg iter wi)
  (hg:∀ cl L s0 H0 ex,PG (zaz X Nc scope cl L s0 H0 ex) tg g) (gk:zhB sub g) (gm:zgR g)
  (hi:∀ cl L s0 H0 ex,PIfs (zaz X Nc scope cl L s0 H0 ex) ifs tc) (he:∀ cl L s0 H0 ex,PE (zaz X Nc scope cl L s0 H0 ex) elt te)
  (hs:∀ x,foldedSetIterable iter X.env x = pure x:=by intro _;rfl):PE X (.ListComp elt [⟨tg,iter,ifs,0⟩] scope pos) (zkf sub wi g tc te):=by
 intro pins s σ H Q I h
 obtain ⟨cl,hcl0,hcl,hcl2⟩:=zdl (zgm I hS)
 rw [eval_ListComp]
 refine wpAny_comprehension_free (use:=none) rfl hs hcl0 hS.kind hS.names ?_
 refine thn (hI pins s σ H _ I h) fun xv s1 h1=>thn h1 fun itv s2 h2=>?_
 obtain ⟨it,fp,tn,J,H2,e,I2,T,st2,f2,q,hT⟩:=h2
 subst e
 refine zjz I2 hS hcl hcl2 (hT cl) T st2 f2 hg gk hi he gm q fun l C H' s' m I' q' hn hC hfr=>?_
 refine ⟨m,hn,fun h' sb=>?_⟩
 have nL:C ≠ X.env.locals:=YBr (YAl I2.lt hC)
 refine ⟨.ref l,H',?_,rfl,q'⟩
 exact I'.turned (it:=C) (t':=s'.toks) (fun b o hb e=>(sb.2 b hb).trans e) hfr nL (.inr (YAF I2.sz hC)) (fun x c e z=>by
  obtain ⟨v,w⟩:=I2.cell x c e
  exact absurd (YAl w.lt (by rw [z];exact hC)) (YA3 _)) fun p hp z=>
  absurd (YAl (YAg (I2.pin p hp).1) (by rw [z];exact hC)) (YA3 _)
theorem zof (hc:X.calm = true) (hS:CompScope X.N X.env.scope scope Nc sub) (hI:PI X tg iter wi)
  (hg:∀ cl L s0 H0 ex,PG (zaz X Nc scope cl L s0 H0 ex) tg g) (gk:zhB sub g) (gm:zgR g)
  (hi:∀ cl L s0 H0 ex,PIfs (zaz X Nc scope cl L s0 H0 ex) ifs tc) (he:∀ cl L s0 H0 ex,PE (zaz X Nc scope cl L s0 H0 ex) elt te)
  (hs:∀ x,foldedSetIterable iter X.env x = pure x:=by intro _;rfl):PE X (.ListComp elt [⟨tg,iter,ifs,0⟩] scope pos) (zkf sub wi g tc te):=zhy hS (hI.t hc) hg gk gm hi he hs
theorem zlO   (hc:X.calm = true) (hN:X.N.Nodup) (hiN:X.N[i]? = some y) (hy:X.env.scope.names.lookup y = some .local) (hS:CompScope X.N X.env.scope scope Nc sub) (hI:PI X tg iter wi)
  (hg:∀ cl L s0 H0 ex,PG (zaz X Nc scope cl L s0 H0 ex) tg g) (gk:zhB sub g) (gm:zgR g)
  (hi:∀ cl L s0 H0 ex,PIfs (zaz X Nc scope cl L s0 H0 ex) ifs tc) (he:∀ cl L s0 H0 ex,PE (zaz X Nc scope cl L s0 H0 ex) elt te)
  (hsw:swapsWith (.ListComp elt [⟨tg,iter,ifs,0⟩] scope pos) (some (.Name y py)) spos.line X.env = pure true:=by rfl)
  (hs:∀ x,foldedSetIterable iter X.env x = pure x:=by intro _;rfl):PS X (.Assign [.Name y py] (.ListComp elt [⟨tg,iter,ifs,0⟩] scope pos) spos) (tAsg (zkf sub wi g tc te) (zhG i)):=by
 intro pins s σ H D I h
 obtain ⟨cl,hcl0,hcl,hcl2⟩:=zdl (zgm I hS)
 rw [exec_Assign_Name_used _ _ _ _ hsw]
 refine YAa (YCF (YAa ?_))
 show wpAny _ X.A (do let _ <- comprehension (.ListComp elt [⟨tg,iter,ifs,0⟩] scope pos) scope X.env _ (newList []) false (eval iter X.env) (some (assign (.Name y py) X.env))) _ _ s
 refine YAa (YAL (wpAny_comprehension_free (use:=some (assign (.Name y py) X.env)) (Q:=fun _ s'=>SP X pins D .next s') rfl hs hcl0 hS.kind hS.names
  (thn (hI pins s σ H _ I h) fun xv s1 h1=>thn h1 fun itv s2 h2=>?_)) (fun _ s' hq=>YAc (YAc hq)) fun _ _ e=>e)
 obtain ⟨it,fp,tn,J,H2,e,I2,T,st2,f2,q⟩:=h2
 subst e
 refine zjz I2 hS hcl hcl2 (fun _ _=>T.at rfl rfl rfl hc) T st2 f2 hg gk hi he gm q fun l C H' s' m I' q' hn hC hfr=>?_
 have nL:C ≠ X.env.locals:=YBr (YAl I2.lt hC)
 show wpAny _ X.A (assign (.Name y py) X.env (.ref l)) _ _ _
 refine wpAny_assign_Name (zhJ I' hN hiN (.inl hy) (v:=.ref l) rfl (fun s6 I6 ⟨a,sb6,ha⟩=>?_) (.inr hy))
 have nA:C ≠ a:=fun z=>by
  rcases ha with e | e
  ·exact nL (z.trans e)
  ·obtain ⟨v,w⟩:=I2.cell y a e
   exact absurd (YAl w.lt (by rw [<- z];exact hC)) (YA3 _)
 refine ⟨m,hn.sameBut sb6 nA,fun h' sb=>?_⟩
 refine ⟨_,H',I6.turned (it:=C) (t':=s6.toks) (fun b o hb e=>(sb.2 b hb).trans e) hfr nL (.inr (YAF I2.sz hC)) (fun x c e z=>by
  obtain ⟨v,w⟩:=I2.cell x c e
  exact absurd (YAl w.lt (by rw [z];exact hC)) (YA3 _)) (fun p hp z=>
  absurd (YAl (YAg (I2.pin p hp).1) (by rw [z];exact hC)) (YA3 _)),q'⟩
end
section
variable {X:Cx} {pins:List (Addr × Obj)} {σ:St} {H:Hp} {s:Shared} {scope:Scope} {Nc:List Str} {sub:List (Option Nat)} {elt tg iter tg2 iter2:Expr} {ifs:List Expr} {pos:Pos} {g g2:TG} {wi2:TI} {tc:TT} {te:TE}
end
end L2
set_option maxHeartbeats 1000000
namespace L2
open PySem
end L2
namespace L2
open PySem PyProof.Rows
section
variable {prog:Program} {w:World} {A:Around} {E:Value->Shared->Prop} {s:Shared}
variable {a:Addr} {es:Array (Int × Value)} {ep:Nat} {t:SetTable}
end
section
variable {prog:Program} {w:World} {A:Around} {E:Value->Shared->Prop} {s:Shared} {it a p:Addr} {es:Array (Int × Value)} {ep:Nat} {t:SetTable} {ord:List (Int × Value)} {i:Nat}
end
section
variable {prog:Program} {w:World} {A:Around} {E:Value->Shared->Prop} {s:Shared} {a:Addr}
end
section
variable {prog:Program} {w:World} {A:Around} {R:Result->Shared->Prop} {I S:Addr} {fp wr:List Addr} {n:Nat} {P:Nat->Value->Prop} {St:Nat->Heap->Prop}
end
section
variable {prog:Program} {w:World} {A:Around} {E:Value->Shared->Prop} {s:Shared}
end
theorem zo7 {M:Model} {A:Around} {E:Value->Shared->Prop} {s:Shared} {α:Type} {c:Prop} [Decidable c] {x y:Sem α} {Q:α->Shared->Prop} (hc:c) (h:wpAny M A x Q E s):wpAny M A (if c then x else y) Q E s:=by rw [if_pos hc];exact h
theorem zfS {M:Model} {A:Around} {E:Value->Shared->Prop} {s:Shared} {α:Type} {c:Prop} [Decidable c] {x y:Sem α} {Q:α->Shared->Prop} (hc:¬ c) (h:wpAny M A y Q E s):wpAny M A (if c then x else y) Q E s:=by rw [if_neg hc];exact h
section
variable {prog:Program} {w:World} {A:Around} {E:Value->Shared->Prop} {s:Shared}
end
end L2
namespace L2
open PySem PySem.Spec PyProof.Rows
section
variable {X:Cx}
inductive IsI (K:PySem.W.Frag) (H:Hp):V->String->Bool->Prop
 | bl_bool (b):IsI K H (.bl b) "bool" true
 | bl_int (b):IsI K H (.bl b) "int" true
 | bl_list (b):IsI K H (.bl b) "list" false
 | bl_tuple (b):IsI K H (.bl b) "tuple" false
 | bl_str (b):IsI K H (.bl b) "str" false
 | int_bool (i):IsI K H (.int i) "bool" false
 | int_int (i):IsI K H (.int i) "int" true
 | int_list (i):IsI K H (.int i) "list" false
 | int_tuple (i):IsI K H (.int i) "tuple" false
 | int_str (i):IsI K H (.int i) "str" false
 | non_bool:IsI K H .non "bool" false
 | non_int:IsI K H .non "int" false
 | non_list:IsI K H .non "list" false
 | non_tuple:IsI K H .non "tuple" false
 | non_str:IsI K H .non "str" false
 | str_bool (i):IsI K H (.str i) "bool" false
 | str_int (i):IsI K H (.str i) "int" false
 | str_list (i):IsI K H (.str i) "list" false
 | str_tuple (i):IsI K H (.str i) "tuple" false
 | str_str (i):IsI K H (.str i) "str" true
 | list_bool (p xs):SqL K H p xs->IsI K H (.ref p) "bool" false
 | list_int (p xs):SqL K H p xs->IsI K H (.ref p) "int" false
 | list_list (p xs):SqL K H p xs->IsI K H (.ref p) "list" true
 | list_tuple (p xs):SqL K H p xs->IsI K H (.ref p) "tuple" false
 | list_str (p xs):SqL K H p xs->IsI K H (.ref p) "str" false
 | tuple_bool (p xs):SqT K H p xs->IsI K H (.ref p) "bool" false
 | tuple_int (p xs):SqT K H p xs->IsI K H (.ref p) "int" false
 | tuple_list (p xs):SqT K H p xs->IsI K H (.ref p) "list" false
 | tuple_tuple (p xs):SqT K H p xs->IsI K H (.ref p) "tuple" true
 | tuple_str (p xs):SqT K H p xs->IsI K H (.ref p) "str" false
theorem znt:CallR X (.builtin "isinstance") (fun vs H Q=>∃ x T b,vs = [x,.ty T]/\IsI X.K H x T b/\Q (.bl b) H):=by
 intro pins s σ H vs us Q I r h
 obtain ⟨x,T,b,rfl,hi,q⟩:=h
 obtain ⟨u,w',rfl,rx,ry⟩:=zqb r
 cases ry
 have f0:EP X pins σ Q (.bool b) s:=⟨.bl b,H,I,rfl,q⟩
 have f1:EP X pins σ Q (.bool b) { s with toks:=s.toks + 1 }:=⟨.bl b,H,I.tok _,rfl,q⟩
 cases hi with
 | bl_bool=>cases rx;exact IsiPair.bool_bool f0
 | bl_int=>cases rx;exact IsiPair.bool_int f0
 | bl_list=>cases rx;exact IsiPair.bool_list f1
 | bl_tuple=>cases rx;exact IsiPair.bool_tuple f1
 | bl_str=>cases rx;exact IsiPair.bool_str f1
 | int_bool=>obtain ⟨t,rfl⟩:=rx;exact IsiPair.int_bool f1
 | int_int=>obtain ⟨t,rfl⟩:=rx;exact IsiPair.int_int f0
 | int_list=>obtain ⟨t,rfl⟩:=rx;exact IsiPair.int_list f1
 | int_tuple=>obtain ⟨t,rfl⟩:=rx;exact IsiPair.int_tuple f1
 | int_str=>obtain ⟨t,rfl⟩:=rx;exact IsiPair.int_str f1
 | non_bool=>cases rx;exact IsiPair.NoneType_bool f1
 | non_int=>cases rx;exact IsiPair.NoneType_int f1
 | non_list=>cases rx;exact IsiPair.NoneType_list f1
 | non_tuple=>cases rx;exact IsiPair.NoneType_tuple f1
 | non_str=>cases rx;exact IsiPair.NoneType_str f1
 | str_bool=>obtain ⟨t,rfl⟩:=rx;exact IsiPair.str_bool f1
 | str_int=>obtain ⟨t,rfl⟩:=rx;exact IsiPair.str_int f1
 | str_list=>obtain ⟨t,rfl⟩:=rx;exact IsiPair.str_list f1
 | str_tuple=>obtain ⟨t,rfl⟩:=rx;exact IsiPair.str_tuple f1
 | str_str=>obtain ⟨t,rfl⟩:=rx;exact IsiPair.str_str f0
 | list_bool p xs h=>cases rx;obtain ⟨_,_,⟨o,n,e,c,_⟩,_⟩:=I.list h;exact IsiPair.list_bool e c f1
 | list_int p xs h=>cases rx;obtain ⟨_,_,⟨o,n,e,c,_⟩,_⟩:=I.list h;exact IsiPair.list_int e c f1
 | list_list p xs h=>cases rx;obtain ⟨_,_,⟨o,n,e,c,_⟩,_⟩:=I.list h;exact IsiPair.list_list e c f0
 | list_tuple p xs h=>cases rx;obtain ⟨_,_,⟨o,n,e,c,_⟩,_⟩:=I.list h;exact IsiPair.list_tuple e c f1
 | list_str p xs h=>cases rx;obtain ⟨_,_,⟨o,n,e,c,_⟩,_⟩:=I.list h;exact IsiPair.list_str e c f1
 | tuple_bool p xs h=>cases rx;obtain ⟨_,_,⟨o,e,c,_⟩,_⟩:=I.tuple h;exact IsiPair.tuple_bool e c f1
 | tuple_int p xs h=>cases rx;obtain ⟨_,_,⟨o,e,c,_⟩,_⟩:=I.tuple h;exact IsiPair.tuple_int e c f1
 | tuple_list p xs h=>cases rx;obtain ⟨_,_,⟨o,e,c,_⟩,_⟩:=I.tuple h;exact IsiPair.tuple_list e c f1
 | tuple_tuple p xs h=>cases rx;obtain ⟨_,_,⟨o,e,c,_⟩,_⟩:=I.tuple h;exact IsiPair.tuple_tuple e c f0
 | tuple_str p xs h=>cases rx;obtain ⟨_,_,⟨o,e,c,_⟩,_⟩:=I.tuple h;exact IsiPair.tuple_str e c f1
theorem zjs {bs:List Bool}:∀ {us:List Value},Vals (bs.map V.bl) us->∀ (i:Nat) v,us[i]? = some v->v = .bool (bs.getD i false):=by
 induction bs with
 | nil=>intro us r i v h;cases r;simp at h
 | cons b bs ih=>
  intro us r i v h
  rw [YAm] at r
  cases r with
  | cons r1 r2=>
   cases i with
   | zero=>simp at h;subst h;exact r1
   | succ i=>simpa using ih r2 i v (by simpa using h)
theorem zlP (bs:List Bool):((List.range bs.length).all fun i=>bs.getD i false) = bs.all id:=by
 induction bs with
 | nil=>rfl
 | cons b bs ih=>
  rw [YAP,List.range_succ_eq_map,List.all_cons,List.all_map,List.all_cons,<- ih]
  rfl
theorem zm4 (bs:List Bool):((List.range bs.length).any fun i=>bs.getD i false) = bs.any id:=by
 induction bs with
 | nil=>rfl
 | cons b bs ih=>
  rw [YAP,List.range_succ_eq_map,YBS,List.any_map,YBS,<- ih]
  rfl
theorem zll (hc:X.calm = true):CallR X (.builtin "all") (fun vs H Q=>∃ (p:Addr) (bs:List Bool),vs = [.ref p]/\SqL X.K H p (bs.map V.bl)/\Q (.bl (bs.all id)) H):=by
 intro pins s σ H vs us Q I r h
 obtain ⟨p,bs,rfl,hq,q⟩:=h
 obtain ⟨u,rfl,rx⟩:=zeI r
 cases rx
 obtain ⟨its,r',pl,hz⟩:=I.list hq
 have hlen:=r'.length
 rw [YAd] at hlen
 have hp:p < s.heap.objs.size:=let ⟨o,n,e,_⟩:=pl;YAg e
 refine call_all_walk (YBJ pl.isList ?_)
 refine ⟨s.heap.objs.size,_,[s.heap.objs.size],_,_,_,fun i=>bs.getD i false,rfl,Walks.list (A:=X.A.in1) (I.ok.hd hc) _ p (YAp hp) its.toArray,⟨⟨_,YAj _ rfl,rfl,rfl⟩,pl.isList.push _⟩,fun i v s' Q' E' hP hQ=>?_,fun h' tk hk=>?_⟩
 ·rw [zjs r' i v (by simpa using hP)]
  exact YAV hQ
 ·rw [YAo,<- hlen,zlP]
  exact ⟨.bl _,H,I.kept fun b o e=>hk b o (by simpa using YAp (YAg e)) (YAb _ e),rfl,q⟩
theorem zmp (hc:X.calm = true):CallR X (.builtin "any") (fun vs H Q=>∃ (p:Addr) (bs:List Bool),vs = [.ref p]/\SqL X.K H p (bs.map V.bl)/\Q (.bl (bs.any id)) H):=by
 intro pins s σ H vs us Q I r h
 obtain ⟨p,bs,rfl,hq,q⟩:=h
 obtain ⟨u,rfl,rx⟩:=zeI r
 cases rx
 obtain ⟨its,r',pl,hz⟩:=I.list hq
 have hlen:=r'.length
 rw [YAd] at hlen
 have hp:p < s.heap.objs.size:=let ⟨o,n,e,_⟩:=pl;YAg e
 refine call_any_walk (YBJ pl.isList ?_)
 refine ⟨s.heap.objs.size,_,[s.heap.objs.size],_,_,_,fun i=>bs.getD i false,rfl,Walks.list (A:=X.A.in1) (I.ok.hd hc) _ p (YAp hp) its.toArray,⟨⟨_,YAj _ rfl,rfl,rfl⟩,pl.isList.push _⟩,fun i v s' Q' E' hP hQ=>?_,fun h' tk hk=>?_⟩
 ·rw [zjs r' i v (by simpa using hP)]
  exact YAV hQ
 ·rw [YAo,<- hlen,zm4]
  exact ⟨.bl _,H,I.kept fun b o e=>hk b o (by simpa using YAp (YAg e)) (YAb _ e),rfl,q⟩
def ztm (i j:Int):Prop:=0 < j/\j < 2 ^ 64
theorem zj3:OpR X (binaryOp .FloorDiv) (rI ztm fun i j=>.int (i / j)):=opI fun i j _ _ _ _ _ hc q=>by
 have hp:(0:Int) < j:=hc.1
 have hl:j.natAbs.log2 < 9000:=by
  have h2:j < 2 ^ 64:=hc.2
  have h3:j.natAbs < 2 ^ 64:=by omega
  have h4:j.natAbs.log2 < 64:=(Nat.log2_lt (by omega)).mpr h3
  omega
 exact floordiv_int (by omega) (by rw [Int.fdiv_eq_ediv_of_nonneg i (by omega)];exact q) (.inl (PyProof.noPylong_of_log2 hl))
def zsS (K:PySem.W.Frag):V->V->Hp->VK->Prop:=fun x y H Q=>∃ (p:Addr) (xs:List V) (j:Nat) (v:V),x = .ref p/\y = .int j/\SqL K H p xs/\xs[j]? = some v/\Q v H
theorem zoy:PGet X (zsS X.K):=by
 intro pins s σ H o i ov iv Q I r1 r2 h
 obtain ⟨p,xs,j,v,rfl,rfl,hq,he,q⟩:=h
 cases r1
 obtain ⟨t,rfl⟩:=r2
 obtain ⟨its,r,pl,hz⟩:=I.list hq
 obtain ⟨u,eu,ru⟩:=r.get he
 have hj:j < xs.length:=(YAe.mp he).1
 have hn:=ze4
 exact wpAny_getItem_list pl.isList (by omega) (by omega) (by simpa using eu) ⟨v,H,I,ru,q⟩
end
section
variable {P:Program} {w:World} {A:Around} {E:Value->Shared->Prop} {s:Shared}
theorem zhv   (ht:s.heap.IsTupleIter it t i) (hl:s.heap.IsTuple t xs) (hx:xs[i]? = some x)
  (q:∀ h',h'.IsTupleIter it t (i + 1)->Heap.SameBut it s.heap h'->Q x { s with heap:=h' }):wpAny (model P w) A (Builtin.SmallTypes.nextOf (.ref it)) Q E s:=by
 obtain ⟨o,e,c,d⟩:=id ht
 obtain ⟨ol,el,_,n,dl⟩:=hl
 unfold Builtin.SmallTypes.nextOf
 refine YAa (YAA (name:=Str.ofString "__next__") ht.typeIs YBn (YAU YBn ht.typeIs F.entry_tuple_iterator_next ?_ (F.args_tuple_iterator_next_1 _)))
 show wpAny _ _ (field (.ref it) 0 >>= _) _ _ s;refine YAa (YAz e d (x:=.ref t) rfl ?_)
 show wpAny _ _ (if (Value.ref t == Value.none) = true then _ else _) _ _ s;rw [if_neg (show ¬ ((Value.ref t == Value.none) = true) from YA4)]
 show wpAny _ _ (field (.ref it) 1 >>= _) _ _ s;refine YAa (YAz e d (x:=.int i 0) rfl ?_)
 show wpAny _ _ (seqItems? (.ref t) >>= _) _ _ s;refine YAa (YBa el dl ?_)
 simp only [hx,YBI]
 refine YAa (YBv e d (by simp) (YAc ⟨x,rfl,YAc (q _ ⟨_,YAK _ e (YBE (YBu d _)),(YB0 ..).trans c,by rw [YBu d];simp [rawInt]⟩ (YBM ..))⟩))
theorem zh3   (hh:A.handled = none) (ht:s.heap.IsTupleIter it t i) (hl:s.heap.IsTuple t xs) (hx:xs[i]? = none)
  (q:∀ h' e,Heap.ExtBut it s.heap h'->(∃ o,h'.get? e = some o/\o.cls = .type "StopIteration")->E (.ref e) { s with heap:=h' }):wpAny (model P w) A (Builtin.SmallTypes.nextOf (.ref it)) Q E s:=by
 obtain ⟨o,e,c,d⟩:=id ht
 obtain ⟨ol,el,_,n,dl⟩:=hl
 unfold Builtin.SmallTypes.nextOf
 refine YAa (YAA (name:=Str.ofString "__next__") ht.typeIs YBn (YAU YBn ht.typeIs F.entry_tuple_iterator_next ?_ (F.args_tuple_iterator_next_1 _)))
 show wpAny _ _ (field (.ref it) 0 >>= _) _ _ s;refine YAa (YAz e d (x:=.ref t) rfl ?_)
 show wpAny _ _ (if (Value.ref t == Value.none) = true then _ else _) _ _ s;rw [if_neg (show ¬ ((Value.ref t == Value.none) = true) from YA4)]
 show wpAny _ _ (field (.ref it) 1 >>= _) _ _ s;refine YAa (YAz e d (x:=.int i 0) rfl ?_)
 show wpAny _ _ (seqItems? (.ref t) >>= _) _ _ s;refine YAa (YBa el dl ?_)
 simp only [hx,YBI]
 refine YAa (YCi (YAa (YBv e d (by simp) ?_)))
 show wpAny _ _ (newExc (.type "StopIteration") [] >>= _) _ _ _;refine YAa ?_
 simp only [newTuple,newExc]
 refine YAa (YAD (YAa (m:=firstArgMember _ _) (wpAny_of_eq (a:=Value.none) (by first | rfl | (simp only [firstArgMember];rfl)) (YAD ?_ (by size_fits)))) (by size_fits))
 simp only [raiseNew]
 refine YAa (wpAny_handled ?_);first | rw [show A.in1.handled = none from hh] | rw [hh]
 exact YAa (YAc (wpAny_throw (q _ _ (((YBM ..).extBut.push _).push _) ⟨_,YAj _ rfl,rfl⟩)))
end
theorem ziW  (hh:A.handled = none) (it t:Addr) (hne:t ≠ it) (xs:Array Value) :
  Draws P w A it [it,t] xs.size (fun i v=>xs[i]? = some v) (fun i h=>h.IsTupleIter it t i/\h.IsTuple t xs) where
 live:=fun _ _ st=>let ⟨o,e,_⟩:=st.1;⟨o,e⟩
 frame:=fun _ _ _ st k=>⟨let ⟨o,e,r⟩:=st.1;⟨o,k it (by simp) o e,r⟩,let ⟨o,e,r⟩:=st.2;⟨o,k t (by simp) o e,r⟩⟩
 item:=fun i s Q E hi st q=>zhv st.1 st.2 (x:=xs[i]) (by simp [hi]) fun h' a sb=>q _ h' s.toks (by simp [hi]) ⟨a,st.2.extBut sb.extBut hne⟩ sb
 done:=fun s Q E st q=>zh3 hh st.1 st.2 (by simp) q
structure ZAp (z a b i j:Addr) (f g:List Addr):Prop where
 az:a ≠ z
 bz:b ≠ z
 iz:i ≠ z
 jz:j ≠ z
 ab:a ≠ b
 ai:a ≠ i
 aj:a ≠ j
 bi:b ≠ i
 bj:b ≠ j
 ij:i ≠ j
 zf:z ∉ f
 bf:b ∉ f
 jf:j ∉ f
 zg:z ∉ g
 bg:b ∉ g
 ig:i ∉ g
section
variable {P:Program} {w:World} {A:Around} {E:Value->Shared->Prop} {s:Shared} {z a b i j:Addr} {f g:List Addr} {n m k:Nat} {F1 F2:Nat->Value->Prop} {S1 S2:Nat->Heap->Prop}
theorem zbH {h h':Heap} {c:Addr} {l:List Addr} (sb:Heap.SameBut c h h') (hc:c ∉ l):∀ b ∈ l,∀ o,h.get? b = some o->h'.get? b = some o:=fun b hb o e=>sb.extBut b o (fun z=>hc (z ▸ hb)) e
theorem zhq {u v:Value} {Q:Value->Shared->Prop} (Z:ZAp z a b i j f g) (D1:Draws P w A i f n F1 S1) (D2:Draws P w A j g m F2 S2) (hz:IsZip s.heap z a b .none) (ha:IsPair s.heap a (.ref i) (.ref j)) (hb:IsPair s.heap b u v)
  (s1:S1 k s.heap) (s2:S2 k s.heap) (k1:k < n) (k2:k < m)
  (q:∀ x y h' tk t,F1 k x->F2 k y->t = s.heap.objs.size->IsZip h' z a b (rawInt t)->IsPair h' b x y->S1 (k + 1) h'->S2 (k + 1) h'->IsPair h' t x y ->
   (∀ c o,c ≠ z->c ≠ b->c ≠ i->c ≠ j->s.heap.get? c = some o->h'.get? c = some o)->Q (.ref t) { s with heap:=h',toks:=tk }) :
  wpAny (model P w) A (Builtin.«zip.__next__» ⟨[.ref z],[]⟩) (fun fin s'=>∃ v,fin = .done (.ret v)/\Q v s') E s:=by
 show wpAny _ _ (field (.ref z) 2 >>= _) _ _ _;refine YAa (YAz hz rfl (x:=.bool false) rfl ?_)
 show wpAny _ _ (field (.ref z) 3 >>= _) _ _ _;refine YAa (YAz hz rfl (x:=.ref a) rfl (YAa (YBa ha rfl ?_)))
 show wpAny _ _ (Builtin.SmallTypes.ownedTupleIsFree (.ref z) >>= _) _ _ _;refine YAa ?_
 unfold Builtin.SmallTypes.ownedTupleIsFree
 refine YAa (YAz hz rfl (x:=.none) rfl (YAc ?_));simp only [YCs]
 refine YAa (YCi (YAa (YAz hz rfl (x:=.ref b) rfl (YAa (YBe hz (by simp) fun h1 z1 e1=>?_)))))
 replace z1:IsZip h1 z a b .ellipsis:=z1
 refine YAa ?_;simp only [YCJ,YCQ,YCn,YCW]
 refine YAa (YAa (YCg ?_));show wpAny _ _ (Builtin.SmallTypes.nextOf (.ref i) >>= _) _ _ _
 have t1:S1 k h1:=D1.frame _ _ _ s1 (zbH e1 Z.zf)
 have t2:S2 k h1:=D2.frame _ _ _ s2 (zbH e1 Z.zg)
 refine YAa (D1.item k _ _ _ k1 t1 fun x h2 tk2 px u1 e2=>YAc ?_)
 have b2:IsPair h2 b u v:=e2.extBut _ _ Z.bi (e1.extBut _ _ Z.bz hb)
 refine YAa (YBa b2 rfl (YAa (YCe b2 fun h3 b3 e3=>?_)))
 replace b3:IsPair h3 b x v:=b3
 refine YAa (YCZ (YAc ?_))
 refine YAa (YAa (YCg ?_));show wpAny _ _ (Builtin.SmallTypes.nextOf (.ref j) >>= _) _ _ _
 have t3:S2 k h3:=D2.frame _ _ _ (D2.frame _ _ _ t2 (zbH e2 Z.ig)) (zbH e3 Z.bg)
 refine YAa (D2.item k _ _ _ k2 t3 fun y h4 tk4 py u2 e4=>YAc ?_)
 have b4:IsPair h4 b x v:=e4.extBut _ _ Z.bj b3
 refine YAa (YBa b4 rfl (YAa (YCe b4 fun h5 b5 e5=>?_)))
 replace b5:IsPair h5 b x y:=b5
 refine YAa (YCZ (YAc (YAc (YAa (YBa b5 rfl (YAa (wpAny_newTuple ?_)))))))
 have sz:h5.objs.size = s.heap.objs.size:=by rw [e5.1,e4.1,e3.1,e2.1,e1.1]
 have z5:IsZip h5 z a b .ellipsis:=e5.extBut _ _ Z.bz.symm (e4.extBut _ _ Z.jz.symm (e3.extBut _ _ Z.bz.symm (e2.extBut _ _ Z.iz.symm z1)))
 have k5:∀ c o,c ≠ z->c ≠ b->c ≠ i->c ≠ j->s.heap.get? c = some o->h5.get? c = some o:=fun c o c1 c2 c3 c4 e=>e5.extBut _ _ c2 (e4.extBut _ _ c4 (e3.extBut _ _ c2 (e2.extBut _ _ c3 (e1.extBut _ _ c1 e))))
 have v1:S1 (k + 1) h5:=D1.frame _ _ _ (D1.frame _ _ _ (D1.frame _ _ _ u1 (zbH e3 Z.bf)) (zbH e4 Z.jf)) (zbH e5 Z.bf)
 have v2:S2 (k + 1) h5:=D2.frame _ _ _ u2 (zbH e5 Z.bg)
 have zl:z < h5.objs.size:=YAg z5
 show wpAny _ _ (Builtin.SmallTypes.ownedTupleHandOut (.ref z) (.ref h5.objs.size) >>= _) _ _ _;refine YAa ?_
 unfold Builtin.SmallTypes.ownedTupleHandOut
 have z6:IsZip (h5.push { cls:=.type "tuple",data:=.seq #[x,y] }) z a b .ellipsis:=YAb _ z5
 refine YAa (YBe z6 (by simp) fun h7 z7 e7=>?_)
 replace z7:IsZip h7 z a b (rawInt h5.objs.size):=z7
 refine YBe z7 (by simp) fun h8 z8 e8=>?_
 replace z8:IsZip h8 z a b (rawInt h5.objs.size):=z8
 have up:∀ c o,c ≠ z->h5.get? c = some o->h8.get? c = some o:=fun c o c1 e=>e8.extBut _ _ c1 (e7.extBut _ _ c1 (YAb _ e))
 refine YAc ⟨_,rfl,?_⟩
 exact q x y h8 _ h5.objs.size px py sz z8 (up _ _ Z.bz b5) (D1.frame _ _ _ v1 fun c hc o e=>up c o (fun zz=>Z.zf (zz ▸ hc)) e) (D2.frame _ _ _ v2 fun c hc o e=>up c o (fun zz=>Z.zg (zz ▸ hc)) e)
  (e8.extBut _ _ (YBr zl) (e7.extBut _ _ (YBr zl) (YAj _ rfl))) fun c o c1 c2 c3 c4 e=>up c o c1 (k5 c o c1 c2 c3 c4 e)
theorem zh9 {Q:Fin->Shared->Prop} (Z:ZAp z a b i j f g) (D1:Draws P w A i f n F1 S1) (hz:IsZip s.heap z a b .none) (ha:IsPair s.heap a (.ref i) (.ref j)) (s1:S1 n s.heap)
  (q:∀ h' e,(∀ c o,c ≠ z->c ≠ b->c ≠ i->c ≠ j->s.heap.get? c = some o->h'.get? c = some o)->(∃ o,h'.get? e = some o/\o.cls = .type "StopIteration")->E (.ref e) { s with heap:=h' }) :
  wpAny (model P w) A (Builtin.«zip.__next__» ⟨[.ref z],[]⟩) Q E s:=by
 show wpAny _ _ (field (.ref z) 2 >>= _) _ _ _;refine YAa (YAz hz rfl (x:=.bool false) rfl ?_)
 show wpAny _ _ (field (.ref z) 3 >>= _) _ _ _;refine YAa (YAz hz rfl (x:=.ref a) rfl (YAa (YBa ha rfl ?_)))
 show wpAny _ _ (Builtin.SmallTypes.ownedTupleIsFree (.ref z) >>= _) _ _ _;refine YAa ?_
 unfold Builtin.SmallTypes.ownedTupleIsFree
 refine YAa (YAz hz rfl (x:=.none) rfl (YAc ?_));simp only [YCs]
 refine YAa (YCi (YAa (YAz hz rfl (x:=.ref b) rfl (YAa (YBe hz (by simp) fun h1 z1 e1=>?_)))))
 replace z1:IsZip h1 z a b .ellipsis:=z1
 refine YAa ?_;simp only [YCJ,YCQ,YCn,YCW]
 refine YAa (YAa (YCg ?_));show wpAny _ _ (Builtin.SmallTypes.nextOf (.ref i) >>= _) _ _ _
 refine YAa (D1.done _ _ _ (D1.frame _ _ _ s1 (zbH e1 Z.zf)) fun h2 e e2 he=>?_)
 obtain ⟨oe,ho,hc⟩:=he
 have z2:IsZip h2 z a b .ellipsis:=e2 _ _ Z.iz.symm z1
 have ez:e ≠ z:=fun x=>by subst x;rw [z2] at ho;cases ho;simp at hc
 refine YBe z2 (by simp) fun h3 _ e3=>q h3 e (fun c o c1 _ c3 _ x=>e3.extBut _ _ c1 (e2 _ _ c3 (e1.extBut _ _ c1 x))) ⟨oe,e3.extBut _ _ ez ho,hc⟩
theorem zfZ {u v:Value} {Q:Option Value->Shared->Prop} (Z:ZAp z a b i j f g) (D1:Draws P w A.in1 i f n F1 S1) (D2:Draws P w A.in1 j g m F2 S2) (hz:IsZip s.heap z a b .none) (ha:IsPair s.heap a (.ref i) (.ref j)) (hb:IsPair s.heap b u v)
  (s1:S1 k s.heap) (s2:S2 k s.heap) (k1:k < n) (k2:k < m)
  (q:∀ x y h' tk t,F1 k x->F2 k y->t = s.heap.objs.size->IsZip h' z a b (rawInt t)->IsPair h' b x y->S1 (k + 1) h'->S2 (k + 1) h'->IsPair h' t x y ->
   (∀ c o,c ≠ z->c ≠ b->c ≠ i->c ≠ j->s.heap.get? c = some o->h'.get? c = some o)->Q (some (.ref t)) { s with heap:=h',toks:=tk }):wpAny (model P w) A (pyNext (.ref z)) Q E s:=by
 have hT:s.TypeIs (.ref z) "zip" := ⟨_,hz,rfl⟩
 unfold pyNext
 exact YAa (YBz (YAA (name:=Str.ofString "__next__") hT YBF (YAU YBF hT YCK
  (zhq Z D1 D2 hz ha hb s1 s2 k1 k2 fun x y h' tk t a1 a2 a3 a4 a5 a6 a7 a8 a9=>YAc (q x y h' tk t a1 a2 a3 a4 a5 a6 a7 a8 a9)) (YCB _))))
theorem zfR (Z:ZAp z a b i j f g) (D1:Draws P w A.in1 i f n F1 S1) (hz:IsZip s.heap z a b .none) (ha:IsPair s.heap a (.ref i) (.ref j)) (s1:S1 n s.heap)
  (q:∀ h',(∀ c o,c ≠ z->c ≠ b->c ≠ i->c ≠ j->s.heap.get? c = some o->h'.get? c = some o)->Q none { s with heap:=h' }):wpAny (model P w) A (pyNext (.ref z)) Q E s:=by
 have hT:s.TypeIs (.ref z) "zip" := ⟨_,hz,rfl⟩
 unfold pyNext
 refine YAa (YBz (YAA (name:=Str.ofString "__next__") hT YBF (YAU YBF hT YCK (zh9 Z D1 hz ha s1 fun h' e hk he=>?_) (YCB _))))
 obtain ⟨o,ho,hc⟩:=he
 exact YAa (YBL (T := "StopIteration") (b:=true) ⟨o,ho,hc⟩ YCt (YAc (q _ hk)))
end
section
variable {X:Cx} {pins:List (Addr × Obj)} {σ:St} {H:Hp} {s:Shared} {h':Heap} {ch:List Addr} {t':Nat}
theorem Inv.turnedLaid  (I:Inv X pins σ H s) (k:∀ b u,b ∉ ch->s.heap.get? b = some u->h'.get? b = some u) (hf:∀ b ∈ ch,FpOk X pins H b) (hp:s.heap.objs.size <= a) (new:ObjOk X.prog X.w (upd H a o) h' a o) :
  Inv X pins σ (upd H a o) { s with heap:=h',toks:=t' }:=by
 have hn:H a = none:=I.hok.fresh hp
 have nch:∀ b u,H b = some u->b ∉ ch:=fun b u e z=>by rw [(hf b z).1] at e;cases e
 refine I.step (g':=s.gens) (d':=s.drawn) (ch:=ch) (fun b hb=>⟨(hf b hb).2.2.2.1,(hf b hb).2.1,(hf b hb).2.2.2.2.1,(hf b hb).2.2.2.2.2⟩) (fun b u _ _ hc e _=>k b u hc e) (fun b u _ _ hc e _=>⟨u.slots,k b u hc e⟩)
  (fun b u _ e n=>by rw [upd_ne (YAp (YAl (YAg e) hp))];exact n) (fun b u hc e=>⟨u,k b u hc e⟩) (fun b xs e=>by rw [upd_ne (zam e hn)];exact e) (fun b u xs e=>by rw [upd_ne (zam e hn)];exact e)
  (fun b ps e=>⟨#[],by rw [upd_ne (zam e hn),e];simp⟩) (fun m hm=>?_) (fun b u e=>?_) I.bare
 ·obtain ⟨o,es,ep,ho,r⟩:=hm
  exact ⟨o,es,ep,k _ o (fun z=>(hf _ z).2.1 rfl) ho,r⟩
 ·by_cases hb:b = a
  ·subst hb;rw [zae] at e;cases e;exact new
  ·rw [upd_ne hb] at e
   refine (I.hok b u e).stay (fun c v hc q=>k c v ?_ q) (fun c q=>by rw [upd_ne (zam q hn)];exact q) fun c xs q=>by rw [upd_ne (zam q hn)];exact q
   rcases hc with z | z
   ·rw [z];exact nch b u e
   ·exact nch c _ z
theorem Inv.turnedAll (I:Inv X pins σ H s) (k:∀ b u,b ∉ ch->s.heap.get? b = some u->h'.get? b = some u) (hf:∀ b ∈ ch,FpOk X pins H b):Inv X pins σ H { s with heap:=h',toks:=t' }:=by
 have nch:∀ b u,H b = some u->b ∉ ch:=fun b u e z=>by rw [(hf b z).1] at e;cases e
 refine I.step (g':=s.gens) (d':=s.drawn) (ch:=ch) (fun b hb=>⟨(hf b hb).2.2.2.1,(hf b hb).2.1,(hf b hb).2.2.2.2.1,(hf b hb).2.2.2.2.2⟩) (fun b u _ _ hc e _=>k b u hc e) (fun b u _ _ hc e _=>⟨u.slots,k b u hc e⟩)
  (fun _ _ _ _ n=>n) (fun b u hc e=>⟨u,k b u hc e⟩) (fun _ _ e=>e) (fun _ _ _ e=>e) (fun b ps e=>⟨#[],by rw [e];simp⟩) (fun m hm=>?_) (fun b u e=>?_) I.bare
 ·obtain ⟨o,es,ep,ho,r⟩:=hm
  exact ⟨o,es,ep,k _ o (fun z=>(hf _ z).2.1 rfl) ho,r⟩
 ·refine (I.hok b u e).stay (fun c v hc q=>k c v ?_ q) (fun _ q=>q) fun _ _ q=>q
  rcases hc with z | z
  ·rw [z];exact nch b u e
  ·exact nch c _ z
end
def SIt (tp:Bool) (h:Heap) (it l:Addr) (k:Nat):Prop:=match tp with | true=>h.IsTupleIter it l k | false=>h.IsListIter it l k
def SCn (tp:Bool) (h:Heap) (l:Addr) (xs:Array Value):Prop:=match tp with | true=>h.IsTuple l xs | false=>h.IsList l xs
def SQ (tp:Bool) (K:PySem.W.Frag) (H:Hp) (a:Addr) (xs:List V):Prop:=match tp with | true=>SqT K H a xs | false=>SqL K H a xs
theorem SIt.obj   (x:SIt tp h it l k):∃ o,h.get? it = some o/\∀ v,o.data ≠ .cell v:=by
 cases tp <;> (obtain ⟨o,e,c,d⟩:=x;exact ⟨o,e,fun v z=>by rw [d] at z;cases z⟩)
theorem SIt.keep   (x:SIt tp h it l k) (q:∀ o,h.get? it = some o->h'.get? it = some o):SIt tp h' it l k:=by
 cases tp <;> (obtain ⟨o,e,r⟩:=x;exact ⟨o,q o e,r⟩)
theorem SCn.lt   (x:SCn tp h l xs):l < h.objs.size:=by
 cases tp <;> (obtain ⟨o,e,_⟩:=x;exact YAg e)
theorem zhL  (tp:Bool) (hh:A.handled = none) (it l:Addr) (hne:l ≠ it) (xs:Array Value) :
  Draws P w A it [it,l] xs.size (fun i v=>xs[i]? = some v) (fun i h=>SIt tp h it l i/\SCn tp h l xs):=by
 cases tp
 ·exact Draws.list hh it l hne xs
 ·exact ziW hh it l hne xs
section
variable {X:Cx} {pins:List (Addr × Obj)} {σ:St} {H:Hp} {s:Shared} {tp:Bool} {a:Addr} {xs ys:List V}
theorem Inv.sq (I:Inv X pins σ H s) (h:SQ tp X.K H a xs):∃ its:List Value,Vals xs its/\SCn tp s.heap a its.toArray/\xs.length <= sizeLine:=by
 cases tp
 ·obtain ⟨its,r,p,z⟩:=I.list h
  exact ⟨its,r,p.isList,z⟩
 ·exact I.tuple h
theorem Inv.sq_inj (I:Inv X pins σ H s) (h:SQ tp X.K H a xs) (h':SQ tp X.K H a ys):xs = ys:=by
 cases tp
 ·exact I.list_inj h h'
 ·exact I.tuple_inj h h'
end
theorem zsp (n l m:Nat) (h1:l < n) (h2:m < n):ZAp (n + 4) (n + 2) (n + 3) n (n + 1) [n,l] [n + 1,m]:=by
 have e:∀ {p q:Nat},p ≠ q->∀ {r:Nat},p ≠ r->p ∉ [q,r]:=fun {p q} h {r} h' z=>by
  rcases YAr.mp z with z | z
  ·exact h z
  ·exact h' (YAB.mp z)
 have r:∀ {p q:Nat},p < q\/q < p->(p:Addr) ≠ q:=fun h=>h.elim YAp fun h=>(YAp h).symm
 exact ⟨r (by omega),r (by omega),r (by omega),r (by omega),r (by omega),r (by omega),r (by omega),r (by omega),r (by omega),r (by omega),e (r (by omega)) (r (by omega)),e (r (by omega)) (r (by omega)),e (r (by omega)) (r (by omega)),e (r (by omega)) (r (by omega)),e (r (by omega)) (r (by omega)),e (r (by omega)) (r (by omega))⟩
section
variable {P:Program} {w:World} {A:Around} {E:Value->Shared->Prop} {s:Shared}
end
section
variable {P:Program} {w:World} {A:Around} {E:Value->Shared->Prop} {R:Result->Shared->Prop} {s:Shared}
end
section
variable {X:Cx} {pins:List (Addr × Obj)} {σ:St} {H:Hp} {s:Shared} {scope:Scope} {Nc:List Str} {sub:List (Option Nat)} {elt tg iter:Expr} {ifs:List Expr} {pos:Pos} {g:TG} {tc:TT} {te:TE}
end
section
variable {prog:Program} {w:World} {A:Around} {E:Value->Shared->Prop} {s:Shared}
end
section
variable {X:Cx}
end
section
variable {X:Cx}
end
section
variable {X:Cx} {o e:Expr} {apos cpos:Pos} {td ty:TE}
end
theorem zes:∀ (more:List (Key × V)) (kvs:List (Key × V)),(∀ k ∈ more.map (·.1),k ∉ kvs.map (·.1))->(more.map (·.1)).Nodup->zeY kvs more = kvs ++ more
 | [],kvs,_,_=>by unfold zeY;simp
 | x :: more,kvs,h,hn=>by
  rw [YAm,YBk] at hn
  have hx:valV kvs x.1 = none:=by
   cases e:valV kvs x.1 with
   | none=>rfl
   | some v=>exact absurd (zpz e) (h x.1 (by simp))
  show zeY (putK kvs x.1 x.2) more = _
  rw [zne _ hx,zes more _ (fun k hk q=>?_) hn.2,YCz]
  ·rfl
  ·rw [YAT] at q
   rcases YAR.mp q with q | q
   ·exact h k (by rw [YAm];exact YAq _ hk) q
   ·have:k = x.1:=by simpa using q
    exact hn.1 (this ▸ hk)
section
variable {X:Cx} {pins:List (Addr × Obj)} {σ:St} {H:Hp} {s:Shared}
theorem Inv.freeze  (I:Inv X pins σ H s) (hd:H d = some (.dK kvs)) (ho:s.heap.get? d = some o):Inv X pins σ (upd H d (.frz o (.dK kvs))) s:=by
 have nd:∀ b u,H b = some u->(∀ q,u ≠ .dK q)->b ≠ d:=fun b u e n z=>by rw [z,hd] at e;cases e;exact n _ rfl
 refine I.step (g':=s.gens) (d':=s.drawn) (t':=s.toks) (h':=s.heap) (ch:=[]) (fun _ z=>nomatch z) (fun b u _ _ _ e _=>e) (fun b u _ _ _ e _=>⟨u.slots,e⟩)
  (fun b u _ e n=>by rw [upd_ne (fun z=>by rw [z,hd] at n;cases n)];exact n) (fun b u _ e=>⟨u,e⟩) (fun b xs e=>by rw [upd_ne (nd b _ e (fun q z=>by cases z))];exact e) (fun b u xs e=>by rw [upd_ne (nd b _ e (fun q z=>by cases z))];exact e)
  (fun b ps e=>⟨#[],by rw [upd_ne (nd b _ e (fun q z=>by cases z)),e];simp⟩) (fun m hm=>hm) (fun b u e=>?_) I.bare
 have st:∀ c w,H c = some w->ObjOk X.prog X.w (upd H d (.frz o (.dK kvs))) s.heap c w:=fun c w q=>
  (I.hok c w q).stay (fun _ _ _ z=>z) (fun c' q'=>by rw [upd_ne (nd c' _ q' (fun q z=>by cases z))];exact q') fun c' xs q'=>by rw [upd_ne (nd c' _ q' (fun q z=>by cases z))];exact q'
 by_cases hb:b = d
 ·subst hb
  rw [zae] at e;cases e
  exact ⟨ho,st b _ hd⟩
 ·rw [upd_ne hb] at e
  exact st b u e
end
theorem zim {α β:Type} {F:α->β->Prop}:∀ {l₁:List α} {l₂:List β},Paired F l₁ l₂->∀ {i:Nat} {a:α} {b:β},l₁[i]? = some a->l₂[i]? = some b->F a b
 | _,_,.nil,i,a,b,h,_=>by simp at h
 | _,_,.cons r t,0,a,b,h1,h2=>by simp at h1 h2;subst h1 h2;exact r
 | _,_,.cons r t,i + 1,a,b,h1,h2=>zim t (by simpa using h1) (by simpa using h2)
theorem zr7  (h:ziK k u = true):RelV (kV k) u:=by
 rcases zaO h with ⟨i,t,rfl,rfl⟩ | ⟨x,t,rfl,rfl⟩
 ·exact ⟨t,rfl⟩
 ·exact ⟨t,rfl⟩
theorem zg0:splitId "dict.__len__" = some ("dict","__len__"):=by decide +kernel
section
variable {prog:Program} {w:World} {A:Around} {E:Value->Shared->Prop} {s:Shared}
end
section
variable {X:Cx}
end
end L2
namespace HT
open PySem PySem.Spec PyProof.Rows
section
variable {prog:Program} {w:World} {A:Around} {E:Value->Shared->Prop} {s:Shared}
theorem getItem_tuple_whole {t sl:Addr} {items:Array Value} {vl vu:Value} {lo hi:Option Int} {Q:Value->Shared->Prop} (ht:IsTup s.heap t items) (hs:s.heap.IsSliceOf sl vl vu .none) (pl:IsPart vl lo) (pu:IsPart vu hi)
  (hw:sIx items.size 0 lo = 0/\sIx items.size items.size hi = items.size)
  (h:Q (.ref t) s):wpAny (model prog w) A (getItem (.ref t) (.ref sl)) Q E s:=by
 obtain ⟨os,hos,hcs,hds⟩:=id hs
 have hTs:s.TypeIs (.ref sl) "slice" := ⟨os,hos,hcs⟩
 unfold getItem
 try with_reducible refine YAN ?_
 first | refine YAa (YAc ?_) | skip
 refine YAa (wpAny_sequenceKey ht.typeIs (by decide) ?_)
 refine YAa (YAA (name:=Str.ofString "__getitem__") ht.typeIs YAJ
  (YAU YAJ ht.typeIs entry_tuple_getitem ?_ (args_tuple_getitem _ _)))
 show wpAny _ _ (Builtin.Tuple.tupleItemsOf (.ref t) >>= _) _ _ s
 refine YAa (tupleItemsOf_ ht ?_)
 refine YAa (YCq hTs ?_)
 rw [if_pos (by decide)]
 refine YAa (zc4 hs pl pu ?_)
 have hyes:((((sIx items.size 0 lo:Nat):Int) == 0 && (1:Int) == 1 && (sIx items.size items.size hi - sIx items.size 0 lo) == items.size) = true):=by
  rw [hw.1,hw.2];simp
 show wpAny _ _ (if (((sIx items.size 0 lo:Nat):Int) == 0 && (1:Int) == 1 && (sIx items.size items.size hi - sIx items.size 0 lo) == items.size) = true then _ else _) _ _ s
 rw [if_pos hyes]
 unfold Builtin.Tuple.tupleIsExact
 refine YAa (YAa (YCq ht.typeIs (YAc ?_)))
 rw [if_pos (by decide)]
 refine YAa (YCi ?_)
 exact YAc ⟨_,rfl,YAc h⟩
end
end HT
namespace L2
open PySem PySem.Spec PyProof.Rows
section
variable {X:Cx}
end
section
variable {prog:Program} {w:World} {A:Around} {E:Value->Shared->Prop} {s:Shared}
theorem zhF  (hne:t ≠ it):∀ (n i:Nat) (s:Shared) (Q:List Value->Shared->Prop),s.heap.IsListIter it t i->s.heap.IsList t items->i + n <= items.size ->
  (∀ h',h'.IsListIter it t (i + n)->Heap.SameBut it s.heap h'->Q ((items.toList.drop i).take n) { s with heap:=h' })->wpAny (model prog w) A (draw (.ref it) n) Q E s
 | 0,i,s,Q,hit,_,_,hQ=>by
  show wpAny _ _ (pure []) Q E s
  exact YAc (by simpa using hQ s.heap hit (Heap.SameBut.refl ..))
 | n + 1,i,s,Q,hit,ht,hle,hQ=>by
  have hlt:i < items.size:=by omega
  show wpAny _ _ (pyNext (.ref it) >>= _) Q E s
  refine YAa (wpAny_pyNext_list_item hit ht (x:=items[i]) (by simp [hlt]) fun h₁ hit₁ hs₁=>?_)
  refine YAa (YAN (zhF hne n (i + 1) _ _ hit₁ (ht.extBut hs₁.extBut hne) (by omega) fun h₂ hit₂ hs₂=>YAc ?_))
  have hd:items.toList.drop i = items[i] :: items.toList.drop (i + 1):=by simp [YBw,hlt]
  have:=hQ h₂ (by rw [show i + (n + 1) = i + 1 + n by omega];exact hit₂) (hs₁.trans hs₂)
  rw [hd,List.take_succ_cons] at this
  exact this
theorem zfb  (hh:A.handled = none) (ht:s.heap.IsList t items)
  (hQ:∀ h',Heap.ExtBut s.heap.objs.size s.heap h'->Q items.toList { s with heap:=h' }):wpAny (model prog w) A (unpackItems (.ref t) items.size none) Q E s:=by
 have hlt:t ≠ s.heap.objs.size:=by obtain ⟨o,ho,_⟩:=ht;exact YAp (YAg ho)
 unfold unpackItems
 refine YAa ?_
 ·unfold notIterableAtAll
  refine YAa (YCP ht.typeIs slot_list_iter.lookup ?_)
  refine YAc ?_
  simp only [YBt,YB2]
  refine YAa (YAN (YBJ ht ?_))
  have ht0:=ht.push { cls:=.type "list_iterator",data:=.fields #[.ref t,.int 0 0] }
  refine YAa (YAN (zhF hlt items.size 0 _ _ ⟨_,YAj _ rfl,rfl,rfl⟩ ht0 (by omega) fun h₁ hit₁ hs₁=>?_))
  have hall:List.take items.size (List.drop 0 items.toList) = items.toList:=by
   rw [List.drop_zero];exact List.take_of_length_le (by simp)
  rw [hall]
  rw [if_neg (by simp)]
  have ht₁:h₁.IsList t items:=ht0.extBut hs₁.extBut hlt
  refine YAa (YAN (wpAny_pyNext_list_end hh hit₁ ht₁ (by simp) fun h₂ he₂=>?_))
  simp only [Option.isSome_none,YBt,YB2]
  refine YAc (hQ h₂ fun b o hb e=>he₂ b o hb (hs₁.extBut b o hb (YAb _ e)))
theorem zeJ  {x1}   (hh:A.handled = none) (ht:s.heap.IsList t items)
  (hn:(assignEach elts env).length = items.size) (hstar:(assignEach elts env).findIdx? (·.1) = none)
  (h:∀ h',Heap.ExtBut s.heap.objs.size s.heap h'->wpAny (model prog w) A (assignInOrder ((assignEach elts env).map (·.2)) items.toList) Q E { s with heap:=h' }) :
  wpAny (model prog w) A (assign (.Tuple elts x1 pos) env (.ref t)) Q E s:=by
 rw [assign_Tuple]
 refine YAa (YCF ?_)
 unfold unpack
 rw [hn,hstar]
 exact YAa (YAN (zfb hh ht h))
end
def gSeq (K:PySem.W.Frag) (n:Nat) (t:TGs):TG:=fun v σ H Q=>∃ a xs,v = .ref a/\(SqT K H a xs\/SqL K H a xs)/\xs.length = n/\t xs σ H Q
theorem zea    (hc:X.calm = true) (h:PGs X es t)
  (hn:(assignEach es X.env).length = n:=by rfl) (hst:(assignEach es X.env).findIdx? (·.1) = none:=by rfl):PG X (.Tuple es k pos) (gSeq X.K n t):=by
 intro pins s σ H v u Q I r hw
 obtain ⟨a,xs,e1,hq,hl,hw⟩:=hw
 rcases hq with hq | hq
 ·exact zrR hc h hn hst pins s σ H v u Q I r ⟨a,xs,e1,hq,hl,hw⟩
 ·subst e1
  cases r
  obtain ⟨its,rv,ht,hz⟩:=I.list hq
  refine zeJ (I.ok.hd hc) ht.isList (by simp [hn,<- hl,rv.length]) hst fun h' hx=>?_
  have I1:Inv X pins σ H { s with heap:=h' }:=I.kept (t':=s.toks) fun b o e=>hx b o (YAp (YAg e)) e
  exact h pins _ σ H xs _ Q I1 (by simpa using rv) hw
theorem zrO {K:PySem.W.Frag} {n:Nat} {t:TGs} (h:zgt t):zgR (gSeq K n t):=fun v σ H Q Q' f ⟨a,xs,e,s,l,q⟩=>⟨a,xs,e,s,l,h _ _ _ _ _ f q⟩
theorem zrW {K:PySem.W.Frag} {sub:List (Option Nat)} {n:Nat} {t:TGs} (h:zh5 sub t):zhB sub (gSeq K n t):=fun v σ H Q ⟨a,xs,e,s,l,q⟩=>⟨a,xs,e,s,l,h _ _ _ _ q⟩
section
variable {P:Program} {w:World} {A:Around} {E:Value->Shared->Prop} {s:Shared} {z a b i j:Addr} {f g:List Addr} {n m k:Nat} {F1 F2:Nat->Value->Prop} {S1 S2:Nat->Heap->Prop}
theorem zhn  (Z:ZAp z a b i j f g) (D1:Draws P w A i f n F1 S1) (D2:Draws P w A j g m F2 S2) (hz:IsZip s.heap z a b .none) (ha:IsPair s.heap a (.ref i) (.ref j)) (hb:IsPair s.heap b u v)
  (s1:S1 m s.heap) (s2:S2 m s.heap) (k1:m < n)
  (q:∀ h' tk e,(∀ c o,c ≠ z->c ≠ b->c ≠ i->c ≠ j->s.heap.get? c = some o->h'.get? c = some o)->(∃ o,h'.get? e = some o/\o.cls = .type "StopIteration")->E (.ref e) { s with heap:=h',toks:=tk }) :
  wpAny (model P w) A (Builtin.«zip.__next__» ⟨[.ref z],[]⟩) Q E s:=by
 show wpAny _ _ (field (.ref z) 2 >>= _) _ _ _;refine YAa (YAz hz rfl (x:=.bool false) rfl ?_)
 show wpAny _ _ (field (.ref z) 3 >>= _) _ _ _;refine YAa (YAz hz rfl (x:=.ref a) rfl (YAa (YBa ha rfl ?_)))
 show wpAny _ _ (Builtin.SmallTypes.ownedTupleIsFree (.ref z) >>= _) _ _ _;refine YAa ?_
 unfold Builtin.SmallTypes.ownedTupleIsFree
 refine YAa (YAz hz rfl (x:=.none) rfl (YAc ?_));simp only [YCs]
 refine YAa (YCi (YAa (YAz hz rfl (x:=.ref b) rfl (YAa (YBe hz (by simp) fun h1 z1 e1=>?_)))))
 replace z1:IsZip h1 z a b .ellipsis:=z1
 refine YAa ?_;simp only [YCJ,YCQ,YCn,YCW]
 refine YAa (YAa (YCg ?_));show wpAny _ _ (Builtin.SmallTypes.nextOf (.ref i) >>= _) _ _ _
 have t1:S1 m h1:=D1.frame _ _ _ s1 (zbH e1 Z.zf)
 have t2:S2 m h1:=D2.frame _ _ _ s2 (zbH e1 Z.zg)
 refine YAa (D1.item m _ _ _ k1 t1 fun x h2 tk2 px u1 e2=>YAc ?_)
 have b2:IsPair h2 b u v:=e2.extBut _ _ Z.bi (e1.extBut _ _ Z.bz hb)
 refine YAa (YBa b2 rfl (YAa (YCe b2 fun h3 b3 e3=>?_)))
 replace b3:IsPair h3 b x v:=b3
 refine YAa (YCZ (YAc ?_))
 refine YAa (YAa (YCg ?_));show wpAny _ _ (Builtin.SmallTypes.nextOf (.ref j) >>= _) _ _ _
 have t3:S2 m h3:=D2.frame _ _ _ (D2.frame _ _ _ t2 (zbH e2 Z.ig)) (zbH e3 Z.bg)
 refine YAa (D2.done _ _ _ t3 fun h4 e e4 he=>?_)
 obtain ⟨oe,ho,hc⟩:=he
 have z3:IsZip h3 z a b .ellipsis:=e3.extBut _ _ Z.bz.symm (e2.extBut _ _ Z.iz.symm z1)
 have z4:IsZip h4 z a b .ellipsis:=e4 _ _ Z.jz.symm z3
 have ez:e ≠ z:=fun x=>by subst x;rw [z4] at ho;cases ho;simp at hc
 refine YBe z4 (by simp) fun h5 _ e5=>q h5 tk2 e (fun c o c1 c2 c3 c4 x=>e5.extBut _ _ c1 (e4 _ _ c4 (e3.extBut _ _ c2 (e2.extBut _ _ c3 (e1.extBut _ _ c1 x))))) ⟨oe,e5.extBut _ _ ez ho,hc⟩
theorem ze8  (Z:ZAp z a b i j f g) (D1:Draws P w A.in1 i f n F1 S1) (D2:Draws P w A.in1 j g m F2 S2) (hz:IsZip s.heap z a b .none) (ha:IsPair s.heap a (.ref i) (.ref j)) (hb:IsPair s.heap b u v) (s1:S1 m s.heap) (s2:S2 m s.heap) (k1:m < n)
  (q:∀ h' tk,(∀ c o,c ≠ z->c ≠ b->c ≠ i->c ≠ j->s.heap.get? c = some o->h'.get? c = some o)->Q none { s with heap:=h',toks:=tk }):wpAny (model P w) A (pyNext (.ref z)) Q E s:=by
 have hT:s.TypeIs (.ref z) "zip" := ⟨_,hz,rfl⟩
 unfold pyNext
 refine YAa (YBz (YAA (name:=Str.ofString "__next__") hT YBF (YAU YBF hT YCK (zhn Z D1 D2 hz ha hb s1 s2 k1 fun h' tk e hk he=>?_) (YCB _))))
 obtain ⟨o,ho,hc⟩:=he
 exact YAa (YBL (T := "StopIteration") (b:=true) ⟨o,ho,hc⟩ YCt (YAc (q _ _ hk)))
end
section
variable {X:Cx}
def zr3 (K:PySem.W.Frag):R2:=fun x y H Q=>∃ a b xs ys,x = .ref a/\y = .ref b/\SqT K H a xs/\SqT K H b ys/\xs.length + ys.length <= sizeLine /\
 (xs = []->Q (.ref b) H)/\(xs ≠ []->ys = []->Q (.ref a) H)/\(∀ p,H p = none->Q (.ref p) (upd H p (.tup (xs ++ ys))))
theorem zpS:OpR X (binaryOp .Add) (zr3 X.K):=by
 intro pins s σ H x y v u Q I rx ry h
 obtain ⟨a,b,xs,ys,rfl,rfl,ha,hb,hz,q1,q2,q3⟩:=h
 by_cases hx:xs = []
 ·subst hx
  cases rx
  cases ry
  obtain ⟨its,r1,p1,_⟩:=I.tuple ha
  obtain ⟨its2,r2,p2,_⟩:=I.tuple hb
  obtain ⟨⟨cls,dd,data,sl⟩,ho,hc,n,hd⟩:=id p1
  obtain ⟨⟨cls2,dd2,data2,sl2⟩,ho2,hc2,n2,hd2⟩:=id p2
  simp only at hc hd hc2 hd2
  subst hc hd hc2 hd2
  have hi:its = []:=r1.nil_iff.mpr rfl
  exact concat_meets ⟨_,ho,rfl⟩ ⟨_,ho2,rfl⟩ YCH seq_tuple_add YBX YBR (YBO _ _)
   (tuple_addW0 a b its.toArray its2.toArray n n2 dd dd2 sl sl2 (by simp [hi])) ⟨ho,ho2,⟨.ref b,H,I,rfl,q1 rfl⟩⟩
 ·exact zpF pins s σ H (.ref a) (.ref b) v u Q I rx ry ⟨a,b,xs,ys,rfl,rfl,ha,hb,hx,hz,q2 hx,fun _ p hp=>q3 p hp⟩
def rSl3 (K:PySem.W.Frag):V->Option Int->Option Int->Hp->VK->Prop:=fun x lo hi H Q=>∃ a xs,x = .ref a/\SqT K H a xs/\(cutV xs lo hi = xs->Q (.ref a) H)/\∀ p,H p = none->Q (.ref p) (upd H p (.tup (cutV xs lo hi)))
theorem zps:SlR X (rSl3 X.K):=by
 intro pins s σ H x v vl vu lo hi sl Q I rx hs pl pu h
 obtain ⟨a,xs,rfl,hx,q1,q2⟩:=h
 by_cases hw:HT.sIx xs.length 0 lo = 0/\HT.sIx xs.length xs.length hi = xs.length
 ·cases rx
  obtain ⟨its,r,ht,hz⟩:=I.tuple hx
  have hlen:its.toArray.size = xs.length:=by rw [YAo];exact r.length.symm
  refine ⟨"tuple",_,YAJ.lookup,ht.typeIs,?_⟩
  refine HT.getItem_tuple_whole ht hs pl pu (by rw [hlen];exact hw) ?_
  refine ⟨.ref a,H,I,rfl,q1 ?_⟩
  unfold cutV;rw [hw.1,hw.2];simp
 ·exact zrm pins s σ H (.ref a) v vl vu lo hi sl Q I rx hs pl pu ⟨a,xs,rfl,hx,hw,q2⟩
end
end L2
namespace Fd
open PySem L2
inductive D where
 | non | bl (b:Bool) | int (i:Int) | str (x:Str) | tup (xs:List D) | lst (n:Bool) (xs:List D) | box | dct (n:Bool) (ks:List Str) (xs:List D) | obj (a:Addr) | fdc (ks:List Str) (xs:List D)
def kvD (ks:List Str) (vs:List V):List (Key × V):=(ks.zip vs).map fun p=>(Sum.inr p.1,p.2)
structure Bk where
 K:PySem.W.Frag
 β:Addr
 H0:Hp
 G0:Hp
 P:Prop
mutual
def Rep (c:Bk) (G:Hp):D->V->Prop
 | .non,v=>v = .non
 | .bl b,v=>v = .bl b
 | .int i,v=>v = .int i
 | .str x,v=>v = .str x
 | .tup xs,v=>∃ a vs,v = .ref a/\SqT c.K G a vs/\Reps c G xs vs
 | .lst n xs,v=>∃ a vs,v = .ref a/\G a = some (.lst vs)/\(n = true->c.H0 a = none)/\Reps c G xs vs
 | .box,v=>v = .ref c.β
 | .dct n ks xs,v=>∃ a vs,v = .ref a/\G a = some (.dK (kvD ks vs))/\(n = true->c.H0 a = none)/\ks.length = vs.length/\Reps c G xs vs
 | .fdc ks xs,v=>∃ a vs o,v = .ref a/\G a = some (.frz o (.dK (kvD ks vs)))/\ks.length = vs.length/\Reps c G xs vs
 | .obj a,v=>v = .ref a
def Reps (c:Bk) (G:Hp):List D->List V->Prop
 | [],vs=>vs = []
 | x :: xs,vs=>∃ v ws,vs = v :: ws/\Rep c G x v/\Reps c G xs ws
end
theorem za0   (e:Same H H') (h:SqT K H a xs):SqT K H' a xs:=by
 rcases h with h | h
 ·rcases h with h | ⟨o,h⟩
  ·exact .inl (.inl (e _ _ h))
  ·exact .inl (.inr ⟨o,e _ _ h⟩)
 ·exact .inr h
mutual
theorem Rep.mono  (e:Same G G'):∀ {d:D} {v:V},Rep c G d v->Rep c G' d v
 | .non,_,h=>h
 | .bl _,_,h=>h
 | .int _,_,h=>h
 | .str _,_,h=>h
 | .box,_,h=>h
 | .obj _,_,h=>h
 | .dct n ks xs,_,⟨a,vs,h1,h2,h4,h5,h3⟩=>⟨a,vs,h1,e _ _ h2,h4,h5,Reps.mono e h3⟩
 | .fdc ks xs,_,⟨a,vs,o,h1,h2,h5,h3⟩=>⟨a,vs,o,h1,e _ _ h2,h5,Reps.mono e h3⟩
 | .tup xs,_,⟨a,vs,h1,h2,h3⟩=>⟨a,vs,h1,za0 e h2,Reps.mono e h3⟩
 | .lst n xs,_,⟨a,vs,h1,h2,h4,h3⟩=>⟨a,vs,h1,e _ _ h2,h4,Reps.mono e h3⟩
theorem Reps.mono  (e:Same G G'):∀ {ds:List D} {vs:List V},Reps c G ds vs->Reps c G' ds vs
 | [],_,h=>h
 | _ :: _,_,⟨v,ws,h1,h2,h3⟩=>⟨v,ws,h1,Rep.mono e h2,Reps.mono e h3⟩
end
def D.old:D->D
 | .non=>.non
 | .bl b=>.bl b
 | .int i=>.int i
 | .str x=>.str x
 | .box=>.box
 | .obj a=>.obj a
 | .dct _ ks xs=>.dct false ks (xs.map D.old)
 | .fdc ks xs=>.fdc ks (xs.map D.old)
 | .tup xs=>.tup (xs.map D.old)
 | .lst _ xs=>.lst false (xs.map D.old)
mutual
/-- handed on to another call -/
theorem Rep.hand  (hk:c.K = c'.K) (hb:c.β = c'.β):∀ {d:D} {v:V},Rep c G d v->Rep c' G d.old v
 | .non,_,h=>by unfold D.old;exact h
 | .bl _,_,h=>by unfold D.old;exact h
 | .int _,_,h=>by unfold D.old;exact h
 | .str _,_,h=>by unfold D.old;exact h
 | .box,_,h=>by unfold D.old;show _ = V.ref c'.β;rw [<- hb];exact h
 | .obj _,_,h=>by unfold D.old;exact h
 | .dct n ks xs,_,⟨a,vs,h1,h2,h4,h5,h3⟩=>by unfold D.old;exact ⟨a,vs,h1,h2,(fun z=>by cases z),h5,Reps.hand hk hb h3⟩
 | .fdc ks xs,_,⟨a,vs,o,h1,h2,h5,h3⟩=>by unfold D.old;exact ⟨a,vs,o,h1,h2,h5,Reps.hand hk hb h3⟩
 | .tup xs,_,⟨a,vs,h1,h2,h3⟩=>by unfold D.old;exact ⟨a,vs,h1,hk ▸ h2,Reps.hand hk hb h3⟩
 | .lst n xs,_,⟨a,vs,h1,h2,h4,h3⟩=>by unfold D.old;exact ⟨a,vs,h1,h2,(fun z=>by cases z),Reps.hand hk hb h3⟩
theorem Reps.hand  (hk:c.K = c'.K) (hb:c.β = c'.β):∀ {ds:List D} {vs:List V},Reps c G ds vs->Reps c' G (ds.map D.old) vs
 | [],_,h=>h
 | _ :: _,_,⟨v,ws,h1,h2,h3⟩=>⟨v,ws,h1,Rep.hand hk hb h2,Reps.hand hk hb h3⟩
end
mutual
/-- and back: what is newer than the inner call is newer than the outer one -/
theorem Rep.back  (hk:c'.K = c.K) (hb:c'.β = c.β) (hn:∀ a,c'.H0 a = none->c.H0 a = none):∀ {d:D} {v:V},Rep c' G d v->Rep c G d v
 | .non,_,h=>h
 | .bl _,_,h=>h
 | .int _,_,h=>h
 | .str _,_,h=>h
 | .box,_,h=>by show _ = V.ref c.β;rw [<- hb];exact h
 | .obj _,_,h=>h
 | .dct n ks xs,_,⟨a,vs,h1,h2,h4,h5,h3⟩=>⟨a,vs,h1,h2,fun z=>hn a (h4 z),h5,Reps.back hk hb hn h3⟩
 | .fdc ks xs,_,⟨a,vs,o,h1,h2,h5,h3⟩=>⟨a,vs,o,h1,h2,h5,Reps.back hk hb hn h3⟩
 | .tup xs,_,⟨a,vs,h1,h2,h3⟩=>⟨a,vs,h1,hk ▸ h2,Reps.back hk hb hn h3⟩
 | .lst n xs,_,⟨a,vs,h1,h2,h4,h3⟩=>⟨a,vs,h1,h2,fun z=>hn a (h4 z),Reps.back hk hb hn h3⟩
theorem Reps.back  (hk:c'.K = c.K) (hb:c'.β = c.β) (hn:∀ a,c'.H0 a = none->c.H0 a = none):∀ {ds:List D} {vs:List V},Reps c' G ds vs->Reps c G ds vs
 | [],_,h=>h
 | _ :: _,_,⟨v,ws,h1,h2,h3⟩=>⟨v,ws,h1,Rep.back hk hb hn h2,Reps.back hk hb hn h3⟩
end
theorem Reps.length  : ∀ {ds:List D} {vs:List V},Reps c G ds vs->ds.length = vs.length
 | [],_,h=>by cases h;rfl
 | _ :: _,_,⟨v,ws,h1,_,h3⟩=>by subst h1;simp [Reps.length h3]
theorem Reps.get  : ∀ {ds:List D} {vs:List V} {i:Nat} {d:D},Reps c G ds vs->ds[i]? = some d->∃ v,vs[i]? = some v/\Rep c G d v
 | [],_,_,_,_,e=>by simp at e
 | _ :: _,_,0,_,⟨v,ws,h1,h2,_⟩,e=>by subst h1;simp at e;subst e;exact ⟨v,rfl,h2⟩
 | _ :: _,_,i + 1,d,⟨v,ws,h1,_,h3⟩,e=>by subst h1;exact Reps.get (i:=i) h3 (by simpa using e)
theorem Reps.append  : ∀ {ds es:List D} {vs ws:List V},Reps c G ds vs->Reps c G es ws->Reps c G (ds ++ es) (vs ++ ws)
 | [],_,_,_,h,k=>by cases h;exact k
 | _ :: _,_,_,_,⟨v,us,h1,h2,h3⟩,k=>by subst h1;exact ⟨v,us ++ _,rfl,h2,Reps.append h3 k⟩
theorem Reps.one   (h:Rep c G d v):Reps c G [d] [v]:=⟨v,[],rfl,h,rfl⟩
theorem Reps.set   (h:Rep c G d v):∀ {ds:List D} {vs:List V} (i:Nat),Reps c G ds vs->Reps c G (ds.set i d) (vs.set i v)
 | [],_,_,k=>by cases k;rfl
 | _ :: _,_,0,⟨u,us,h1,h2,h3⟩=>by subst h1;exact ⟨v,us,rfl,h,h3⟩
 | _ :: _,_,i + 1,⟨u,us,h1,h2,h3⟩=>by subst h1;exact ⟨u,us.set i v,rfl,h2,Reps.set h i h3⟩
theorem Reps.take  : ∀ {ds:List D} {vs:List V} (i:Nat),Reps c G ds vs->Reps c G (ds.take i) (vs.take i)
 | [],_,_,k=>by cases k;simp [Reps]
 | _ :: _,_,0,_=>by simp [Reps]
 | _ :: _,_,i + 1,⟨u,us,h1,h2,h3⟩=>by subst h1;exact ⟨u,us.take i,rfl,h2,Reps.take i h3⟩
theorem Reps.drop  : ∀ {ds:List D} {vs:List V} (i:Nat),Reps c G ds vs->Reps c G (ds.drop i) (vs.drop i)
 | [],_,_,k=>by cases k;simp [Reps]
 | _ :: _,_,0,k=>k
 | _ :: _,_,i + 1,⟨u,us,h1,h2,h3⟩=>by subst h1;exact Reps.drop i h3
theorem reps_bools  : ∀ {ns:List Bool} {vs:List V},Reps c G (ns.map D.bl) vs ↔ vs = ns.map V.bl
 | [],_=>Iff.rfl
 | n :: ns,vs=>by
  constructor
  ·rintro ⟨v,ws,h1,h2,h3⟩
   rw [h1,reps_bools.mp h3]
   have:v = V.bl n:=h2
   rw [this];rfl
  ·rintro rfl
   exact ⟨V.bl n,ns.map V.bl,rfl,rfl,reps_bools.mpr rfl⟩
def boxO (cc:Addr) (p r d:Int):HO:=.lst [.ref cc,.int p,.int r,.int d]
structure BoxD (β:Addr) (H G:Hp):Prop where
 ex:∃ cc p r d,∃ ns:List Int,H β = some (boxO cc p r d)/\0 <= p/\0 <= r/\0 <= d/\d < 2147483629/\G cc = some (.lst (ns.map V.int))/\ns.length <= 63
 still:G β = none
theorem BoxD.at  (b:BoxD β H G):∃ o,H β = some o:=by
 obtain ⟨cc,p,r,d,ns,h,_⟩:=b.ex;exact ⟨_,h⟩
def zef:HO->Prop
 | .tup _=>True
 | .frz _ _=>True
 | _=>False
structure Stp (β:Addr) (H G H' G':Hp):Prop where
 gg:Same G G'
 gh:Same G' H'
 fr:∀ a o,a ≠ β->H a = some o->H' a = some o
 nw:∀ a,G' a ≠ none->G a ≠ none\/H a = none\/∃ o,H a = some o/\zef o
 bx:BoxD β H' G'
 b0:H β ≠ none
 bc:∀ cc p r d,H β = some (boxO cc p r d)->∃ p r d,H' β = some (boxO cc p r d)
theorem Stp.refl  (gh:Same G H) (b:BoxD β H G):Stp β H G H G:=
 ⟨Same.refl _,gh,fun _ _ _ e=>e,fun _ e=>.inl e,b,fun z=>by (obtain ⟨o,h⟩:=b.at;rw [z] at h;cases h),fun _ p r d h=>⟨p,r,d,h⟩⟩
theorem Stp.free  (s:Stp β H G H' G') (h:H' a = none):H a = none:=by
 cases e:H a with
 | none=>rfl
 | some o=>
  by_cases z:a = β
  ·obtain ⟨o',h'⟩:=s.bx.at
   rw [z,h'] at h;cases h
  ·rw [s.fr a o z e] at h;cases h
theorem Stp.trans  (s:Stp β H G H1 G1) (t:Stp β H1 G1 H2 G2):Stp β H G H2 G2:=
 ⟨s.gg.trans t.gg,t.gh,fun a o n e=>t.fr a o n (s.fr a o n e),fun a e=>(t.nw a e).elim (s.nw a) fun z=>z.elim (fun z=>.inr (.inl (s.free z))) fun ⟨o,ho,st⟩=>by
  cases e:H a with
  | none=>exact .inr (.inl rfl)
  | some o'=>
   have nb:a ≠ β:=fun z=>by
    obtain ⟨cc,p,r,d,ns,h,_⟩:=s.bx.ex
    rw [z,h] at ho;cases ho;exact st
   have:=s.fr a o' nb e
   rw [ho] at this;cases this
   exact .inr (.inr ⟨o,rfl,st⟩),t.bx,s.b0,fun cc p r d h=>by
  obtain ⟨p1,r1,d1,h1⟩:=s.bc cc p r d h
  exact t.bc cc p1 r1 d1 h1⟩
theorem BoxD.new  (b:BoxD β H G)  (hl:H l = none):BoxD β (upd H l o) G:=by
 obtain ⟨cc,p,r,d,ns,h,q⟩:=b.ex
 exact ⟨⟨cc,p,r,d,ns,by rw [upd_ne (zam h hl)];exact h,q⟩,b.still⟩
theorem zns (gh:Same G H)  (hl:H l = none):Same G (upd H l o):=fun a u e=>by
 rw [upd_ne (zam (gh a u e) hl)];exact gh a u e
theorem Stp.own  (gh:Same G H) (b:BoxD β H G)  (hl:H l = none):Stp β H G (upd H l o) G:=
 ⟨Same.refl _,zns gh hl,fun a u _ e=>by rw [upd_ne (zam e hl)];exact e,fun _ e=>.inl e,b.new hl,fun z=>by (obtain ⟨o,h⟩:=b.at;rw [z] at h;cases h),fun cc p r d h=>⟨p,r,d,by rw [upd_ne (zam h hl)];exact h⟩⟩
theorem zak (gh:Same G H) (hl:H l = none):G l = none:=gh.free hl
theorem Stp.still  (s:Stp β H G H' G')  (h':H' l = some o) (h0:H l = none) (hb:l ≠ β) (hg:G' l = none):Stp β H G H' (upd G' l o):=
 ⟨s.gg.trans fun a u e=>by rw [upd_ne (zam e hg)];exact e,
 fun a u e=>by
  by_cases z:a = l
  ·subst z;rw [zae] at e;rw [h'];exact e
  ·rw [upd_ne z] at e;exact s.gh a u e,
 s.fr,fun a e=>by
  by_cases z:a = l
  ·subst z;exact .inr (.inl h0)
  ·rw [upd_ne z] at e;exact s.nw a e,
 ⟨by
   obtain ⟨cc,p,r,d,ns,h,p1,p2,p3,p4,hc,q⟩:=s.bx.ex
   exact ⟨cc,p,r,d,ns,h,p1,p2,p3,p4,by rw [upd_ne (zam hc hg)];exact hc,q⟩,by rw [upd_ne (YAH hb)];exact s.bx.still⟩,s.b0,s.bc⟩
theorem Stp.new  (gh:Same G H) (b:BoxD β H G)  (hl:H l = none):Stp β H G (upd H l o) (upd G l o):=by
 have hb:l ≠ β:=fun z=>by obtain ⟨o,h⟩:=b.at;rw [<- z,hl] at h;cases h
 exact (Stp.own gh b hl).still zae hl hb (zak gh hl)
theorem zbU  (hg:G l = none):Same G (upd G l o):=fun a u e=>by rw [upd_ne (zam e hg)];exact e
inductive Sl where
 | un | val (d:D) | own (xs:List D) | dic (ks:List Str) (xs:List D)
abbrev Env:=List Sl
def SlOk (c:Bk) (H G:Hp):Sl->Option (Option V)->Prop
 | .un,_=>True
 | .val d,o=>∃ v,o = some (some v)/\Rep c G d v
 | .own xs,o=>∃ a vs,o = some (some (.ref a))/\H a = some (.lst vs)/\G a = none/\c.H0 a = none/\a ≠ c.β/\Reps c G xs vs
 | .dic ks xs,o=>∃ a vs,o = some (some (.ref a))/\H a = some (.dK (kvD ks vs))/\G a = none/\c.H0 a = none/\a ≠ c.β/\Reps c G xs vs/\ks.length = vs.length
structure Rel (c:Bk) (ρ:Env) (σ:St) (H G:Hp):Prop where
 len:ρ.length = σ.length
 stp:Stp c.β c.H0 c.G0 H G
 slot:∀ (i:Nat) s,ρ[i]? = some s->SlOk c H G s σ[i]?
 dis:∀ (i j:Nat) a xs ys,ρ[i]? = some (.own xs)->ρ[j]? = some (.own ys)->σ[i]? = some (some (.ref a))->σ[j]? = some (some (.ref a))->i = j
 kn:c.P
theorem Rel.gh   (r:Rel c ρ σ H G):Same G H:=r.stp.gh
theorem Rel.bx   (r:Rel c ρ σ H G):BoxD c.β H G:=r.stp.bx
theorem Rel.refl   (r:Rel c ρ σ H G):Stp c.β H G H G:=Stp.refl r.gh r.bx
theorem SlOk.step  (t:Stp c.β H G H' G'):∀ {s:Sl} {o:Option (Option V)},SlOk c H G s o->SlOk c H' G' s o
 | .un,_,_=>trivial
 | .val d,_,⟨v,h1,h2⟩=>⟨v,h1,h2.mono t.gg⟩
 | .own xs,_,⟨a,vs,h1,h2,h3,h4,h5,h6⟩=>⟨a,vs,h1,t.fr a _ h5 h2,(by
   cases e:G' a with
   | none=>rfl
   | some o=>
    rcases t.nw a (by rw [e];simp) with z | z | ⟨o',z,st⟩
    ·exact absurd h3 z
    ·rw [h2] at z;cases z
    ·rw [h2] at z;cases z;exact st.elim),h4,h5,h6.mono t.gg⟩
 | .dic ks xs,_,⟨a,vs,h1,h2,h3,h4,h5,h6,h7⟩=>⟨a,vs,h1,t.fr a _ h5 h2,(by
   cases e:G' a with
   | none=>rfl
   | some o=>
    rcases t.nw a (by rw [e];simp) with z | z | ⟨o',z,st⟩
    ·exact absurd h3 z
    ·rw [h2] at z;cases z
    ·rw [h2] at z;cases z;exact st.elim),h4,h5,h6.mono t.gg,h7⟩
theorem Rel.step   (r:Rel c ρ σ H G) (t:Stp c.β H G H' G'):Rel c ρ σ H' G':=
 ⟨r.len,r.stp.trans t,fun i s e=>(r.slot i s e).step t,r.dis,r.kn⟩
theorem Rel.put    (r:Rel c ρ σ H G) (h:Rep c G d v):Rel c (ρ.set i (.val d)) (σ.set i (some v)) H G:=by
 refine ⟨by simp [r.len],r.stp,fun j s e=>?_,fun j k a xs ys e1 e2 e3 e4=>?_,r.kn⟩
 ·by_cases z:i = j
  ·subst z
   have hi:i < ρ.length:=by have:=(YAe.mp e).1;simpa using this
   rw [YAh hi] at e
   cases e
   exact ⟨v,by rw [YAh (by rw [<- r.len];exact hi)],h⟩
  ·rw [YAi z] at e ⊢
   exact r.slot j s e
 ·have nj:i ≠ j:=fun z=>by
   subst z
   have hi:i < ρ.length:=by have:=(YAe.mp e1).1;simpa using this
   rw [YAh hi] at e1;cases e1
  have nk:i ≠ k:=fun z=>by
   subst z
   have hi:i < ρ.length:=by have:=(YAe.mp e2).1;simpa using this
   rw [YAh hi] at e2;cases e2
  rw [YAi nj] at e1 e3
  rw [YAi nk] at e2 e4
  exact r.dis j k a xs ys e1 e2 e3 e4
theorem Rel.putOwn     (r:Rel c ρ σ H G) (hl:H l = some (.lst vs)) (hg:G l = none) (h0:c.H0 l = none) (hb:l ≠ c.β) (h:Reps c G xs vs)
  (hn:∀ (j:Nat) ys,ρ[j]? = some (.own ys)->σ[j]? ≠ some (some (.ref l))):Rel c (ρ.set i (.own xs)) (σ.set i (some (.ref l))) H G:=by
 refine ⟨by simp [r.len],r.stp,fun j s e=>?_,fun j k a xs' ys e1 e2 e3 e4=>?_,r.kn⟩
 ·by_cases z:i = j
  ·subst z
   have hi:i < ρ.length:=by have:=(YAe.mp e).1;simpa using this
   rw [YAh hi] at e
   cases e
   exact ⟨l,vs,by rw [YAh (by rw [<- r.len];exact hi)],hl,hg,h0,hb,h⟩
  ·rw [YAi z] at e ⊢
   exact r.slot j s e
 ·by_cases zj:i = j
  ·by_cases zk:i = k
   ·exact zj.symm.trans zk
   ·subst zj
    have hi:i < ρ.length:=by have:=(YAe.mp e1).1;simpa using this
    rw [YAh (by rw [<- r.len];exact hi)] at e3
    cases e3
    rw [YAi zk] at e2 e4
    exact absurd e4 (hn k ys e2)
  ·by_cases zk:i = k
   ·subst zk
    have hi:i < ρ.length:=by have:=(YAe.mp e2).1;simpa using this
    rw [YAh (by rw [<- r.len];exact hi)] at e4
    cases e4
    rw [YAi zj] at e1 e3
    exact absurd e3 (hn j xs' e1)
   ·rw [YAi zj] at e1 e3
    rw [YAi zk] at e2 e4
    exact r.dis j k a xs' ys e1 e2 e3 e4
theorem Rel.write     (r:Rel c ρ σ H G) (hi:ρ[i]? = some (.own xs)) (hs:σ[i]? = some (some (.ref l))) (h:Reps c G ys ws) :
  Rel c (ρ.set i (.own ys)) σ (upd H l (.lst ws)) G:=by
 obtain ⟨a,vs,h1,h2,h3,h4,h5,h6⟩:=r.slot i _ hi
 rw [hs] at h1
 cases h1
 have hil:i < ρ.length:=(YAe.mp hi).1
 refine ⟨by simp [r.len],⟨r.stp.gg,fun b u e=>?_,fun b u n e=>?_,r.stp.nw,?_,r.stp.b0,fun cc p q d e=>by
  obtain ⟨p',q',d',e'⟩:=r.stp.bc cc p q d e
  exact ⟨p',q',d',by rw [upd_ne (YAH h5)];exact e'⟩⟩,fun j s e=>?_,fun j k b xs' ys' e1 e2 e3 e4=>?_,r.kn⟩
 ·rw [upd_ne (fun z=>by rw [z,h3] at e;cases e)];exact r.gh b u e
 ·rw [upd_ne (fun z=>by rw [z,h4] at e;cases e)];exact r.stp.fr b u n e
 ·obtain ⟨cc,p,q,d,ns,e,z⟩:=r.bx.ex
  exact ⟨⟨cc,p,q,d,ns,by rw [upd_ne (YAH h5)];exact e,z⟩,r.bx.still⟩
 ·by_cases z:i = j
  ·subst z
   rw [YAh hil] at e
   cases e
   exact ⟨l,ws,hs,zae,h3,h4,h5,h⟩
  ·rw [YAi z] at e
   have q:=r.slot j s e
   cases s with
   | un=>trivial
   | val d=>exact q
   | own zs=>
    obtain ⟨b,us,g1,g2,g3⟩:=q
    have nb:b ≠ l:=fun y=>z (r.dis i j l xs zs hi e hs (by rw [g1,y]))
    exact ⟨b,us,g1,by rw [upd_ne nb];exact g2,g3⟩
   | dic ks zs=>
    obtain ⟨b,us,g1,g2,g3⟩:=q
    have nb:b ≠ l:=fun y=>by rw [y,h2] at g2;cases g2
    exact ⟨b,us,g1,by rw [upd_ne nb];exact g2,g3⟩
 ·have f:∀ (m:Nat) zs,(ρ.set i (.own ys))[m]? = some (.own zs)->∃ zs',ρ[m]? = some (.own zs'):=fun m zs e=>by
   by_cases z:i = m
   ·exact ⟨xs,z ▸ hi⟩
   ·rw [YAi z] at e;exact ⟨zs,e⟩
  obtain ⟨_,f1⟩:=f j _ e1
  obtain ⟨_,f2⟩:=f k _ e2
  exact r.dis j k b _ _ f1 f2 e3 e4
theorem Rel.freeze    (r:Rel c ρ σ H G) (hi:ρ[i]? = some (.own xs)):∃ G',Same G G'/\Rel c (ρ.set i (.val (.lst true xs))) σ H G':=by
 obtain ⟨a,vs,h1,h2,h3,h4,h5,h6⟩:=r.slot i _ hi
 have hil:i < ρ.length:=(YAe.mp hi).1
 have sg:Same G (upd G a (.lst vs)):=zbU h3
 refine ⟨upd G a (.lst vs),sg,by simp [r.len],r.stp.still h2 h4 h5 h3,fun j s e=>?_,fun j k b xs' ys' e1 e2 e3 e4=>?_,r.kn⟩
 ·by_cases z:i = j
  ·subst z
   rw [YAh hil] at e
   cases e
   exact ⟨.ref a,h1,a,vs,rfl,zae,fun _=>h4,h6.mono sg⟩
  ·rw [YAi z] at e
   have q:=r.slot j s e
   cases s with
   | un=>trivial
   | val d=>obtain ⟨v,g1,g2⟩:=q;exact ⟨v,g1,g2.mono sg⟩
   | own zs=>
    obtain ⟨b,us,g1,g2,g3,g4,g5,g6⟩:=q
    have nb:b ≠ a:=fun y=>z (r.dis i j a xs zs hi e h1 (by rw [g1,y]))
    exact ⟨b,us,g1,g2,by rw [upd_ne nb];exact g3,g4,g5,g6.mono sg⟩
   | dic ks zs=>
    obtain ⟨b,us,g1,g2,g3,g4,g5,g6,g7⟩:=q
    have nb:b ≠ a:=fun y=>by rw [y,h2] at g2;cases g2
    exact ⟨b,us,g1,g2,by rw [upd_ne nb];exact g3,g4,g5,g6.mono sg,g7⟩
 ·have f:∀ (m:Nat) zs,(ρ.set i (.val (.lst true xs)))[m]? = some (.own zs)->ρ[m]? = some (.own zs):=fun m zs e=>by
   by_cases z:i = m
   ·subst z
    rw [YAh hil] at e;cases e
   ·rw [YAi z] at e;exact e
  exact r.dis j k b _ _ (f j _ e1) (f k _ e2) e3 e4
abbrev WE:=Env->(D->Prop)->Prop
abbrev WL:=Env->(List D->Prop)->Prop
abbrev WT:=Env->(Bool->Prop)->Prop
def zbE (W:WE):Prop:=∀ ρ Q Q',(∀ d,Q d->Q' d)->W ρ Q->W ρ Q'
def zeQ (W:WL):Prop:=∀ ρ Q Q',(∀ d,Q d->Q' d)->W ρ Q->W ρ Q'
def zga (W:WT):Prop:=∀ ρ Q Q',(∀ d,Q d->Q' d)->W ρ Q->W ρ Q'
def tD (c:Bk) (W:WE):TE:=fun σ H Q=>∃ ρ G,Rel c ρ σ H G/\W ρ fun d=>∀ v H' G',Stp c.β H G H' G'->Rep c G' d v->Q v H'
def tDs (c:Bk) (W:WL):TA:=fun σ H Q=>∃ ρ G,Rel c ρ σ H G/\W ρ fun ds=>∀ vs H' G',Stp c.β H G H' G'->Reps c G' ds vs->Q vs H'
def tDf (c:Bk) (W:WL):TE:=fun σ H Q=>∃ ρ G,Rel c ρ σ H G/\W ρ fun ds=>∀ l vs H' G',Stp c.β H G H' G'->H' l = some (.lst vs)->G' l = none->H l = none->Reps c G' ds vs->Q (.ref l) H'
def tDt (c:Bk) (W:WT):TT:=fun σ H Q=>∃ ρ G,Rel c ρ σ H G/\W ρ fun b=>∀ H' G',Stp c.β H G H' G'->Q b H'
structure DE (X:Cx) (c:Bk) (e:Expr) (W:WE):Prop where
 mono:zbE W
 pe:PE X e (tD c W)
structure DF (X:Cx) (c:Bk) (e:Expr) (W:WL):Prop where
 mono:zeQ W
 pe:PE X e (tDf c W)
structure DA (X:Cx) (c:Bk) (es:List Expr) (W:WL):Prop where
 mono:zeQ W
 pa:PA X es (tDs c W)
structure DT (X:Cx) (c:Bk) (e:Expr) (W:WT):Prop where
 mono:zga W
 pt:PT X e (tDt c W)
section
variable {X:Cx}
theorem zan  (h:PE X e t) (k:∀ σ H Q,t' σ H Q->t σ H Q):PE X e t':=fun pins s σ H Q I q=>h pins s σ H Q I (k σ H Q q)
theorem zf1  (h:PT X e t) (k:∀ σ H Q,t' σ H Q->t σ H Q):PT X e t':=fun pins s σ H Q I q=>h pins s σ H Q I (k σ H Q q)
theorem zoG  (h:PA X e t) (k:∀ σ H Q,t' σ H Q->t σ H Q):PA X e t':=fun pos pins s σ H Q I q=>h pos pins s σ H Q I (k σ H Q q)
theorem Rel.new0   (r:Rel c ρ σ H G) (h:H l = none):c.H0 l = none:=r.stp.free h
theorem Rel.neβ   (r:Rel c ρ σ H G) (h:H l = none):l ≠ c.β:=fun z=>by
 obtain ⟨o,e⟩:=r.bx.at;rw [<- z,h] at e;cases e
@[reducible] def valW (W:WL):WE:=fun ρ Q=>W ρ fun xs=>Q (.lst true xs)
theorem DF.de  (h:DF X c e W):DE X c e (valW W) where
 mono:=fun ρ Q Q' k q=>h.mono ρ _ _ (fun xs z=>k _ z) q
 pe:=zan h.pe fun σ H Q ⟨ρ,G,r,q⟩=>⟨ρ,G,r,h.mono ρ _ _ (fun xs z l vs H' G' t hl hg h0 hv=>
  z (.ref l) H' (upd G' l (.lst vs)) (t.still hl h0 (r.neβ h0) hg) ⟨l,vs,rfl,zae,fun _=>r.new0 h0,hv.mono (zbU hg)⟩) q⟩
def vW (i:Nat):WE:=fun ρ Q=>match ρ[i]? with | some (.val d)=>Q d | _=>False
@[reducible] def kW (d:D):WE:=fun _ Q=>Q d
theorem dv (i:Nat)  (hN:X.N[i]? = some x:=by rfl) (hv:Vis X.env.scope x:=by first | exact Or.inl rfl | exact Or.inr (Or.inl rfl) | exact Or.inr (Or.inr rfl))
  (hd:(x == ("__debug__" : Str)) = false:=by decide) (hcd:(x == ("__classdict__" : Str)) = false:=by decide):DE X c (.Name x pos) (vW i) where
 mono:=fun ρ Q Q' k q=>by
  unfold vW at q ⊢
  split at q
  ·exact k _ q
  ·exact q.elim
 pe:=zan (zbe hN hv hd hcd) fun σ H Q ⟨ρ,G,r,q⟩=>by
  unfold vW at q
  split at q
  ·rename_i d e
   obtain ⟨v,h1,h2⟩:=r.slot i _ e
   exact ⟨v,h1,q v H G r.refl h2⟩
  ·exact q.elim
theorem zks (d:D):zbE (kW d):=fun _ _ _ k q=>k _ q
theorem zaf   : DE X c (.Constant (.int i) j pos) (kW (.int i)):=⟨zks _,zan zaN fun σ H Q ⟨ρ,G,r,q⟩=>q _ H G r.refl rfl⟩
theorem zmA   : DE X c (.Constant (.bool i) j pos) (kW (.bl i)):=⟨zks _,zan zsX fun σ H Q ⟨ρ,G,r,q⟩=>q _ H G r.refl rfl⟩
theorem zgq  : DE X c (.Constant .none j pos) (kW .non):=⟨zks _,zan zr5 fun σ H Q ⟨ρ,G,r,q⟩=>q _ H G r.refl rfl⟩
theorem zad   : DE X c (.Constant (.str i) j pos) (kW (.str i)):=⟨zks _,zan zoT fun σ H Q ⟨ρ,G,r,q⟩=>q _ H G r.refl rfl⟩
abbrev F2:=D->D->(D->Prop)->Prop
def za5 (f:F2):Prop:=∀ x y Q Q',(∀ d,Q d->Q' d)->f x y Q->f x y Q'
@[reducible] def binW (f:F2) (A B:WE):WE:=fun ρ Q=>A ρ fun x=>B ρ fun y=>f x y Q
def OpD (c:Bk) (f:F2) (r:R2):Prop:=∀ (H G:Hp) (x y:D) (u v:V) (Q:VK),Same G H->BoxD c.β H G->(∀ a,H a = none->c.H0 a = none)->Rep c G x u->Rep c G y v ->
 f x y (fun d=>∀ v H' G',Stp c.β H G H' G'->Rep c G' d v->Q v H')->r u v H Q
theorem zfk   (fm:za5 f) (mA:zbE A) (mB:zbE B) (hr:OpD c f r) (σ:St) (H:Hp) (Q:VK) (h:tD c (binW f A B) σ H Q):tOp r (tD c A) (tD c B) σ H Q:=by
 obtain ⟨ρ,G,R,q⟩:=h
 refine ⟨ρ,G,R,mA ρ _ _ (fun x q1 u H1 G1 t1 e1=>⟨ρ,G1,R.step t1,mB ρ _ _ (fun y q2 v H2 G2 t2 e2=>?_) q1⟩) q⟩
 refine hr H2 G2 x y u v Q t2.gh t2.bx (fun a z=>R.new0 (t1.free (t2.free z))) (e1.mono t2.gg) e2 (fm x y _ _ (fun d z w H3 G3 t3 e3=>z w H3 G3 ((t1.trans t2).trans t3) e3) q2)
theorem zdq  (fm:za5 f) (mA:zbE A) (mB:zbE B):zbE (binW f A B):=fun ρ Q Q' k q=>mA ρ _ _ (fun x q1=>mB ρ _ _ (fun y q2=>fm x y _ _ k q2) q1) q
theorem zkS    (fm:za5 f) (ho:OpR X (binaryOp op) r) (hr:OpD c f r) (hA:DE X c a A) (hB:DE X c b B):DE X c (.BinOp a op b pos) (binW f A B):=
 ⟨zdq fm hA.mono hB.mono,zan (zdx ho hA.pe hB.pe) fun σ H Q h=>zfk fm hA.mono hB.mono hr σ H Q h⟩
theorem zqp    (fm:za5 f) (ho:OpR X (compareOp op) r) (hr:OpD c f r) (hA:DE X c a A) (hB:DE X c b B) (hm:behindInMarks op b = false):DE X c (.Compare a [op] [b] pos) (binW f A B):=
 ⟨zdq fm hA.mono hB.mono,zan (zqn ho hA.pe hB.pe hm) fun σ H Q h=>zfk fm hA.mono hB.mono hr σ H Q h⟩
def blW (A:WE):WT:=fun ρ Q=>A ρ fun d=>match d with | .bl b=>Q b | _=>False
theorem zi3 (m:zbE A):zga (blW A):=fun ρ Q Q' k q=>m ρ _ _ (fun d z=>by
 cases d <;> first | exact k _ z | exact z) q
theorem zln  (m:zbE A) (σ:St) (H:Hp) (Q:Bool->Hp->Prop) (h:tDt c (blW A) σ H Q):zpJ (tD c A) σ H Q:=by
 obtain ⟨ρ,G,R,q⟩:=h
 refine ⟨ρ,G,R,m ρ _ _ (fun d z v H1 G1 t e=>?_) q⟩
 cases d with
 | bl b=>exact ⟨b,e,z H1 G1 t⟩
 | _=>exact z.elim
theorem zgs    (fm:za5 f) (ho:OpR X (compareOp op) r) (hr:OpD c f r) (hA:DE X c a A) (hB:DE X c b B) (hm:behindInMarks op b = false):DT X c (.Compare a [op] [b] pos) (blW (binW f A B)):=
 ⟨zi3 (zdq fm hA.mono hB.mono),zf1 (zha ho hA.pe hB.pe hm) fun σ H Q h=>by
  obtain ⟨ρ,G,R,q⟩:=zln (zdq fm hA.mono hB.mono) σ H Q h
  exact zfk fm hA.mono hB.mono hr σ H _ ⟨ρ,G,R,q⟩⟩
def addD:F2
 | .int i,.int j,Q=>Q (.int (i + j))
 | .str a,.str b,Q=>a.length + b.length <= 100000/\Q (.str (a ++ b))
 | .lst _ xs,.lst _ ys,Q=>xs.length + ys.length <= 100000/\Q (.lst true (xs ++ ys))
 | .tup xs,.tup ys,Q=>xs.length + ys.length <= 100000/\Q (.tup (xs ++ ys))
 | _,_,_=>False
def subD:F2
 | .int i,.int j,Q=>Q (.int (i - j))
 | _,_,_=>False
def mulD:F2
 | .int i,.int j,Q=>CMul i j/\Q (.int (i * j))
 | .lst _ xs,.int k,Q=>(0 <= k/\k <= 1000/\xs.length <= 1000)/\Q (.lst true (List.replicate k.toNat xs).flatten)
 | _,_,_=>False
def modD:F2
 | .int i,.int j,Q=>0 < j/\Q (.int (i % j))
 | _,_,_=>False
def powD:F2
 | .int i,.int j,Q=>CPow i j/\Q (.int (i ^ j.toNat))
 | _,_,_=>False
theorem small5 (h:n <= 100000):n <= sizeLine:=YAF h (by rw [YAO];decide)
theorem zte:za5 addD:=fun x y Q Q' k q=>by
 cases x <;> cases y <;> first | exact k _ q | exact ⟨q.1,k _ q.2⟩ | exact q
theorem ztb:za5 subD:=fun x y Q Q' k q=>by
 cases x <;> cases y <;> first | exact k _ q | exact q
theorem zsx:za5 mulD:=fun x y Q Q' k q=>by
 cases x <;> cases y <;> first | exact ⟨q.1,k _ q.2⟩ | exact q
theorem ztD:za5 modD:=fun x y Q Q' k q=>by
 cases x <;> cases y <;> first | exact ⟨q.1,k _ q.2⟩ | exact q
theorem zsL:za5 powD:=fun x y Q Q' k q=>by
 cases x <;> cases y <;> first | exact ⟨q.1,k _ q.2⟩ | exact q
def zq9 (K:PySem.W.Frag):R2:=fun x y H Q=>(rI0 (fun i j=>.int (i + j)) x y H Q\/(∃ i j,x = .str i/\y = .str j/\i.length + j.length <= sizeLine/\Q (.str (i ++ j)) H))\/(rCat x y H Q\/zr3 K x y H Q)
theorem zqz {c:Bk} (hK:c.K = X.K):OpR X (binaryOp .Add) (zq9 c.K):=by rw [hK];exact (op_add.or zkP).or (op_cat.or zpS)
theorem zqZ:OpD c addD (zq9 c.K):=by
 intro H G x y u v Q gh bx h0 rx ry q
 cases x with
 | int i=>cases y with
  | int j=>cases rx;cases ry;exact .inl (.inl ⟨i,j,rfl,rfl,q _ H G (Stp.refl gh bx) rfl⟩)
  | _=>exact q.elim
 | str i=>cases y with
  | str j=>cases rx;cases ry;exact .inl (.inr ⟨i,j,rfl,rfl,small5 q.1,q.2 _ H G (Stp.refl gh bx) rfl⟩)
  | _=>exact q.elim
 | lst n xs=>cases y with
  | lst m ys=>
   obtain ⟨a,vs,rfl,ha,_,rv⟩:=rx
   obtain ⟨b,ws,rfl,hb,_,rw'⟩:=ry
   refine .inr (.inl ⟨a,b,vs,ws,rfl,rfl,gh _ _ ha,gh _ _ hb,?_,fun p hp=>?_⟩)
   ·rw [<- rv.length,<- rw'.length];exact small5 q.1
   ·have hg:=zak gh hp
    exact q.2 (.ref p) _ _ (Stp.new gh bx hp) ⟨p,vs ++ ws,rfl,zae,fun _=>h0 p hp,(rv.append rw').mono (zbU hg)⟩
  | _=>exact q.elim
 | tup xs=>cases y with
  | tup ys=>
   obtain ⟨a,vs,rfl,ha,rv⟩:=rx
   obtain ⟨b,ws,rfl,hb,rw'⟩:=ry
   refine .inr (.inr ⟨a,b,vs,ws,rfl,rfl,za0 gh ha,za0 gh hb,?_,fun e=>?_,fun _ e=>?_,fun p hp=>?_⟩)
   ·rw [<- rv.length,<- rw'.length];exact small5 q.1
   ·subst e
    have:xs = []:=by have:=rv.length;simpa using this
    subst this
    exact q.2 (.ref b) H G (Stp.refl gh bx) ⟨b,ws,rfl,hb,rw'⟩
   ·subst e
    have:ys = []:=by have:=rw'.length;simpa using this
    subst this
    exact q.2 (.ref a) H G (Stp.refl gh bx) ⟨a,vs,rfl,ha,by simpa using rv⟩
   ·have hg:=zak gh hp
    exact q.2 (.ref p) _ _ (Stp.new gh bx hp) ⟨p,vs ++ ws,rfl,SqT.of zae,(rv.append rw').mono (zbU hg)⟩
  | _=>exact q.elim
 | _=>exact q.elim
theorem zaU   (hA:DE X c a A) (hB:DE X c b B) (hK:c.K = X.K:=by rfl):DE X c (.BinOp a .Add b pos) (binW addD A B):=zkS zte (zqz hK) zqZ hA hB
theorem zrl:OpD c subD (rI0 fun i j=>.int (i - j)):=by
 intro H G x y u v Q gh bx h0 rx ry q
 cases x with
 | int i=>cases y with
  | int j=>cases rx;cases ry;exact ⟨i,j,rfl,rfl,q _ H G (Stp.refl gh bx) rfl⟩
  | _=>exact q.elim
 | _=>exact q.elim
theorem zrQ   (hA:DE X c a A) (hB:DE X c b B):DE X c (.BinOp a .Sub b pos) (binW subD A B):=zkS ztb zqX zrl hA hB
def zqU:R2:=fun x y H Q=>rI CMul (fun i j=>.int (i * j)) x y H Q\/rRep x y H Q
theorem zoK:OpD c mulD zqU:=by
 intro H G x y u v Q gh bx h0 rx ry q
 cases x with
 | int i=>cases y with
  | int j=>cases rx;cases ry;exact .inl ⟨i,j,rfl,rfl,q.1,q.2 _ H G (Stp.refl gh bx) rfl⟩
  | _=>exact q.elim
 | lst n xs=>cases y with
  | int k=>
   obtain ⟨a,vs,rfl,ha,_,rv⟩:=rx
   cases ry
   obtain ⟨⟨k0,k1,hz⟩,q⟩:=q
   refine .inr ⟨a,k,vs,rfl,rfl,gh _ _ ha,by omega,by omega,?_,fun p hp=>?_⟩
   ·rw [<- rv.length,YAO]
    have h1:k.toNat <= 1000:=by omega
    have:=YCu hz h1
    omega
   ·have hg:=zak gh hp
    have:∀ m:Nat,Reps c G (List.replicate m xs).flatten (List.replicate m vs).flatten:=fun m=>by
     induction m with
     | zero=>rfl
     | succ m ih=>rw [YA1,YA1,YBi,YBi];exact rv.append ih
    exact q (.ref p) _ _ (Stp.new gh bx hp) ⟨p,_,rfl,zae,fun _=>h0 p hp,(this _).mono (zbU hg)⟩
  | _=>exact q.elim
 | _=>exact q.elim
theorem zsN   (hA:DE X c a A) (hB:DE X c b B):DE X c (.BinOp a .Mult b pos) (binW mulD A B):=zkS zsx (op_mul.or zo1) zoK hA hB
theorem zrx:OpD c modD (rI (fun _ j=>0 < j) fun i j=>.int (i % j)):=by
 intro H G x y u v Q gh bx h0 rx ry q
 cases x with
 | int i=>cases y with
  | int j=>cases rx;cases ry;exact ⟨i,j,rfl,rfl,q.1,q.2 _ H G (Stp.refl gh bx) rfl⟩
  | _=>exact q.elim
 | _=>exact q.elim
theorem ztp   (hA:DE X c a A) (hB:DE X c b B):DE X c (.BinOp a .Mod b pos) (binW modD A B):=zkS ztD zgp zrx hA hB
theorem zsw:OpD c powD (rI CPow fun i j=>.int (i ^ j.toNat)):=by
 intro H G x y u v Q gh bx h0 rx ry q
 cases x with
 | int i=>cases y with
  | int j=>cases rx;cases ry;exact ⟨i,j,rfl,rfl,q.1,q.2 _ H G (Stp.refl gh bx) rfl⟩
  | _=>exact q.elim
 | _=>exact q.elim
theorem zrp   (hA:DE X c a A) (hB:DE X c b B):DE X c (.BinOp a .Pow b pos) (binW powD A B):=zkS zsL zk6 zsw hA hB
def negD:D->(D->Prop)->Prop
 | .int i,Q=>Q (.int (-i))
 | _,_=>False
@[reducible] def unW (f:D->(D->Prop)->Prop) (A:WE):WE:=fun ρ Q=>A ρ fun x=>f x Q
theorem ziL   (hA:DE X c a A):DE X c (.UnaryOp .USub a pos) (unW negD A) where
 mono:=fun ρ Q Q' k q=>hA.mono ρ _ _ (fun x z=>by cases x <;> first | exact k _ z | exact z) q
 pe:=zan (zsD zrz hA.pe) fun σ H Q ⟨ρ,G,r,q⟩=>⟨ρ,G,r,hA.mono ρ _ _ (fun x z v H' G' t e=>by
  cases x with
  | int i=>exact ⟨i,e,z _ H' G' t rfl⟩
  | _=>exact z.elim) q⟩
def cmpD (p:Int->Int->Bool):F2
 | .int i,.int j,Q=>Q (.bl (p i j))
 | _,_,_=>False
theorem zfa (p:Int->Int->Bool):za5 (cmpD p):=fun x y Q Q' k q=>by
 cases x <;> cases y <;> first | exact k _ q | exact q
theorem zgi (p:Int->Int->Bool):OpD c (cmpD p) (rI0 fun i j=>.bl (p i j)):=by
 intro H G x y u v Q gh bx h0 rx ry q
 cases x with
 | int i=>cases y with
  | int j=>cases rx;cases ry;exact ⟨i,j,rfl,rfl,q _ H G (Stp.refl gh bx) rfl⟩
  | _=>exact q.elim
 | _=>exact q.elim
@[reducible] def leD:F2:=cmpD fun i j=>decide (i <= j)
@[reducible] def gtD:F2:=cmpD fun i j=>decide (j < i)
@[reducible] def geD:F2:=cmpD fun i j=>decide (j <= i)
theorem t_gt   (hA:DE X c a A) (hB:DE X c b B):DT X c (.Compare a [.Gt] [b] pos) (blW (binW gtD A B)):=zgs (zfa _) zsu (zgi _) hA hB (zeq _)
theorem t_ge   (hA:DE X c a A) (hB:DE X c b B):DT X c (.Compare a [.GtE] [b] pos) (blW (binW geD A B)):=zgs (zfa _) zrZ (zgi _) hA hB (zeq _)
def isN:D->Bool
 | .non=>true
 | _=>false
@[reducible] def isNW (A:WE):WE:=fun ρ Q=>A ρ fun x=>Q (.bl (isN x))
theorem zlK   (h:Rep c G d v):decide (v = V.non) = isN d:=by
 cases d with
 | non=>have:v = V.non:=h;subst this;rfl
 | bl b=>have:v = V.bl b:=h;subst this;rfl
 | int b=>have:v = V.int b:=h;subst this;rfl
 | str b=>have:v = V.str b:=h;subst this;rfl
 | box=>have:v = V.ref c.β:=h;subst this;rfl
 | obj b=>have:v = V.ref b:=h;subst this;rfl
 | dct n ks xs=>obtain ⟨a,vs,rfl,_⟩:=h;rfl
 | fdc ks xs=>obtain ⟨a,vs,o,rfl,_⟩:=h;rfl
 | tup xs=>obtain ⟨a,vs,rfl,_⟩:=h;rfl
 | lst n xs=>obtain ⟨a,vs,rfl,_⟩:=h;rfl
theorem zjF (m:zbE A):zbE (isNW A):=fun ρ Q Q' k q=>m ρ _ _ (fun x z=>k _ z) q
theorem zsg   (hA:DE X c a A):DE X c (.Compare a [.Is] [.Constant .none j pos'] pos) (isNW A):=
 ⟨zjF hA.mono,zan (zrN (zoL hA.pe)) fun σ H Q ⟨ρ,G,r,q⟩=>⟨ρ,G,r,hA.mono ρ _ _ (fun x z v H' G' t e=>by show Q (V.bl (decide (v = V.non))) H';rw [zlK e];exact z _ H' G' t rfl) q⟩⟩
theorem zqm   (hA:DE X c a A):DT X c (.Compare a [.Is] [.Constant .none j pos'] pos) (blW (isNW A)):=
 ⟨zi3 (zjF hA.mono),zf1 (zmx (zoL hA.pe)) fun σ H Q ⟨ρ,G,r,q⟩=>⟨ρ,G,r,hA.mono ρ _ _ (fun x z v H' G' t e=>⟨_,rfl,by rw [zlK e];exact z H' G' t⟩) q⟩⟩
end
mutual
def toPy:D->PyData
 | .non=>.none
 | .bl b=>.bool b
 | .int i=>.int i
 | .str x=>.str x
 | .box=>.none
 | .obj _=>.none
 | .dct _ _ _=>.none
 | .fdc _ _=>.none
 | .tup xs=>.tuple (zc9 xs)
 | .lst _ xs=>.list (zc9 xs)
def zc9:List D->List PyData
 | []=>[]
 | x :: xs=>toPy x :: zc9 xs
end
mutual
def layD:D->Bool
 | .non=>true
 | .bl _=>true
 | .int _=>true
 | .str x=>PyData.canLay0 (.str x)
 | .box=>false
 | .obj _=>false
 | .dct _ _ _=>false
 | .fdc _ _=>false
 | .tup xs=>zeA xs
 | .lst _ xs=>zeA xs
def zeA:List D->Bool
 | []=>true
 | x :: xs=>layD x && zeA xs
end
mutual
theorem zcF:∀ d:D,layD d = true->(toPy d).canLay0 = true
 | .non,_=>by unfold toPy PyData.canLay0;rfl
 | .bl _,_=>by unfold toPy PyData.canLay0;rfl
 | .int _,_=>by unfold toPy PyData.canLay0;rfl
 | .str _,h=>by unfold toPy;unfold layD at h;exact h
 | .tup xs,h=>by unfold toPy PyData.canLay0;unfold layD at h;exact zcy xs h
 | .lst _ xs,h=>by unfold toPy PyData.canLay0;unfold layD at h;exact zcy xs h
theorem zcy:∀ ds:List D,zeA ds = true->PyData.canLayAll0 (zc9 ds) = true
 | [],_=>by unfold zc9 PyData.canLayAll0;rfl
 | x :: xs,h=>by
  unfold zc9 PyData.canLayAll0
  unfold zeA at h
  have:=(YAx _ _ ▸ h:layD x = true/\zeA xs = true)
  rw [zcF x this.1,zcy xs this.2];rfl
end
theorem zfK:∀ xs:List D,zc9 xs = xs.map toPy
 | []=>rfl
 | x :: xs=>by unfold zc9;rw [zfK xs];rfl
section
variable {X:Cx}
mutual
theorem Rep.reads   (hK:c.K = X.K) (I:Inv X pins σ H s) (gh:Same G H):∀ (d:D) {v:V} {u:Value},Rep c G d v->RelV v u->layD d = true->∃ as,Reads s.heap u (toPy d) as
 | .non,v,u,h,r,_=>by have:v = V.non:=h;subst this;cases r;exact ⟨_,.none⟩
 | .bl b,v,u,h,r,_=>by have:v = V.bl b:=h;subst this;cases r;exact ⟨_,.bool b⟩
 | .int i,v,u,h,r,_=>by have:v = V.int i:=h;subst this;obtain ⟨t,rfl⟩:=r;exact ⟨_,.int i t⟩
 | .str i,v,u,h,r,_=>by have:v = V.str i:=h;subst this;obtain ⟨t,rfl⟩:=r;exact ⟨_,.str i t⟩
 | .box,v,u,h,r,l=>by cases l
 | .obj _,v,u,h,r,l=>by cases l
 | .dct _ _ _,v,u,h,r,l=>by cases l
 | .fdc _ _,v,u,h,r,l=>by cases l
 | .tup xs,v,u,⟨a,vs,h1,h2,h3⟩,r,l=>by
  subst h1;cases r
  obtain ⟨its,rv,p,_⟩:=I.tuple (hK ▸ za0 gh h2)
  obtain ⟨as,q⟩:=Reps.reads hK I gh xs h3 rv l
  obtain ⟨o,ho,hc,n,hd⟩:=p
  unfold toPy
  exact ⟨_,.tuple ho hc hd (by simpa using q)⟩
 | .lst _ xs,v,u,⟨a,vs,h1,h2,_,h3⟩,r,l=>by
  subst h1;cases r
  obtain ⟨_,its,n,rv,ho⟩:=I.hok a _ (gh _ _ h2)
  obtain ⟨as,q⟩:=Reps.reads hK I gh xs h3 rv l
  unfold toPy
  exact ⟨_,.list ho rfl rfl (by simpa using q)⟩
theorem Reps.reads   (hK:c.K = X.K) (I:Inv X pins σ H s) (gh:Same G H):∀ (ds:List D) {vs:List V} {us:List Value},Reps c G ds vs->Vals vs us->zeA ds = true->∃ as,ReadsAll s.heap us (zc9 ds) as
 | [],vs,us,h,r,_=>by have:vs = []:=h;subst this;cases r;exact ⟨_,.nil⟩
 | x :: xs,vs,us,⟨v,ws,h1,h2,h3⟩,r,l=>by
  subst h1
  cases r with
  | cons r1 r2=>
   unfold zeA at l
   have l':=(YAx _ _ ▸ l:layD x = true/\zeA xs = true)
   obtain ⟨as,q1⟩:=Rep.reads hK I gh x h2 r1 l'.1
   obtain ⟨bs,q2⟩:=Reps.reads hK I gh xs h3 r2 l'.2
   exact ⟨_,.cons q1 q2⟩
end
def eqB (x y:D):Bool:=PyData.eqv (toPy x) (toPy y)
def eqOk (x y:D):Prop:=layD x = true/\layD y = true/\min (toPy x).depth (toPy y).depth <= 50
@[reducible] def eqD:F2:=fun x y Q=>eqOk x y/\Q (.bl (eqB x y))
@[reducible] def neD:F2:=fun x y Q=>eqOk x y/\Q (.bl (!eqB x y))
def rEqD (c:Bk) (neg:Bool):R2:=fun u v H Q=>∃ G x y,Same G H/\Rep c G x u/\Rep c G y v/\eqOk x y/\Q (.bl (if neg then !eqB x y else eqB x y)) H
theorem zoS (hK:c.K = X.K) (hu:X.A.units + 64 < cLine):OpR X (compareOp .Eq) (rEqD c false):=by
 intro pins s σ H u v a b Q I ra rb ⟨G,x,y,gh,hx,hy,⟨lx,ly,ld⟩,q⟩
 obtain ⟨as,qa⟩:=hx.reads hK I gh x ra lx
 obtain ⟨bs,qb⟩:=hy.reads hK I gh y rb ly
 exact SeqAt.compareEq_reads qa qb (zcF x lx) (zcF y ly) (by omega) ⟨.bl _,H,I,rfl,q⟩
theorem zo9 (hK:c.K = X.K) (hu:X.A.units + 64 < cLine):OpR X (compareOp .NotEq) (rEqD c true):=by
 intro pins s σ H u v a b Q I ra rb ⟨G,x,y,gh,hx,hy,⟨lx,ly,ld⟩,q⟩
 obtain ⟨as,qa⟩:=hx.reads hK I gh x ra lx
 obtain ⟨bs,qb⟩:=hy.reads hK I gh y rb ly
 exact SeqAt.compareNe_reads qa qb (zcF x lx) (zcF y ly) (by omega) ⟨.bl _,H,I,rfl,q⟩
theorem m_eq:za5 eqD:=fun x y Q Q' k q=>⟨q.1,k _ q.2⟩
theorem m_ne:za5 neD:=fun x y Q Q' k q=>⟨q.1,k _ q.2⟩
theorem zrS:OpD c eqD (rEqD c false):=fun H G x y u v Q gh bx h0 rx ry q=>⟨G,x,y,gh,rx,ry,q.1,q.2 _ H G (Stp.refl gh bx) rfl⟩
theorem zrL:OpD c neD (rEqD c true):=fun H G x y u v Q gh bx h0 rx ry q=>⟨G,x,y,gh,rx,ry,q.1,q.2 _ H G (Stp.refl gh bx) rfl⟩
def inOk (x:D) (ys:List D):Prop:=layD x = true/\zeA ys = true/\min (PyData.depthAll (zc9 ys)) (toPy x).depth <= 50
def inB (x:D) (ys:List D):Bool:=(zc9 ys).any fun y=>PyData.eqv y (toPy x)
def inD (neg:Bool):F2
 | x,.lst _ ys,Q=>inOk x ys/\Q (.bl (if neg then !inB x ys else inB x ys))
 | x,.tup ys,Q=>inOk x ys/\Q (.bl (if neg then !inB x ys else inB x ys))
 | _,_,_=>False
def rInD (c:Bk) (neg:Bool):R2:=fun u v H Q=>∃ G x y,Same G H/\Rep c G x u/\Rep c G y v/\inD neg x y fun d=>∃ b,d = .bl b/\Q (.bl b) H
theorem zsc (hK:c.K = X.K) (hu:X.A.units + 64 < cLine):OpR X (compareOp .In) (rInD c false):=by
 intro pins s σ H u v a b Q I ra rb ⟨G,x,y,gh,hx,hy,q⟩
 cases y with
 | lst n ys=>
  obtain ⟨⟨lx,ly,ld⟩,_,e,q⟩:=q
  cases e
  obtain ⟨as,qa⟩:=hx.reads hK I gh x ra lx
  obtain ⟨bs,qb⟩:=hy.reads hK I gh (.lst n ys) rb (by unfold layD;exact ly)
  unfold toPy at qb
  exact SeqAt.in_list_reads qb qa (zcy ys ly) (zcF x lx) (by omega) ⟨.bl _,H,I,rfl,q⟩
 | tup ys=>
  obtain ⟨⟨lx,ly,ld⟩,_,e,q⟩:=q
  cases e
  obtain ⟨as,qa⟩:=hx.reads hK I gh x ra lx
  obtain ⟨bs,qb⟩:=hy.reads hK I gh (.tup ys) rb (by unfold layD;exact ly)
  unfold toPy at qb
  exact SeqAt.in_tuple_reads qb qa (zcy ys ly) (zcF x lx) (by omega) ⟨.bl _,H,I,rfl,q⟩
 | _=>exact q.elim
theorem zk8 (hK:c.K = X.K) (hu:X.A.units + 64 < cLine):OpR X (compareOp .NotIn) (rInD c true):=by
 intro pins s σ H u v a b Q I ra rb ⟨G,x,y,gh,hx,hy,q⟩
 cases y with
 | lst n ys=>
  obtain ⟨⟨lx,ly,ld⟩,_,e,q⟩:=q
  cases e
  obtain ⟨as,qa⟩:=hx.reads hK I gh x ra lx
  obtain ⟨bs,qb⟩:=hy.reads hK I gh (.lst n ys) rb (by unfold layD;exact ly)
  unfold toPy at qb
  exact SeqAt.notIn_list_reads qb qa (zcy ys ly) (zcF x lx) (by omega) ⟨.bl _,H,I,rfl,q⟩
 | tup ys=>
  obtain ⟨⟨lx,ly,ld⟩,_,e,q⟩:=q
  cases e
  obtain ⟨as,qa⟩:=hx.reads hK I gh x ra lx
  obtain ⟨bs,qb⟩:=hy.reads hK I gh (.tup ys) rb (by unfold layD;exact ly)
  unfold toPy at qb
  exact SeqAt.notIn_tuple_reads qb qa (zcy ys ly) (zcF x lx) (by omega) ⟨.bl _,H,I,rfl,q⟩
 | _=>exact q.elim
theorem m_in (neg:Bool):za5 (inD neg):=fun x y Q Q' k q=>by
 cases y <;> first | exact ⟨q.1,k _ q.2⟩ | exact q
theorem zsM (neg:Bool):OpD c (inD neg) (rInD c neg):=fun H G x y u v Q gh bx h0 rx ry q=>⟨G,x,y,gh,rx,ry,by
 cases y with
 | lst n ys=>exact ⟨q.1,_,rfl,q.2 _ H G (Stp.refl gh bx) rfl⟩
 | tup ys=>exact ⟨q.1,_,rfl,q.2 _ H G (Stp.refl gh bx) rfl⟩
 | _=>exact q.elim⟩
section
variable {c:Bk} {a b:Expr} {A B:WE} {pos:Pos}
theorem d_eq (hA:DE X c a A) (hB:DE X c b B) (hK:c.K = X.K:=by rfl) (hu:X.A.units + 64 < cLine:=by decreasing_trivial):DE X c (.Compare a [.Eq] [b] pos) (binW eqD A B):=zqp m_eq (zoS hK hu) zrS hA hB (zeq _)
theorem d_ne (hA:DE X c a A) (hB:DE X c b B) (hK:c.K = X.K:=by rfl) (hu:X.A.units + 64 < cLine:=by decreasing_trivial):DE X c (.Compare a [.NotEq] [b] pos) (binW neD A B):=zqp m_ne (zo9 hK hu) zrL hA hB (zeq _)
theorem t_eq (hA:DE X c a A) (hB:DE X c b B) (hK:c.K = X.K:=by rfl) (hu:X.A.units + 64 < cLine:=by decreasing_trivial):DT X c (.Compare a [.Eq] [b] pos) (blW (binW eqD A B)):=zgs m_eq (zoS hK hu) zrS hA hB (zeq _)
theorem t_ne (hA:DE X c a A) (hB:DE X c b B) (hK:c.K = X.K:=by rfl) (hu:X.A.units + 64 < cLine:=by decreasing_trivial):DT X c (.Compare a [.NotEq] [b] pos) (blW (binW neD A B)):=zgs m_ne (zo9 hK hu) zrL hA hB (zeq _)
def truB:D->Option Bool
 | .non=>some false
 | .bl b=>some b
 | .int i=>some (i != 0)
 | .lst _ xs=>some (!xs.isEmpty)
 | .tup xs=>some (!xs.isEmpty)
 | _=>none
def truD (d:D) (Q:Bool->Prop):Prop:=match truB d with | some b=>Q b | none=>False
@[reducible] def truW (A:WE):WT:=fun ρ Q=>A ρ fun d=>truD d Q
theorem zm2   (gh:Same G H) (h:Rep c G d v) (e:truB d = some k):TruV c.K v H k:=by
 cases d with
 | non=>cases h;cases e;rfl
 | bl b=>cases h;cases e;rfl
 | int i=>cases h;cases e;rfl
 | lst n xs=>
  obtain ⟨a,vs,rfl,h1,_,h2⟩:=h
  cases e
  refine .inl ⟨vs,.inl (.inl (gh _ _ h1)),?_⟩
  have:=h2.length
  cases xs <;> cases vs <;> first | rfl | simp at this
 | tup xs=>
  obtain ⟨a,vs,rfl,h1,h2⟩:=h
  cases e
  refine .inr (.inl ⟨vs,za0 gh h1,?_⟩)
  have:=h2.length
  cases xs <;> cases vs <;> first | rfl | simp at this
 | str x=>cases e
 | box=>cases e
 | obj a=>cases e
 | dct n ks xs=>cases e
 | fdc ks xs=>cases e
theorem zhW (d:D) (k:∀ b,Q b->Q' b) (q:truD d Q):truD d Q':=by
 unfold truD at q ⊢
 split at q
 ·exact k _ q
 ·exact q.elim
theorem zeK (hA:DE X c a A) (he:∀ whole,isTrue a X.env whole = (do let v <- whole;standAt a.pos;holding [v] (truthy v)):=by intro _;rfl) (hK:c.K = X.K:=by rfl):DT X c a (truW A) where
 mono:=fun ρ Q Q' k q=>hA.mono ρ _ _ (fun d z=>zhW d k z) q
 pt:=zf1 (zjD hA.pe he) fun σ H Q ⟨ρ,G,r,q⟩=>⟨ρ,G,r,hA.mono ρ _ _ (fun d z v H' G' t e=>by
  unfold truD at z
  split at z
  ·rename_i k hk
   exact ⟨k,hK ▸ zm2 t.gh e hk,z H' G' t⟩
  ·exact z.elim) q⟩
@[reducible] def notT (A:WT):WT:=fun ρ Q=>A ρ fun b=>Q (!b)
theorem zg2 {A:WT} (hA:DT X c a A):DT X c (.UnaryOp .Not a pos) (notT A) where
 mono:=fun ρ Q Q' k q=>hA.mono ρ _ _ (fun d z=>k _ z) q
 pt:=zf1 (zoO hA.pt) fun σ H Q ⟨ρ,G,r,q⟩=>⟨ρ,G,r,q⟩
@[reducible] def orT (A B:WT):WT:=fun ρ Q=>A ρ fun b=>if b = true then Q true else B ρ Q
structure DW (X:Cx) (c:Bk) (e:Expr) (W:WT):Prop where
 mono:zga W
 pw:PW X e (tDt c W)
theorem DW.dt (h:DW X c a W):DT X c a W:=⟨h.mono,h.pw.pt⟩
theorem zr8  (h:PW X e t) (k:∀ σ H Q,t' σ H Q->t σ H Q):PW X e t':=fun wh pins s σ H Q I q=>h wh pins s σ H Q I (k σ H Q q)
theorem zjn {A:WT} (hA:DT X c a A):DW X c (.BoolOp .Or [a] pos) A:=⟨hA.mono,zqI hA.pt⟩
theorem w_or {A B:WT} {rest:List Expr} (hA:DT X c a A) (hB:DW X c (.BoolOp .Or (b :: rest) pos) B):DW X c (.BoolOp .Or (a :: b :: rest) pos) (orT A B) where
 mono:=fun ρ Q Q' k q=>hA.mono ρ _ _ (fun d z=>by
  cases d
  ·exact hB.mono ρ _ _ k z
  ·exact k _ z) q
 pw:=zr8 (ztz hA.pt hB.pw) fun σ H Q ⟨ρ,G,r,q⟩=>⟨ρ,G,r,hA.mono ρ _ _ (fun d z H' G' t=>by
  cases d
  ·exact ⟨ρ,G',r.step t,hB.mono ρ _ _ (fun b' z' H2 G2 t2=>z' H2 G2 (t.trans t2)) z⟩
  ·exact z H' G' t) q⟩
def blD (d:D) (Q:Bool->Prop):Prop:=match d with | .bl b=>Q b | _=>False
theorem zg4 (d:D) (k:∀ b,Q b->Q' b) (q:blD d Q):blD d Q':=by
 cases d <;> first | exact k _ q | exact q
@[reducible] def andW (A B:WE):WE:=fun ρ Q=>A ρ fun x=>blD x fun k=>if k = true then B ρ Q else Q (.bl false)
@[reducible] def notW (A:WE):WE:=fun ρ Q=>A ρ fun x=>blD x fun k=>Q (.bl (!k))
theorem zkQ (hA:DE X c a A):DE X c (.BoolOp op [a] pos) A:=⟨hA.mono,zq6 hA.pe⟩
theorem zkv {rest:List Expr} (hA:DE X c a A) (hB:DE X c (.BoolOp .And (b :: rest) pos) B):DE X c (.BoolOp .And (a :: b :: rest) pos) (andW A B) where
 mono:=fun ρ Q Q' k q=>hA.mono ρ _ _ (fun d z=>zg4 d (fun b z=>by
  cases b
  ·exact k _ z
  ·exact hB.mono ρ _ _ k z) z) q
 pe:=zan (zqH hA.pe hB.pe) fun σ H Q ⟨ρ,G,r,q⟩=>⟨ρ,G,r,hA.mono ρ _ _ (fun d z v H' G' t e=>by
  cases d with
  | bl k=>
   refine ⟨k,e,?_⟩
   cases k
   ·exact z _ H' G' t rfl
   ·exact ⟨ρ,G',r.step t,hB.mono ρ _ _ (fun b' z' v2 H2 G2 t2=>z' v2 H2 G2 (t.trans t2)) z⟩
  | _=>exact z.elim) q⟩
theorem zrC (hA:DE X c a A):DE X c (.UnaryOp .Not a pos) (notW A) where
 mono:=fun ρ Q Q' k q=>hA.mono ρ _ _ (fun d z=>zg4 d (fun b z=>k _ z) z) q
 pe:=zan (zq2 hA.pe) fun σ H Q ⟨ρ,G,r,q⟩=>⟨ρ,G,r,hA.mono ρ _ _ (fun d z v H' G' t e=>by
  cases d with
  | bl k=>exact ⟨k,e,z _ H' G' t rfl⟩
  | _=>exact z.elim) q⟩
@[reducible] def zej (f g:F2) (A B C:WE):WE:=fun ρ Q=>A ρ fun x=>B ρ fun y=>f x y fun z=>blD z fun k=>if k = true then C ρ fun w=>g y w Q else Q (.bl false)
end
end
section
variable {X:Cx} {c:Bk} {a b e:Expr} {A B:WE} {pos p:Pos} {es:List Expr}
@[reducible] def nilA:WL:=fun _ Q=>Q []
@[reducible] def zab (A:WE) (R:WL):WL:=fun ρ Q=>A ρ fun d=>R ρ fun ds=>Q (d :: ds)
theorem zag:DA X c [] nilA:=⟨fun _ _ _ k q=>k _ q,zoG za1 fun σ H Q ⟨ρ,G,r,q⟩=>q [] H G r.refl rfl⟩
theorem zaa (hA:DE X c e A) (hR:DA X c es R) (hs:starEach (e :: es) X.env = (false,eval e X.env) :: starEach es X.env:=by rfl):DA X c (e :: es) (zab A R) where
 mono:=fun ρ Q Q' k q=>hA.mono ρ _ _ (fun d z=>hR.mono ρ _ _ (fun ds y=>k _ y) z) q
 pa:=zoG (zav hA.pe hR.pa hs) fun σ H Q ⟨ρ,G,r,q⟩=>⟨ρ,G,r,hA.mono ρ _ _ (fun d z v H1 G1 t1 e1=>⟨ρ,G1,r.step t1,hR.mono ρ _ _ (fun ds y vs H2 G2 t2 e2=>
  y (v :: vs) H2 G2 (t1.trans t2) ⟨v,vs,rfl,e1.mono t2.gg,e2⟩) z⟩) q⟩
@[reducible] def tupW (R:WL):WE:=fun ρ Q=>R ρ fun ds=>ds.length <= 100000/\Q (.tup ds)
theorem zcJ  (hR:DA X c es R):DE X c (.Tuple es x1 pos) (tupW R) where
 mono:=fun ρ Q Q' k q=>hR.mono ρ _ _ (fun ds z=>⟨z.1,k _ z.2⟩) q
 pe:=zan (zru hR.pa) fun σ H Q ⟨ρ,G,r,q⟩=>⟨ρ,G,r,hR.mono ρ _ _ (fun ds z vs H' G' t e=>⟨by rw [<- e.length];exact small5 z.1,fun p hp=>
  z.2 (.ref p) _ _ (t.trans (Stp.new t.gh t.bx hp)) ⟨p,vs,rfl,SqT.of zae,e.mono (zbU (zak t.gh hp))⟩⟩) q⟩
@[reducible] def lstW (R:WL):WL:=fun ρ Q=>R ρ fun ds=>ds.length <= 100000/\Q ds
theorem zaW (hR:DA X c es R):DF X c (.List es pos) (lstW R) where
 mono:=fun ρ Q Q' k q=>hR.mono ρ _ _ (fun ds z=>⟨z.1,k _ z.2⟩) q
 pe:=zan (zo5 hR.pa) fun σ H Q ⟨ρ,G,r,q⟩=>⟨ρ,G,r,hR.mono ρ _ _ (fun ds z vs H' G' t e=>⟨by rw [<- e.length];exact small5 z.1,fun p hp=>
  z.2 p vs _ _ (t.trans (Stp.own t.gh t.bx hp)) zae (zak t.gh hp) (t.free hp) e⟩) q⟩
theorem zi2   (h:Reps c G ds vs) (e:atI ds i = some d):∃ v,atI vs i = some v/\Rep c G d v:=by
 unfold atI at e ⊢
 rw [h.length] at e
 cases z:ixN vs.length i with
 | none=>rw [z] at e;cases e
 | some j=>rw [z] at e;exact h.get e
def itD (xs:List D) (y:D) (Q:D->Prop):Prop:=match y with | .int i=>(match atI xs i with | some d=>Q d | none=>False) | _=>False
def ixD:F2
 | .lst _ xs,y,Q=>itD xs y Q
 | .tup xs,y,Q=>itD xs y Q
 | _,_,_=>False
theorem zjX  (k:∀ d,Q d->Q' d) (q:itD xs y Q):itD xs y Q':=by
 cases y with
 | int i=>
  unfold itD at q ⊢
  simp only at q ⊢
  split at q
  ·exact k _ q
  ·exact q.elim
 | _=>exact q
theorem m_ix:za5 ixD:=fun x y Q Q' k q=>by
 cases x <;> first | exact zjX k q | exact q
theorem zs4:OpD c ixD (rIx c.K):=by
 intro H G x y u v Q gh bx h0 rx ry q
 cases x with
 | lst n xs=>
  obtain ⟨a,vs,rfl,ha,_,rv⟩:=rx
  cases y with
  | int i=>
   cases ry
   have q:(match atI xs i with | some d=>_ | none=>False):=q
   split at q
   ·rename_i d e
    obtain ⟨w,e',rw'⟩:=zi2 rv e
    exact .inl ⟨a,vs,i,w,rfl,rfl,SqL.of (gh _ _ ha),e',q w H G (Stp.refl gh bx) rw'⟩
   ·exact q.elim
  | _=>exact q.elim
 | tup xs=>
  obtain ⟨a,vs,rfl,ha,rv⟩:=rx
  cases y with
  | int i=>
   cases ry
   have q:(match atI xs i with | some d=>_ | none=>False):=q
   split at q
   ·rename_i d e
    obtain ⟨w,e',rw'⟩:=zi2 rv e
    exact .inr (.inl ⟨a,vs,i,w,rfl,rfl,za0 gh ha,e',q w H G (Stp.refl gh bx) rw'⟩)
   ·exact q.elim
  | _=>exact q.elim
 | _=>exact q.elim
def cutD {α:Type} (xs:List α) (lo hi:Option Int):List α:=(xs.drop (HT.sIx xs.length 0 lo)).take (HT.sIx xs.length xs.length hi - HT.sIx xs.length 0 lo)
theorem Reps.cut  (h:Reps c G ds vs) (lo hi:Option Int):Reps c G (cutD ds lo hi) (cutV vs lo hi):=by
 unfold cutD cutV
 rw [h.length]
 exact (h.drop _).take _
abbrev WO:=Env->(Option Int->Prop)->Prop
structure DO (X:Cx) (c:Bk) (e:Option Expr) (W:WO):Prop where
 mono:∀ ρ Q Q',(∀ d,Q d->Q' d)->W ρ Q->W ρ Q'
 po:PO X e fun σ H Q=>∃ ρ G,Rel c ρ σ H G/\W ρ fun o=>∀ H' G',Stp c.β H G H' G'->Q o H'
@[reducible] def noO:WO:=fun _ Q=>Q none
def zd5 (A:WE):WO:=fun ρ Q=>A ρ fun d=>match d with | .int i=>Q (some i) | _=>False
theorem zeZ:DO X c none noO:=⟨fun _ _ _ k q=>k _ q,fun pins s σ H Q I ⟨ρ,G,r,q⟩=>zlW pins s σ H Q I (q H G r.refl)⟩
theorem ze6 (hA:DE X c a A):DO X c (some a) (zd5 A) where
 mono:=fun ρ Q Q' k q=>hA.mono ρ _ _ (fun d z=>by cases d <;> first | exact k _ z | exact z) q
 po:=fun pins s σ H Q I ⟨ρ,G,r,q⟩=>zl0 hA.pe pins s σ H Q I ⟨ρ,G,r,hA.mono ρ _ _ (fun d z v H' G' t e=>by
  cases d with
  | int i=>exact ⟨i,e,z H' G' t⟩
  | _=>exact z.elim) q⟩
def slD (x:D) (lo hi:Option Int) (Q:D->Prop):Prop:=match x with
 | .lst _ xs=>Q (.lst true (cutD xs lo hi))
 | .tup xs=>Q (.tup (cutD xs lo hi))
 | _=>False
theorem zeR  (fm:za5 f) (gm:za5 g) (mA:zbE A) (mB:zbE B) (mC:zbE C):zbE (zej f g A B C):=fun ρ Q Q' k q=>mA ρ _ _ (fun x q1=>mB ρ _ _ (fun y q2=>fm x y _ _ (fun z q3=>zg4 z (fun b q4=>by
 cases b
 ·exact k _ q4
 ·exact mC ρ _ _ (fun w q5=>gm y w _ _ k q5) q4) q3) q2) q1) q
theorem zgw  (fm:za5 f) (gm:za5 g) (mA:zbE A) (mB:zbE B) (mC:zbE C) (hr:OpD c f r) (hr':OpD c g r') (σ:St) (H:Hp) (Q:VK) (h:tD c (zej f g A B C) σ H Q):zm1 r r' (tD c A) (tD c B) (tD c C) σ H Q:=by
 obtain ⟨ρ,G,R,q⟩:=h
 refine ⟨ρ,G,R,mA ρ _ _ (fun x q1 u H1 G1 t1 e1=>⟨ρ,G1,R.step t1,mB ρ _ _ (fun y q2 v H2 G2 t2 e2=>?_) q1⟩) q⟩
 refine hr H2 G2 x y u v _ t2.gh t2.bx (fun a z=>R.new0 (t1.free (t2.free z))) (e1.mono t2.gg) e2 (fm x y _ _ (fun z q3 w H3 G3 t3 e3=>?_) q2)
 cases z with
 | bl k=>
  refine ⟨k,e3,?_⟩
  cases k
  ·exact q3 _ H3 G3 ((t1.trans t2).trans t3) rfl
  ·refine ⟨ρ,G3,((R.step t1).step t2).step t3,mC ρ _ _ (fun w' q5 v' H4 G4 t4 e4=>?_) q3⟩
   exact hr' H4 G4 y w' v v' Q t4.gh t4.bx (fun a z=>R.new0 (t1.free (t2.free (t3.free (t4.free z))))) ((e2.mono t3.gg).mono t4.gg) e4 (gm y w' _ _ (fun d z w2 H5 G5 t5 e5=>z w2 H5 G5 ((((t1.trans t2).trans t3).trans t4).trans t5) e5) q5)
 | _=>exact q3.elim
end
end Fd
namespace L2
open PySem PySem.Spec PyProof.Rows
end L2
namespace Fd
open PySem L2
section
variable {X:Cx} {c:Bk} {a b e:Expr} {A B:WE} {pos p p':Pos} {es:List Expr}
abbrev FL:=List D->(D->Prop)->Prop
def zdA (f:FL):Prop:=∀ ds Q Q',(∀ d,Q d->Q' d)->f ds Q->f ds Q'
@[reducible] def cbW (f:FL) (R:WL):WE:=fun ρ Q=>R ρ fun ds=>f ds Q
def zhe (c:Bk) (f:FL) (r:List V->Hp->VK->Prop):Prop:=∀ (H G:Hp) (ds:List D) (vs:List V) (Q:VK),Same G H->BoxD c.β H G->(∀ a,H a = none->c.H0 a = none)->Reps c G ds vs ->
 f ds (fun d=>∀ v H' G',Stp c.β H G H' G'->Rep c G' d v->Q v H')->r vs H Q
theorem zmG  (fm:zdA f) (mR:zeQ R) (hr:zhe c f r) (σ:St) (H:Hp) (Q:VK) (h:tD c (cbW f R) σ H Q):tCB r (tDs c R) σ H Q:=by
 obtain ⟨ρ,G,r',q⟩:=h
 exact ⟨ρ,G,r',mR ρ _ _ (fun ds z vs H' G' t e=>hr H' G' ds vs Q t.gh t.bx (fun a z=>r'.new0 (t.free z)) e (fm ds _ _ (fun d y v H2 G2 t2 e2=>y v H2 G2 (t.trans t2) e2) z)) q⟩
theorem zi9 {f:FL} {R:WL} {r:List V->Hp->VK->Prop} {id:String} {x:Str} (fm:zdA f) (hc:CallR X (.builtin id) r) (hr:zhe c f r) (hm:X.mg x = none) (hv:bootBuiltins x = some (.builtin id)) (hR:DA X c (e :: es) R) (hg:Gl X x:=by rfl) (hn:x ≠ "__name__" := by decide) (hdb:(x == ("__debug__" : Str)) = false:=by decide)
  (he:starEach (e :: es) X.env = (false,eval e X.env) :: starEach es X.env:=by rfl) (hpl:(backTo pos (starEach es X.env)).any (·.1) = false:=by rfl):DE X c (.Call (.Name x p) (e :: es) [] pos) (cbW f R):=
 ⟨fun ρ Q Q' k q=>hR.mono ρ _ _ (fun ds z=>fm ds _ _ k z) q,zan (zdW hc hg hm hv hR.pa hn hdb he hpl) (zmG fm hR.mono hr)⟩
theorem znf   (fm:zdA f) (hc:CallR X (.type T) r) (hr:zhe c f r) (hm:X.mg x = none) (hv:bootBuiltins x = some (.type T)) (hR:DA X c (e :: es) R) (hg:Gl X x:=by rfl) (hn:x ≠ "__name__" := by decide) (hdb:(x == ("__debug__" : Str)) = false:=by decide)
  (he:starEach (e :: es) X.env = (false,eval e X.env) :: starEach es X.env:=by rfl) (hpl:(backTo pos (starEach es X.env)).any (·.1) = false:=by rfl):DE X c (.Call (.Name x p) (e :: es) [] pos) (cbW f R):=
 ⟨fun ρ Q Q' k q=>hR.mono ρ _ _ (fun ds z=>fm ds _ _ k z) q,zan (zbX hc hg hm hv hR.pa hn hdb he hpl) (zmG fm hR.mono hr)⟩
theorem zhY  (h:Reps c G [d] vs):∃ v,vs = [v]/\Rep c G d v:=by
 obtain ⟨v,ws,rfl,h1,h2⟩:=h
 cases h2
 exact ⟨v,rfl,h1⟩
theorem zs6  (h:Reps c G [d,f] vs):∃ v w,vs = [v,w]/\Rep c G d v/\Rep c G f w:=by
 obtain ⟨v,ws,rfl,h1,w,ws',rfl,h2,h3⟩:=h
 cases h3
 exact ⟨v,w,rfl,h1,h2⟩
def lenF:FL
 | [.lst _ xs],Q=>Q (.int xs.length)
 | [.tup xs],Q=>Q (.int xs.length)
 | _,_=>False
theorem ztj:zdA lenF:=fun ds Q Q' k q=>by
 unfold lenF at q ⊢
 split at q <;> first | exact k _ q | exact q.elim
theorem zsr:zhe c lenF (fun xs H Q=>∃ p ys,xs = [.ref p]/\(SqL c.K H p ys\/SqT c.K H p ys)/\Q (.int ys.length) H):=by
 intro H G ds vs Q gh bx h0 rv q
 unfold lenF at q
 split at q
 ·obtain ⟨v,rfl,a,ws,rfl,ha,_,hw⟩:=zhY rv
  exact ⟨a,ws,rfl,.inl (SqL.of (gh _ _ ha)),by rw [<- hw.length];exact q _ H G (Stp.refl gh bx) rfl⟩
 ·obtain ⟨v,rfl,a,ws,rfl,ha,hw⟩:=zhY rv
  exact ⟨a,ws,rfl,.inr (za0 gh ha),by rw [<- hw.length];exact q _ H G (Stp.refl gh bx) rfl⟩
 ·exact q.elim
def seqD (d:D) (Q:List D->Prop):Prop:=match d with | .lst _ xs=>Q xs | .tup xs=>Q xs | _=>False
theorem zft  (k:∀ xs,Q xs->Q' xs) (q:seqD d Q):seqD d Q':=by
 cases d <;> first | exact k _ q | exact q
@[reducible] def zkG (A:WE):WL:=fun ρ Q=>A ρ fun d=>seqD d Q
theorem zjK (hA:DE X c e A) (hg:Gl X "list" := by rfl) (he:starEach [e] X.env = (false,eval e X.env) :: starEach [] X.env:=by rfl) (hK:c.K = X.K:=by rfl) (hm:X.mg "list" = none:=by decreasing_trivial):DF X c (.Call (.Name "list" p) [e] [] pos) (zkG A) where
 mono:=fun ρ Q Q' k q=>hA.mono ρ _ _ (fun d z=>zft k z) q
 pe:=zan (zbX zc8 hg hm YBm (zav hA.pe za1 he) (by decide) (by decide) he rfl) fun σ H Q ⟨ρ,G,r,q⟩=>⟨ρ,G,r,hA.mono ρ _ _ (fun d z v H' G' t e=>by
  cases d with
  | lst n xs=>
   obtain ⟨a,vs,rfl,ha,_,rv⟩:=e
   exact ⟨a,vs,rfl,.inl (SqL.of (t.gh _ _ ha)),fun l hl=>z l vs _ _ (t.trans (Stp.own t.gh t.bx hl)) zae (zak t.gh hl) (t.free hl) rv⟩
  | tup xs=>
   obtain ⟨a,vs,rfl,ha,rv⟩:=e
   exact ⟨a,vs,rfl,.inr (hK ▸ za0 t.gh ha),fun l hl=>z l vs _ _ (t.trans (Stp.own t.gh t.bx hl)) zae (zak t.gh hl) (t.free hl) rv⟩
  | _=>exact z.elim) q⟩
def intF:FL
 | [.int i],Q=>Q (.int i)
 | [.bl k],Q=>Q (.int (if k then 1 else 0))
 | _,_=>False
theorem zsZ:zdA intF:=fun ds Q Q' k q=>by
 unfold intF at q ⊢
 split at q <;> first | exact k _ q | exact q.elim
theorem zr1:zhe c intF (fun xs H Q=>(∃ i,xs = [.int i]/\Q (.int i) H)\/∃ k,xs = [.bl k]/\Q (.int (if k then 1 else 0)) H):=by
 intro H G ds vs Q gh bx h0 rv q
 unfold intF at q
 split at q
 ·obtain ⟨v,rfl,h⟩:=zhY rv
  cases h
  exact .inl ⟨_,rfl,q _ H G (Stp.refl gh bx) rfl⟩
 ·obtain ⟨v,rfl,h⟩:=zhY rv
  cases h
  exact .inr ⟨_,rfl,q _ H G (Stp.refl gh bx) rfl⟩
 ·exact q.elim
def allF:FL
 | [.lst _ xs],Q=>∃ bs:List Bool,xs = bs.map D.bl/\Q (.bl (bs.all id))
 | _,_=>False
def anyF:FL
 | [.lst _ xs],Q=>∃ bs:List Bool,xs = bs.map D.bl/\Q (.bl (bs.any id))
 | _,_=>False
theorem ztv:zdA allF:=fun ds Q Q' k q=>by
 unfold allF at q ⊢
 split at q
 ·obtain ⟨bs,e,q⟩:=q;exact ⟨bs,e,k _ q⟩
 ·exact q.elim
theorem ztB:zdA anyF:=fun ds Q Q' k q=>by
 unfold anyF at q ⊢
 split at q
 ·obtain ⟨bs,e,q⟩:=q;exact ⟨bs,e,k _ q⟩
 ·exact q.elim
theorem zrh:zhe c allF (fun vs H Q=>∃ (p:Addr) (bs:List Bool),vs = [.ref p]/\SqL c.K H p (bs.map V.bl)/\Q (.bl (bs.all id)) H):=by
 intro H G ds vs Q gh bx h0 rv q
 unfold allF at q
 split at q
 ·obtain ⟨bs,rfl,q⟩:=q
  obtain ⟨v,rfl,a,ws,rfl,ha,_,hw⟩:=zhY rv
  rw [reps_bools.mp hw] at ha
  exact ⟨a,bs,rfl,SqL.of (gh _ _ ha),q _ H G (Stp.refl gh bx) rfl⟩
 ·exact q.elim
theorem zrj:zhe c anyF (fun vs H Q=>∃ (p:Addr) (bs:List Bool),vs = [.ref p]/\SqL c.K H p (bs.map V.bl)/\Q (.bl (bs.any id)) H):=by
 intro H G ds vs Q gh bx h0 rv q
 unfold anyF at q
 split at q
 ·obtain ⟨bs,rfl,q⟩:=q
  obtain ⟨v,rfl,a,ws,rfl,ha,_,hw⟩:=zhY rv
  rw [reps_bools.mp hw] at ha
  exact ⟨a,bs,rfl,SqL.of (gh _ _ ha),q _ H G (Stp.refl gh bx) rfl⟩
 ·exact q.elim
theorem zqq (hR:DA X c [e] R) (hg:Gl X "all" := by rfl) (he:starEach [e] X.env = (false,eval e X.env) :: starEach [] X.env:=by rfl) (hK:c.K = X.K:=by rfl) (hcalm:X.calm = true:=by rfl) (hm:X.mg "all" = none:=by decreasing_trivial):DE X c (.Call (.Name "all" p) [e] [] pos) (cbW allF R):=
 zi9 ztv (zll hcalm) (hK ▸ zrh) hm PyProof.Rows.boot_all hR hg (by decide) (by decide) he rfl
theorem zs0 (hR:DA X c [e] R) (hg:Gl X "any" := by rfl) (he:starEach [e] X.env = (false,eval e X.env) :: starEach [] X.env:=by rfl) (hK:c.K = X.K:=by rfl) (hcalm:X.calm = true:=by rfl) (hm:X.mg "any" = none:=by decreasing_trivial):DE X c (.Call (.Name "any" p) [e] [] pos) (cbW anyF R):=
 zi9 ztB (zmp hcalm) (hK ▸ zrj) hm PyProof.Rows.boot_any hR hg (by decide) (by decide) he rfl
def isiB (T:String):D->Option Bool
 | .non=>some false
 | .bl _=>some (T == "bool" || T == "int")
 | .int _=>some (T == "int")
 | .str _=>some (T == "str")
 | .tup _=>some (T == "tuple")
 | .lst _ _=>some (T == "list")
 | .box=>none
 | .obj _=>none
 | .dct _ _ _=>none
 | .fdc _ _=>none
def isiW (T:String) (A:WE):WE:=fun ρ Q=>A ρ fun d=>match isiB T d with | some b=>Q (.bl b) | none=>False
theorem zpl   (hT:T = "list" \/ T = "tuple" \/ T = "int" \/ T = "bool" \/ T = "str") (gh:Same G H) (h:Rep c G d v) (e:isiB T d = some k):IsI c.K H v T k:=by
 cases d with
 | non=>cases h;rcases hT with rfl | rfl | rfl | rfl | rfl <;> cases e <;> constructor
 | bl b=>cases h;rcases hT with rfl | rfl | rfl | rfl | rfl <;> cases e <;> constructor
 | int b=>cases h;rcases hT with rfl | rfl | rfl | rfl | rfl <;> cases e <;> constructor
 | str b=>cases h;rcases hT with rfl | rfl | rfl | rfl | rfl <;> cases e <;> constructor
 | tup xs=>
  obtain ⟨a,vs,rfl,h1,_⟩:=h
  have q:=za0 gh h1
  rcases hT with rfl | rfl | rfl | rfl | rfl <;> cases e
  ·exact .tuple_list _ _ q
  ·exact .tuple_tuple _ _ q
  ·exact .tuple_int _ _ q
  ·exact .tuple_bool _ _ q
  ·exact .tuple_str _ _ q
 | lst n xs=>
  obtain ⟨a,vs,rfl,h1,_⟩:=h
  have q:SqL c.K H a vs:=SqL.of (gh _ _ h1)
  rcases hT with rfl | rfl | rfl | rfl | rfl <;> cases e
  ·exact .list_list _ _ q
  ·exact .list_tuple _ _ q
  ·exact .list_int _ _ q
  ·exact .list_bool _ _ q
  ·exact .list_str _ _ q
 | box=>cases e
 | obj a=>cases e
 | dct n ks xs=>cases e
 | fdc ks xs=>cases e
theorem zeD  (hA:DE X c e A) (hg:Gl X "isinstance" := by rfl) (hg2:Gl X x:=by rfl) (hn:x ≠ "__name__" := by decide) (hd:(x == ("__debug__" : Str)) = false:=by decide) (he:starEach [e,.Name x p'] X.env = (false,eval e X.env) :: starEach [.Name x p'] X.env:=by rfl) (hK:c.K = X.K:=by rfl) (hT:T = "list" \/ T = "tuple" \/ T = "int" \/ T = "bool" \/ T = "str" := by decreasing_trivial) (hm:X.mg "isinstance" = none:=by decreasing_trivial) (hm2:X.mg x = none:=by decreasing_trivial) (hbt:bootBuiltins x = some (.type T):=by decreasing_trivial) :
  DE X c (.Call (.Name "isinstance" p) [e,.Name x p'] [] pos) (isiW T A) where
 mono:=fun ρ Q Q' k q=>hA.mono ρ _ _ (fun d z=>by
  revert z
  cases isiB T d with
  | none=>exact id
  | some b=>exact k _) q
 pe:=zan (zdW znt hg hm PyProof.Rows.boot_isinstance (zav hA.pe (zav (zlf (v:=.ty T) hg2 hm2 hbt rfl hn hd) za1) he) (by decide) (by decide) he rfl) fun σ H Q ⟨ρ,G,r,q⟩=>⟨ρ,G,r,hA.mono ρ _ _ (fun d z v H' G' t e=>by
  revert z
  cases hk:isiB T d with
  | none=>exact False.elim
  | some b=>exact fun z=>⟨v,T,b,rfl,hK ▸ zpl hT t.gh e hk,z _ H' G' t rfl⟩) q⟩
abbrev Fn:=List D->(D->Prop)->Prop
def up (F:Fn):Fn:=fun ds Q=>∃ P:D->Prop,F ds P/\∀ d,P d->Q d
theorem zbt (F:Fn):zdA (up F):=fun ds Q Q' k ⟨P,h1,h2⟩=>⟨P,h1,fun d z=>k d (h2 d z)⟩
def spD (K:PySem.W.Frag) (n:Nat) (F:Fn):Sp:=fun vs H Q _=>∃ β G ds,Same G H/\BoxD β H G/\Reps ⟨K,β,fun _=>none,G,True⟩ G ds vs/\vs.length = n/\up F ds fun d=>∀ v H' G',Stp β H G H' G'->Rep ⟨K,β,H,G,True⟩ G' d v->Q v H'
structure Cal (P:Program) (w:World) (K:PySem.W.Frag) (mg:Str->Option Value) (base:Heap) (x:Str) (k:Nat) (ps:List Str) (sp:Sp):Prop where
 ex:∃ f fd,FnOk P w K mg base CX0 k f fd ps sp/\mg x = some (.ref f)/\PySem.W.keepIn K (.ref f) = true/\Binds K fd ps []
theorem Cal.of       (F:Fun K x qual st f fd) (G:FnOk P w K mg base CX0 k f fd ps sp) (hm:mg x = some (.ref f)) (hb:Binds K fd ps []):Cal P w K mg base x k ps sp:=
 ⟨f,fd,G,hm,F.kp,hb⟩
@[reducible] def zas (n:Nat) (F:Fn) (R:WL):WE:=fun ρ Q=>R ρ fun ds=>ds.length = n/\up F ds Q
theorem zat   (C:Cal X.prog X.w X.K X.mg X.base x k ps (spD X.K n F)) (hR:DA X c (e :: es) R) (hg:Gl X x:=by rfl)
  (hdb:(x == ("__debug__" : Str)) = false:=by decide) (he:starEach (e :: es) X.env = (false,eval e X.env) :: starEach es X.env:=by rfl) (hpl:(backTo pos (starEach es X.env)).any (·.1) = false:=by rfl) (hK:c.K = X.K:=by rfl) (hr:Room k X.A:=by decreasing_trivial) :
  DE X c (.Call (.Name x p) (e :: es) [] pos) (zas n F R) where
 mono:=fun ρ Q Q' k q=>hR.mono ρ _ _ (fun ds z=>⟨z.1,zbt F ds _ _ k z.2⟩) q
 pe:=by
  obtain ⟨f,fd,FO,hm,hk,hb⟩:=C.ex
  refine zan (zda FO hr hg hm hk hb .nil zjf hR.pa hdb he hpl) fun σ H Q ⟨ρ,G,r,q⟩=>⟨ρ,G,r,hR.mono ρ _ _ (fun ds z vs H' G' t e=>?_) q⟩
  show spD X.K n F (vs ++ []) H' Q E0
  rw [YAS]
  exact ⟨c.β,G',ds,t.gh,t.bx,Reps.back (c':=c) (c:=⟨X.K,c.β,fun _=>none,G',True⟩) hK rfl (fun _ _=>rfl) e,by rw [<- e.length];exact z.1,
   zbt F ds _ _ (fun d z v H2 G2 t2 e2=>z v H2 G2 (t.trans t2) (Rep.back (c':=⟨X.K,c.β,H',G',True⟩) (c:=c) hK.symm rfl (fun a h=>r.new0 (t.free h)) e2)) z.2⟩
end
mutual
inductive Tg where
 | nm (i:Nat)
 | tp (n:Nat) (ts:Tgs)
inductive Tgs where
 | nil
 | cons (t:Tg) (ts:Tgs)
end
mutual
def gOf (K:PySem.W.Frag):Tg->TG
 | .nm i=>zhG i
 | .tp n ts=>gSeq K n (gsOf K ts)
def gsOf (K:PySem.W.Frag):Tgs->TGs
 | .nil=>gNil
 | .cons t ts=>znB (gOf K t) (gsOf K ts)
end
mutual
def gD:Tg->D->Env->(Env->Prop)->Prop
 | .nm i,d,ρ,Q=>Q (ρ.set i (.val d))
 | .tp n ts,.tup ds,ρ,Q=>ds.length = n/\gDs ts ds ρ Q
 | .tp n ts,.lst _ ds,ρ,Q=>ds.length = n/\gDs ts ds ρ Q
 | .tp _ _,_,_,_=>False
def gDs:Tgs->List D->Env->(Env->Prop)->Prop
 | .nil,[],ρ,Q=>Q ρ
 | .cons t ts,d :: ds,ρ,Q=>gD t d ρ fun ρ'=>gDs ts ds ρ' Q
 | _,_,_,_=>False
end
mutual
theorem zbG:∀ (t:Tg) (d:D) (ρ:Env) {Q Q':Env->Prop},(∀ ρ,Q ρ->Q' ρ)->gD t d ρ Q->gD t d ρ Q'
 | .nm i,d,ρ,Q,Q',k,q=>by unfold gD at q ⊢;exact k _ q
 | .tp n ts,.tup ds,ρ,Q,Q',k,q=>by unfold gD at q ⊢;exact ⟨q.1,zhc ts ds ρ k q.2⟩
 | .tp _ _,.non,_,_,_,_,q=>by unfold gD at q;exact q.elim
 | .tp _ _,.bl _,_,_,_,_,q=>by unfold gD at q;exact q.elim
 | .tp _ _,.int _,_,_,_,_,q=>by unfold gD at q;exact q.elim
 | .tp _ _,.str _,_,_,_,_,q=>by unfold gD at q;exact q.elim
 | .tp n ts,.lst _ ds,ρ,Q,Q',k,q=>by unfold gD at q ⊢;exact ⟨q.1,zhc ts ds ρ k q.2⟩
 | .tp _ _,.box,_,_,_,_,q=>by unfold gD at q;exact q.elim
 | .tp _ _,.obj _,_,_,_,_,q=>by unfold gD at q;exact q.elim
 | .tp _ _,.dct _ _ _,_,_,_,_,q=>by unfold gD at q;exact q.elim
 | .tp _ _,.fdc _ _,_,_,_,_,q=>by unfold gD at q;exact q.elim
theorem zhc:∀ (ts:Tgs) (ds:List D) (ρ:Env) {Q Q':Env->Prop},(∀ ρ,Q ρ->Q' ρ)->gDs ts ds ρ Q->gDs ts ds ρ Q'
 | .nil,[],ρ,Q,Q',k,q=>by unfold gDs at q ⊢;exact k _ q
 | .cons t ts,d :: ds,ρ,Q,Q',k,q=>by unfold gDs at q ⊢;exact zbG t d ρ (fun ρ' z=>zhc ts ds ρ' k z) q
 | .nil,_ :: _,_,_,_,_,q=>by unfold gDs at q;exact q.elim
 | .cons _ _,[],_,_,_,_,q=>by unfold gDs at q;exact q.elim
end
mutual
theorem zeV  : ∀ (t:Tg) (d:D) (v:V) (ρ:Env) (σ:St) {Q:St->Hp->Prop},Rel c ρ σ H G->Rep c G d v->gD t d ρ (fun ρ'=>∀ σ',Rel c ρ' σ' H G->Q σ' H)->gOf c.K t v σ H Q
 | .nm i,d,v,ρ,σ,Q,r,e,q=>by unfold gD at q;unfold gOf;exact q _ (r.put e)
 | .tp n ts,.tup ds,v,ρ,σ,Q,r,e,q=>by
  unfold gD at q;unfold gOf
  obtain ⟨a,vs,rfl,ha,hv⟩:=e
  exact ⟨a,vs,rfl,.inl (za0 r.gh ha),by rw [<- hv.length];exact q.1,zg1 ts ds vs ρ σ r hv q.2⟩
 | .tp _ _,.non,_,_,_,_,_,_,q=>by unfold gD at q;exact q.elim
 | .tp _ _,.bl _,_,_,_,_,_,_,q=>by unfold gD at q;exact q.elim
 | .tp _ _,.int _,_,_,_,_,_,_,q=>by unfold gD at q;exact q.elim
 | .tp _ _,.str _,_,_,_,_,_,_,q=>by unfold gD at q;exact q.elim
 | .tp n ts,.lst m ds,v,ρ,σ,Q,r,e,q=>by
  unfold gD at q;unfold gOf
  obtain ⟨a,vs,rfl,ha,_,hv⟩:=e
  exact ⟨a,vs,rfl,.inr (SqL.of (r.gh _ _ ha)),by rw [<- hv.length];exact q.1,zg1 ts ds vs ρ σ r hv q.2⟩
 | .tp _ _,.box,_,_,_,_,_,_,q=>by unfold gD at q;exact q.elim
 | .tp _ _,.obj _,_,_,_,_,_,_,q=>by unfold gD at q;exact q.elim
 | .tp _ _,.dct _ _ _,_,_,_,_,_,_,q=>by unfold gD at q;exact q.elim
 | .tp _ _,.fdc _ _,_,_,_,_,_,_,q=>by unfold gD at q;exact q.elim
theorem zg1  : ∀ (ts:Tgs) (ds:List D) (vs:List V) (ρ:Env) (σ:St) {Q:St->Hp->Prop},Rel c ρ σ H G->Reps c G ds vs->gDs ts ds ρ (fun ρ'=>∀ σ',Rel c ρ' σ' H G->Q σ' H)->gsOf c.K ts vs σ H Q
 | .nil,[],vs,ρ,σ,Q,r,e,q=>by unfold gDs at q;unfold gsOf;exact ⟨e,q _ r⟩
 | .cons t ts,d :: ds,vs,ρ,σ,Q,r,e,q=>by
  unfold gDs at q;unfold gsOf
  obtain ⟨v,ws,rfl,e1,e2⟩:=e
  exact ⟨v,ws,rfl,zeV t d v ρ σ r e1 (zbG t d ρ (fun ρ' z σ' r'=>zg1 ts ds ws ρ' σ' r' e2 z) q)⟩
 | .nil,_ :: _,_,_,_,_,_,_,q=>by unfold gDs at q;exact q.elim
 | .cons _ _,[],_,_,_,_,_,_,q=>by unfold gDs at q;exact q.elim
end
structure En where
 nx:Env->Prop
 rt:D->Prop
 bk:Env->Prop
 ct:Env->Prop
abbrev WS:=En->Env->Prop
structure En.Le (E E':En):Prop where
 nx:∀ ρ,E.nx ρ->E'.nx ρ
 rt:∀ d,E.rt d->E'.rt d
 bk:∀ ρ,E.bk ρ->E'.bk ρ
 ct:∀ ρ,E.ct ρ->E'.ct ρ
def zmP (W:WS):Prop:=∀ E E' ρ,En.Le E E'->W E ρ->W E' ρ
def ends (c:Bk) (G:Hp) (Ds:Ends):En where
 nx:=fun ρ=>∀ σ H' G',Rel c ρ σ H' G'->Same G G'->Ds.nx σ H'
 rt:=fun d=>∀ v H' G',Stp c.β c.H0 c.G0 H' G'->Rep c G' d v->Ds.rt v H'
 bk:=fun ρ=>∀ σ H' G',Rel c ρ σ H' G'->Same G G'->Ds.bk σ H'
 ct:=fun ρ=>∀ σ H' G',Rel c ρ σ H' G'->Same G G'->Ds.ct σ H'
theorem zf7  (s:Same G G1):En.Le (ends c G Ds) (ends c G1 Ds):=
 ⟨fun ρ h σ H' G' r s'=>h σ H' G' r (s.trans s'),fun d h=>h,fun ρ h σ H' G' r s'=>h σ H' G' r (s.trans s'),fun ρ h σ H' G' r s'=>h σ H' G' r (s.trans s')⟩
def tDS (c:Bk) (W:WS):TS:=fun Ds σ H=>∃ ρ G,Rel c ρ σ H G/\W (ends c G Ds) ρ
structure DS (X:Cx) (c:Bk) (st:Stmt) (W:WS):Prop where
 mono:zmP W
 ps:PS X st (tDS c W)
structure DSs (X:Cx) (c:Bk) (sts:List Stmt) (W:WS):Prop where
 mono:zmP W
 pss:PSs X sts (tDS c W)
section
variable {X:Cx} {c:Bk} {st:Stmt} {rest:List Stmt} {pos p p':Pos} {e:Expr}
theorem zbp (h:PS X st t) (k:∀ D σ H,t' D σ H->t D σ H):PS X st t':=fun pins s σ H D I q=>h pins s σ H D I (k D σ H q)
theorem zeG (h:PSs X rest t) (k:∀ D σ H,t' D σ H->t D σ H):PSs X rest t':=fun pins s σ H D I q=>h pins s σ H D I (k D σ H q)
@[reducible] def nilS:WS:=fun E ρ=>E.nx ρ
@[reducible] def seqW (A B:WS):WS:=fun E ρ=>A { E with nx:=B E } ρ
theorem zba:DSs X c [] nilS:=⟨fun E E' ρ l q=>l.nx _ q,zeG zfw fun D σ H ⟨ρ,G,r,q⟩=>q σ H G r (Same.refl _)⟩
theorem zah (h1:DS X c st A) (h2:DSs X c rest B):DSs X c (st :: rest) (seqW A B) where
 mono:=fun E E' ρ l q=>h1.mono { E with nx:=B E } _ ρ ⟨fun ρ' z=>h2.mono _ _ ρ' l z,l.rt,l.bk,l.ct⟩ q
 pss:=zeG (zaJ h1.ps h2.pss) fun D σ H ⟨ρ,G,r,q⟩=>⟨ρ,G,r,h1.mono { ends c G D with nx:=B (ends c G D) } _ ρ ⟨fun ρ' z σ' H' G' r' s'=>⟨ρ',G',r',h2.mono _ _ ρ' (zf7 s') z⟩,fun d z=>z,fun ρ' z=>z,fun ρ' z=>z⟩ q⟩
theorem zal (h1:DS X c st A):DSs X c [st] A:=⟨h1.mono,zdc h1.ps⟩
def frz (i:Nat) (ρ:Env):Env:=match ρ[i]? with | some (.own xs)=>ρ.set i (.val (.lst true xs)) | _=>ρ
@[reducible] def frzW (i:Nat) (A:WS):WS:=fun E ρ=>A E (frz i ρ)
theorem zqD  (r:Rel c ρ σ H G) (i:Nat):∃ G',Same G G'/\Rel c (frz i ρ) σ H G':=by
 unfold frz
 split
 ·rename_i xs e;exact r.freeze e
 ·exact ⟨G,Same.refl _,r⟩
theorem zqc (i:Nat) (h:DS X c st A):DS X c st (frzW i A) where
 mono:=fun E E' ρ l q=>h.mono E E' _ l q
 ps:=zbp h.ps fun D σ H ⟨ρ,G,r,q⟩=>by
  obtain ⟨G',s',r'⟩:=zqD r i
  exact ⟨frz i ρ,G',r',h.mono _ _ _ (zf7 s') q⟩
@[reducible] def ifS (C:WT) (A B:WS):WS:=fun E ρ=>C ρ fun b=>if b = true then A E ρ else B E ρ
theorem s_if  (hC:DT X c e C) (hA:DSs X c a A) (hB:DSs X c b B):DS X c (.If e a b pos) (ifS C A B) where
 mono:=fun E E' ρ l q=>hC.mono ρ _ _ (fun b z=>by
  cases b
  ·exact hB.mono _ _ ρ l z
  ·exact hA.mono _ _ ρ l z) q
 ps:=zbp (zkw hC.pt hA.pss hB.pss) fun D σ H ⟨ρ,G,r,q⟩=>⟨ρ,G,r,hC.mono ρ _ _ (fun b z H' G' t=>by
  cases b
  ·exact ⟨ρ,G',r.step t,hB.mono _ _ ρ (zf7 t.gg) z⟩
  ·exact ⟨ρ,G',r.step t,hA.mono _ _ ρ (zf7 t.gg) z⟩) q⟩
@[reducible] def retW (A:WE):WS:=fun E ρ=>A ρ E.rt
theorem zao (hA:DE X c e A):DS X c (.Return (some e) pos) (retW A) where
 mono:=fun E E' ρ l q=>hA.mono ρ _ _ l.rt q
 ps:=zbp (ze2 hA.pe) fun D σ H ⟨ρ,G,r,q⟩=>⟨ρ,G,r,hA.mono ρ _ _ (fun d z v H' G' t e=>z v H' G' (r.stp.trans t) e) q⟩
@[reducible] def asgW (t:Tg) (A:WE):WS:=fun E ρ=>A ρ fun d=>gD t d ρ E.nx
theorem zke  (mA:zbE A) (D:Ends) (σ:St) (H:Hp) (h:tDS c (asgW t A) D σ H):tAsg (tD c A) (gOf c.K t) D σ H:=by
 obtain ⟨ρ,G,r,q⟩:=h
 exact ⟨ρ,G,r,mA ρ _ _ (fun d z v H' G' t1 e1=>zeV t d v ρ σ (r.step t1) e1 (zbG t d ρ (fun ρ' y σ' r'=>y σ' H' G' r' t1.gg) z)) q⟩
theorem zg7  (mA:zbE A):zmP (asgW t A):=fun E E' ρ l q=>mA ρ _ _ (fun d z=>zbG t d ρ l.nx z) q
theorem gn (i:Nat)  (hi:X.N[i]? = some x:=by rfl) (hx:Loc X.env.scope x:=by first | exact Or.inl rfl | exact Or.inr rfl) (hf:X.fn x = true\/X.env.scope.names.lookup x = some .local:=by first | exact .inl rfl | exact .inr rfl | assumption) (hN:X.N.Nodup:=by decreasing_trivial):PG X (.Name x p) (zhG i):=zqu hN hi hx hf
def ndB:List Str->Bool
 | []=>true
 | x :: l=>!l.elem x && ndB l
theorem ndB_of:∀ {l:List Str},ndB l = true->l.Nodup
 | [],_=>YCX
 | x :: l,h=>by
  unfold ndB at h
  have:=YCf.mp h
  refine YBk.mpr ⟨fun m=>?_,ndB_of this.2⟩
  rw [List.elem_iff.mpr m] at this
  exact absurd this.1 (by decide)
theorem za2 (i:Nat)  (hA:DE X c e A) (hi:X.N[i]? = some x:=by rfl) (hx:Loc X.env.scope x:=by first | exact Or.inl rfl | exact Or.inr rfl) (hs:swapsWith e (some (.Name x p)) pos.line X.env = pure false:=by rfl) (hf:X.fn x = true\/X.env.scope.names.lookup x = some .local:=by first | exact .inl rfl | exact .inr rfl | assumption) (hN:X.N.Nodup:=by decreasing_trivial):DS X c (.Assign [.Name x p] e pos) (asgW (.nm i) A):=
 ⟨zg7 hA.mono,zbp (zc3 hN hi hx hA.pe hs hf) fun D σ H h=>zke (t:=.nm i) hA.mono D σ H h⟩
theorem zmM (t:Tg)  (hA:DE X c e A) (hg:PG X tg (gOf c.K t)) (hs:swapsWithSole [tg] e pos.line X.env = pure false:=by rfl) (hw:swappedStores [tg] e X.env = pure none:=by rfl)
  (h1:(assignEach [tg] X.env).map (·.2) = [assign tg X.env]:=by rfl):DS X c (.Assign [tg] e pos) (asgW t A):=
 ⟨zg7 hA.mono,zbp (zin hA.pe hg hs hw h1) fun D σ H h=>zke hA.mono D σ H h⟩
@[reducible] def ownW (i:Nat) (F:WL):WS:=fun E ρ=>F ρ fun xs=>E.nx (ρ.set i (.own xs))
theorem zj8  (mF:zeQ F):zmP (ownW i F):=fun E E' ρ l q=>mF ρ _ _ (fun d z=>l.nx _ z) q
theorem zkl  (mF:zeQ F) (D:Ends) (σ:St) (H:Hp) (h:tDS c (ownW i F) D σ H):tAsg (tDf c F) (zhG i) D σ H:=by
 obtain ⟨ρ,G,r,q⟩:=h
 refine ⟨ρ,G,r,mF ρ _ _ (fun xs z l vs H' G' t hl hg h0 hv=>?_) q⟩
 refine z _ H' G' ((r.step t).putOwn hl hg (r.new0 h0) (r.neβ h0) hv fun j ys e1 e2=>?_) t.gg
 obtain ⟨a,vs',f1,f2,_⟩:=r.slot j _ e1
 rw [e2] at f1
 cases f1
 rw [h0] at f2;cases f2
theorem zpV (i:Nat)  (hF:DF X c e F) (hi:X.N[i]? = some x:=by rfl) (hx:Loc X.env.scope x:=by first | exact Or.inl rfl | exact Or.inr rfl) (hs:swapsWith e (some (.Name x p)) pos.line X.env = pure false:=by rfl) (hf:X.fn x = true\/X.env.scope.names.lookup x = some .local:=by first | exact .inl rfl | exact .inr rfl | assumption) (hN:X.N.Nodup:=by decreasing_trivial):DS X c (.Assign [.Name x p] e pos) (ownW i F):=
 ⟨zj8 hF.mono,zbp (zc3 hN hi hx hF.pe hs hf) fun D σ H h=>zkl hF.mono D σ H h⟩
def appW (i:Nat) (A:WE):WS:=fun E ρ=>match ρ[i]? with
 | some (.own xs)=>A ρ fun d=>xs.length < 100000/\E.nx (ρ.set i (.own (xs ++ [d])))
 | _=>False
theorem zrr (i:Nat)  (hA:DE X c e A) (hN:X.N[i]? = some x:=by rfl) (hv:Vis X.env.scope x:=by first | exact Or.inl rfl | exact Or.inr (Or.inl rfl) | exact Or.inr (Or.inr rfl))
  (hd:(x == ("__debug__" : Str)) = false:=by decide) (hcd:(x == ("__classdict__" : Str)) = false:=by decide)
  (hbase:attributeBase (.Name x p) "append" X.env (eval (.Name x p) X.env) = eval (.Name x p) X.env:=by rfl)
  (hfew:((backTo cpos (starEach [e] X.env)).all (fun x=>!x.1) && (backToKw cpos (keywordEach [] X.env)).all (fun x=>x.1.isSome)
   && decide (([e]:List Expr).length + ([]:List Keyword).length + (if ([]:List Keyword).isEmpty then 0 else 1) < 30)) = true:=by rfl)
  (hline:(apos.endLine == cpos.line) = true:=by rfl) (hs:starEach [e] X.env = (false,eval e X.env) :: starEach [] X.env:=by rfl)
  (hsw:swapsWith (.Call (.Attribute (.Name x p) "append" apos) [e] [] cpos) none pos.line X.env = pure false:=by rfl):DS X c (.Expr (.Call (.Attribute (.Name x p) "append" apos) [e] [] cpos) pos) (appW i A) where
 mono:=fun E E' ρ l q=>by
  unfold appW at q ⊢
  split at q
  ·exact hA.mono ρ _ _ (fun d z=>⟨z.1,l.nx _ z.2⟩) q
  ·exact q.elim
 ps:=zbp (zmf (zn9 YBU PySem.F.slot_list_append PySem.F.type_list_append zfr (zbe hN hv hd hcd) (zav hA.pe za1 hs) hbase hfew hline hs rfl) hsw) fun D σ H ⟨ρ,G,r,q⟩=>by
  unfold appW at q
  split at q
  ·rename_i xs ek
   obtain ⟨a,vs,h1,h2,h3,h4,h5,h6⟩:=r.slot i _ ek
   refine ⟨.ref a,h1,.inl ⟨rfl,vs,SqL.of h2⟩,ρ,G,r,hA.mono ρ _ _ (fun d z w H' G' t e=>?_) q⟩
   refine ⟨a,vs,w,rfl,rfl,t.fr a _ h5 h2,?_,?_⟩
   ·rw [<- h6.length];exact YAl z.1 (small5 (YAk _))
   ·exact z.2 _ _ G' ((r.step t).write ek h1 ((h6.mono t.gg).append (.one e))) t.gg
  ·exact q.elim
def ixS (xs:List D) (k:D) (Q:Nat->Prop):Prop:=match k with | .int j=>(match ixN xs.length j with | some m=>Q m | none=>False) | _=>False
theorem znU  (f:∀ m,Q m->Q' m) (q:ixS xs k Q):ixS xs k Q':=by
 unfold ixS at q ⊢
 split at q
 ·split at q
  ·exact f _ q
  ·exact q.elim
 ·exact q.elim
def putW (i:Nat) (I A:WE):WS:=fun E ρ=>match ρ[i]? with
 | some (.own xs)=>A ρ fun d=>I ρ fun k=>ixS xs k fun m=>E.nx (ρ.set i (.own (xs.set m d)))
 | _=>False
theorem ztx (i:Nat)   (hA:DE X c e A) (hI:DE X c ie I) (hN:X.N[i]? = some x:=by rfl) (hv:Vis X.env.scope x:=by first | exact Or.inl rfl | exact Or.inr (Or.inl rfl) | exact Or.inr (Or.inr rfl))
  (hd:(x == ("__debug__" : Str)) = false:=by decide) (hcd:(x == ("__classdict__" : Str)) = false:=by decide)
  (ha:∀ v,assign (.Subscript (.Name x p) ie tpos) X.env v = (do
   let ov <- holding [v] (eval (.Name x p) X.env)
   let iv <- holding [v,ov] (eval ie X.env)
   standAt tpos
   holding [v,ov,iv] (setItem ov iv v)
   release [v,ov,iv] []):=by intro _;rfl) (hs:swapsWithSole [.Subscript (.Name x p) ie tpos] e pos.line X.env = pure false:=by rfl) (hw:swappedStores [.Subscript (.Name x p) ie tpos] e X.env = pure none:=by rfl)
  (h1:(assignEach [.Subscript (.Name x p) ie tpos] X.env).map (·.2) = [assign (.Subscript (.Name x p) ie tpos) X.env]:=by rfl):DS X c (.Assign [.Subscript (.Name x p) ie tpos] e pos) (putW i I A) where
 mono:=fun E E' ρ l q=>by
  unfold putW at q ⊢
  split at q
  ·exact hA.mono ρ _ _ (fun d z=>hI.mono ρ _ _ (fun k y=>znU (fun m=>l.nx _) y) z) q
  ·exact q.elim
 ps:=zbp (zin hA.pe (zj7 (zbe hN hv hd hcd) hI.pe zdR ha) hs hw h1) fun D σ H ⟨ρ,G,r,q⟩=>by
  unfold putW at q
  split at q
  ·rename_i xs ek
   refine ⟨ρ,G,r,hA.mono ρ _ _ (fun d z v H1 G1 t1 e1=>?_) q⟩
   obtain ⟨a,vs,h1,h2,h3,h4,h5,h6⟩:=(r.step t1).slot i _ ek
   refine ⟨.ref a,h1,ρ,G1,r.step t1,hI.mono ρ _ _ (fun k y w H2 G2 t2 e2=>?_) z⟩
   unfold ixS at y
   split at y
   ·rename_i j
    split at y
    ·rename_i m em
     refine ⟨a,vs,j,m,rfl,e2,t2.fr a _ h5 h2,by rw [<- h6.length];exact em,?_⟩
     exact y σ _ G2 (((r.step t1).step t2).write ek h1 (Reps.set (e1.mono t2.gg) m (h6.mono t2.gg))) (t1.gg.trans t2.gg)
    ·exact y.elim
   ·exact y.elim
  ·exact q.elim
def intD (d:D) (Q:Int->Prop):Prop:=match d with | .int j=>Q j | _=>False
theorem zmR  (f:∀ m,Q m->Q' m) (q:intD d Q):intD d Q':=by
 cases d <;> first | exact f _ q | exact q
end
def ItOk (c:Bk) (J:It) (xs:List D) (G:Hp):Prop:=∀ (i:Nat) (H2 G2:Hp),Same G G2->Same G2 H2->BoxD c.β H2 G2->(∀ a,H2 a = none->c.H0 a = none) ->
 (i = xs.length->J.stop i H2)/\∀ d,xs[i]? = some d->J.go i H2/\∀ x H3,J.yld i H2 x H3->∃ G3,Stp c.β H2 G2 H3 G3/\Rep c G3 d x
def tDI (c:Bk) (I:WL):TI:=fun σ H R=>∃ ρ G,Rel c ρ σ H G/\I ρ fun xs=>∀ J H' G',Stp c.β H G H' G'->ItOk c J xs G'->R J H'
structure DI (X:Cx) (c:Bk) (tg iter:Expr) (I:WL):Prop where
 mono:zeQ I
 pi:PI X tg iter (tDI c I)
section
variable {X:Cx} {c:Bk} {tg e a b:Expr} {A B:WE} {pos p:Pos}
theorem zjB (h:PI X tg e wi) (k:∀ σ H R,wi' σ H R->wi σ H R):PI X tg e wi':=fun pins s σ H R I q=>h pins s σ H R I (k σ H R q)
theorem zpQ   (hl:G l = some (.lst vs)) (h:Reps c G xs vs):ItOk c (Itl c.K l) xs G:=by
 intro i H2 G2 s1 s2 bx h0
 have q:SqL c.K H2 l vs:=SqL.of (s2 _ _ (s1 _ _ hl))
 refine ⟨fun e=>⟨vs,q,by rw [e,h.length];exact YAk _⟩,fun d e=>?_⟩
 obtain ⟨v,e1,e2⟩:=h.get e
 refine ⟨⟨vs,v,q,e1⟩,fun x H3 y=>?_⟩
 obtain ⟨rfl,y⟩:=y
 have:=y vs q
 rw [e1] at this;cases this
 exact ⟨G2,Stp.refl s2 bx,e2.mono s1⟩
theorem zsk   (hl:SqT c.K G l vs) (h:Reps c G xs vs):ItOk c (Itt c.K l) xs G:=by
 intro i H2 G2 s1 s2 bx h0
 have q:SqT c.K H2 l vs:=za0 (s1.trans s2) hl
 refine ⟨fun e=>⟨vs,q,by rw [e,h.length];exact YAk _⟩,fun d e=>?_⟩
 obtain ⟨v,e1,e2⟩:=h.get e
 refine ⟨⟨vs,v,q,e1⟩,fun x H3 y=>?_⟩
 obtain ⟨rfl,y⟩:=y
 have:=y vs q
 rw [e1] at this;cases this
 exact ⟨G2,Stp.refl s2 bx,e2.mono s1⟩
def rngL (m:Int) (n:Nat):List D:=(List.range n).map fun (k:Nat)=>D.int (m + (k:Int))
theorem it_rng (m:Int) (n:Nat):ItOk c (Itr m n) (rngL m n) G:=by
 intro i H2 G2 s1 s2 bx h0
 refine ⟨fun e=>by show n <= i;unfold rngL at e;simp at e;omega,fun d e=>?_⟩
 unfold rngL at e
 rw [YAt] at e
 have hi:i < n:=by
  by_cases h:i < n
  ·exact h
  ·rw [List.getElem?_eq_none (by simp;omega)] at e;cases e
 rw [List.getElem?_range hi] at e
 cases e
 exact ⟨hi,fun x H3 ⟨y1,y2⟩=>⟨G2,by rw [y1];exact Stp.refl s2 bx,y2⟩⟩
def zfU (A:WE):WL:=fun ρ Q=>A ρ fun d=>match d with | .int n=>(-(2 ^ 62) <= n/\n < 2 ^ 62)/\Q (rngL 0 n.toNat) | _=>False
theorem zjO (hA:DE X c a A) (hg:Gl X "range" := by rfl) (hs:starEach [a] X.env = [(false,eval a X.env)]:=by rfl) (hm:X.mg "range" = none:=by decreasing_trivial):DI X c tg (.Call (.Name "range" p) [a] [] pos) (zfU A) where
 mono:=fun ρ Q Q' k q=>hA.mono ρ _ _ (fun d z=>by cases d <;> first | exact ⟨z.1,k _ z.2⟩ | exact z) q
 pi:=zjB (zmo hg hm (zav hA.pe za1 hs) hs) fun σ H R ⟨ρ,G,r,q⟩=>⟨ρ,G,r,hA.mono ρ _ _ (fun d z v H' G' t e=>by
  cases d with
  | int n=>exact ⟨n,by cases e;rfl,z.1.1,z.1.2,z.2 _ H' G' t (it_rng 0 _)⟩
  | _=>exact z.elim) q⟩
def zipL:List D->List D->List D
 | x :: xs,y :: ys=>.tup [x,y] :: zipL xs ys
 | _,_=>[]
theorem zjv:∀ {xs ys:List D} {i:Nat} {d:D},(zipL xs ys)[i]? = some d->∃ x y,xs[i]? = some x/\ys[i]? = some y/\d = .tup [x,y]
 | x :: xs,y :: ys,0,d,e=>by simp [zipL] at e;exact ⟨x,y,rfl,rfl,e.symm⟩
 | x :: xs,y :: ys,i + 1,d,e=>by simp [zipL] at e;simpa using zjv e
 | [],_,_,_,e=>by simp [zipL] at e
 | _ :: _,[],_,_,e=>by simp [zipL] at e
theorem zjp:∀ (xs ys:List D),(zipL xs ys).length = min xs.length ys.length
 | [],_=>by simp [zipL]
 | _ :: _,[]=>by simp [zipL]
 | x :: xs,y :: ys=>by simp [zipL,zjp xs ys]
end
def zdU (t:Tg) (B:WS) (E:En):List D->Env->Prop
 | [],ρ=>E.nx ρ
 | x :: xs,ρ=>gD t x ρ fun ρ'=>B { nx:=zdU t B E xs,ct:=zdU t B E xs,bk:=E.nx,rt:=E.rt } ρ'
@[reducible] def forW (I:WL) (t:Tg) (B:WS):WS:=fun E ρ=>I ρ fun xs=>zdU t B E xs ρ
theorem zfF  (mB:zmP B) (l:En.Le E E'):∀ (xs:List D) (ρ:Env),zdU t B E xs ρ->zdU t B E' xs ρ
 | [],ρ,q=>l.nx ρ q
 | x :: xs,ρ,q=>zbG t x ρ (fun ρ' z=>mB { nx:=zdU t B E xs,ct:=zdU t B E xs,bk:=E.nx,rt:=E.rt } _ ρ' ⟨zfF mB l xs,l.rt,l.nx,zfF mB l xs⟩ z) q
section
variable {X:Cx} {c:Bk} {tg iter e:Expr} {body:List Stmt} {pos p:Pos}
theorem zqO (t:Tg) (hI:DI X c tg iter I) (hg:PG X tg (gOf c.K t)) (hB:DSs X c body B) (hp:PassesOwn (model X.prog X.w) X.A X.env X.xe:=by exact PassesOwn.never) (hc:X.calm = true:=by rfl) (hs:∀ x,foldedSetIterable iter X.env x = pure x:=by intro _;rfl) :
  DS X c (.For tg iter body [] pos) (forW I t B) where
 mono:=fun E E' ρ l q=>hI.mono ρ _ _ (fun xs z=>zfF hB.mono l xs ρ z) q
 ps:=zbp (zo4 hp hc hI.pi hg hB.pss hs) fun D σ H ⟨ρ,G,r,q⟩=>⟨ρ,G,r,hI.mono ρ _ _ (fun xs z J H1 G1 t1 it=>by
  refine ⟨fun i m σ H=>m = xs.length - i/\i <= xs.length/\∃ ρ' G',Rel c ρ' σ H G'/\Same G1 G'/\zdU t B (ends c G D) (xs.drop i) ρ',⟨xs.length,rfl,YBy _,ρ,G1,r.step t1,Same.refl _,z⟩,?_⟩
  rintro i m σ' H' ⟨rfl,hi,ρ',G',r',s',q'⟩
  have ok:=it i H' G' s' r'.gh r'.bx (fun a z=>r'.new0 z)
  by_cases hlt:i < xs.length
  ·refine .inr ?_
   have ed:xs.drop i = xs[i] :: xs.drop (i + 1):=YBw hlt
   rw [ed] at q'
   obtain ⟨go,yl⟩:=ok.2 xs[i] (YAn hlt)
   refine ⟨go,fun σ H=>∃ ρ' G',Rel c ρ' σ H G'/\Same G1 G'/\zdU t B (ends c G D) (xs.drop (i + 1)) ρ',fun σ2 H2 h=>⟨xs.length - (i + 1),by omega,rfl,by omega,h⟩,fun x H3 y=>?_⟩
   obtain ⟨G3,t3,e3⟩:=yl x H3 y
   refine zeV t xs[i] x ρ' σ' (r'.step t3) e3 (zbG t xs[i] ρ' (fun ρ2 z2 σ2 r2=>?_) q')
   refine ⟨ρ2,G3,r2,hB.mono { nx:=zdU t B (ends c G D) (xs.drop (i + 1)),ct:=zdU t B (ends c G D) (xs.drop (i + 1)),bk:=(ends c G D).nx,rt:=(ends c G D).rt } _ ρ2 ⟨fun ρ3 z3 σ3 H4 G4 r4 s4=>⟨ρ3,G4,r4,(s'.trans t3.gg).trans s4,z3⟩,fun d z=>z,fun ρ3 z3 σ3 H4 G4 r4 s4=>z3 σ3 H4 G4 r4 (((t1.gg.trans s').trans t3.gg).trans s4),fun ρ3 z3 σ3 H4 G4 r4 s4=>⟨ρ3,G4,r4,(s'.trans t3.gg).trans s4,z3⟩⟩ z2⟩
  ·have e:i = xs.length:=by omega
   subst e
   rw [YCL] at q'
   exact .inl ⟨ok.1 rfl,q' σ' H' G' r' (t1.gg.trans s')⟩) q⟩
def zaw (n:Nat) (ds:List D):Env:=ds.map (fun d=>Sl.val d.old) ++ List.replicate (n - ds.length) .un
def fnW (n:Nat) (B:WS):Fn:=fun ds Q=>B { nx:=fun _=>Q .non,rt:=Q,bk:=fun _=>False,ct:=fun _=>False } (zaw n ds)
theorem zcN    (gh:Same G H) (bx:BoxD β H G) (h:Reps ⟨K,β,fun _=>none,G,True⟩ G ds vs):Rel ⟨K,β,H,G,True⟩ (zaw N.length ds) (L2.zcV N vs) H G:=by
 have noOwn:∀ (i:Nat) xs,(zaw N.length ds)[i]? ≠ some (.own xs):=fun i xs e=>by
  unfold zaw at e
  by_cases hi:i < ds.length
  ·rw [YA9 (by simpa using hi),YAt,YAn hi] at e;cases e
  ·rw [YBK (by simpa using hi),YBg] at e
   split at e <;> cases e
 refine ⟨by unfold zaw L2.zcV;simp [h.length],Stp.refl gh bx,fun i s e=>?_,fun i j a xs ys e1=>absurd e1 (noOwn i xs),trivial⟩
 unfold zaw at e
 by_cases hi:i < ds.length
 ·rw [YA9 (by simpa using hi),YAt] at e
  obtain ⟨v,e1,e2⟩:=h.get (YAn hi)
  rw [YAn hi] at e
  cases e
  refine ⟨v,?_,Rep.hand (c:=⟨K,β,fun _=>none,G,True⟩) (c':=⟨K,β,H,G,True⟩) rfl rfl e2⟩
  unfold L2.zcV
  rw [YA9 (by rw [YAd,<- h.length];exact hi),YAt,e1];rfl
 ·rw [YBK (by simpa using hi),YBg] at e
  split at e <;> cases e
  trivial
theorem zcp       (F:Fun K x qual st f fd)
  (hB:∀ {cdv:Value} {A:Around} {outer:List PySem.Env} {s:Shared} {H:Hp} {E:XK} {β:Addr} {G:Hp},N.Nodup->Room k (A.deeper (PyProof.Rows.envOfC qual (zaj st) s.heap.objs.size f cdv)) ->
   DSs (cxOf CX0 P w K mg base N qual (zaj st) f cdv A outer s H E).nox ⟨K,β,H,G,True⟩ (zaX st) B) (S:FnScope N ps (zaj st):=by exact ⟨rfl,rfl,rfl,by decide +kernel,rfl,by decide +kernel,by decide +kernel⟩):FnOk P w K mg base CX0 (k + 1) f fd ps (spD K ps.length (fnW N.length B)):=by
 refine F.ok S (fun vs H Q E ⟨β,G,ds,_,_,_,h,_⟩=>h) (fun cdv A outer s H vs Q E hr ⟨β,G,ds,gh,bx,hv,hl,P',q,hP⟩=>?_)
 have h:=@hB cdv A outer s H E β G S.nd hr
 refine ⟨_,h.pss,zaw N.length ds,G,zcN gh bx hv,h.mono { nx:=fun _=>P' .non,rt:=P',bk:=fun _=>False,ct:=fun _=>False } _ _ ⟨fun ρ z σ H' G' r s'=>hP _ z .non H' G' r.stp rfl,fun d z v H' G' t e=>hP _ z v H' G' t e,fun ρ z=>z.elim,fun ρ z=>z.elim⟩ q⟩
end
section
variable {X:Cx} {c:Bk} {a b:Expr} {A B:WE} {pos p tpos:Pos} {es:List Expr}
end
def subE (sub:List (Option Nat)) (ρ:Env):Env:=sub.map fun o=>match o with
 | some j=>(match ρ[j]? with | some (.val d)=>.val d | _=>.un)
 | none=>.un
theorem znx   (sub:List (Option Nat)) (r:Rel c ρ σ H G):Rel c (subE sub ρ) (zc7 sub σ) H G:=by
 have noOwn:∀ (i:Nat) xs,(subE sub ρ)[i]? ≠ some (.own xs):=fun i xs e=>by
  unfold subE at e
  rw [YAt] at e
  cases h:sub[i]? with
  | none=>rw [h] at e;cases e
  | some o=>
   rw [h] at e
   cases o with
   | none=>cases e
   | some j=>
    simp only [YCR,YCC] at e
    split at e <;> cases e
 refine ⟨by unfold subE zc7;simp,r.stp,fun i s e=>?_,fun i j a xs ys e1=>absurd e1 (noOwn i xs),r.kn⟩
 unfold subE at e
 rw [YAt] at e
 cases h:sub[i]? with
 | none=>rw [h] at e;cases e
 | some o=>
  rw [h] at e
  cases o with
  | none=>cases e;trivial
  | some j=>
   simp only [YCR,YCC] at e
   split at e
   ·rename_i d hd
    subst e
    obtain ⟨v,h1,h2⟩:=r.slot j _ hd
    refine ⟨v,?_,h2⟩
    unfold zc7
    rw [YAt,h]
    show some ((σ[j]?).join) = _
    rw [h1];rfl
   ·subst e;trivial
mutual
def okT (sub:List (Option Nat)):Tg->Bool
 | .nm i=>decide (sub[i]? = some none)
 | .tp _ ts=>okTs sub ts
def okTs (sub:List (Option Nat)):Tgs->Bool
 | .nil=>true
 | .cons t ts=>okT sub t && okTs sub ts
end
mutual
theorem zkK (K:PySem.W.Frag):∀ t:Tg,zgR (gOf K t)
 | .nm i=>by unfold gOf;exact zp6
 | .tp n ts=>by unfold gOf;exact zrO (zmZ K ts)
theorem zmZ (K:PySem.W.Frag):∀ t:Tgs,zgt (gsOf K t)
 | .nil=>by unfold gsOf;exact zqi
 | .cons t ts=>by unfold gsOf;exact znp (zkK K t) (zmZ K ts)
end
mutual
theorem zmJ (K:PySem.W.Frag) (sub:List (Option Nat)):∀ t:Tg,okT sub t = true->zhB sub (gOf K t)
 | .nm i,h=>by unfold gOf;unfold okT at h;exact zpi (YAE h)
 | .tp n ts,h=>by unfold gOf;unfold okT at h;exact zrW (zoN K sub ts h)
theorem zoN (K:PySem.W.Frag) (sub:List (Option Nat)):∀ t:Tgs,okTs sub t = true->zh5 sub (gsOf K t)
 | .nil,_=>by unfold gsOf;exact zqk
 | .cons t ts,h=>by
  unfold gsOf
  unfold okTs at h
  have h':=(YAx _ _ ▸ h:okT sub t = true/\okTs sub ts = true)
  exact znD (zmJ K sub t h'.1) (zkK K t) (zoN K sub ts h'.2) (zmZ K ts)
end
def zcv (t:Tg) (C:WT) (E:WE) (ρc:Env) (Q:List D->Prop):List D->List D->Prop
 | [],acc=>Q acc
 | x :: xs,acc=>gD t x ρc fun ρ2=>C ρ2 fun b=>if b = true then E ρ2 fun d=>zcv t C E ρc Q xs (acc ++ [d]) else zcv t C E ρc Q xs acc
theorem zey  (mC:zga C) (mE:zbE E)  (k:∀ xs,Q xs->Q' xs):∀ xs acc,zcv t C E ρc Q xs acc->zcv t C E ρc Q' xs acc
 | [],acc,q=>k _ q
 | x :: xs,acc,q=>zbG t x ρc (fun ρ2 z=>mC ρ2 _ _ (fun b z=>by
  cases b
  ·exact zey mC mE k xs acc z
  ·exact mE ρ2 _ _ (fun d z=>zey mC mE k xs _ z) z) z) q
@[reducible] def zay (sub:List (Option Nat)) (I:WL) (t:Tg) (C:WT) (E:WE):WL:=fun ρ Q=>I ρ fun xs=>xs.length <= 100000/\zcv t C E (subE sub ρ) Q xs []
theorem zdn   (mI:zeQ I) (mC:zga C) (mE:zbE E):zeQ (zay sub I t C E):=fun ρ Q Q' k q=>mI ρ _ _ (fun xs z=>⟨z.1,zey mC mE k xs [] z.2⟩) q
theorem Stp.wr  (s:Stp β H G H' G')  (h0:H l = none) (hg:G' l = none) (hb:l ≠ β):Stp β H G (upd H' l o) G':=
 ⟨s.gg,fun a u e=>by rw [upd_ne (fun z=>by rw [z,hg] at e;cases e)];exact s.gh a u e,fun a u n e=>by rw [upd_ne (fun z=>by rw [z,h0] at e;cases e)];exact s.fr a u n e,s.nw,
 ⟨by obtain ⟨cc,p,r,d,ns,h,q⟩:=s.bx.ex;exact ⟨cc,p,r,d,ns,by rw [upd_ne (YAH hb)];exact h,q⟩,s.bx.still⟩,s.b0,fun cc p r d h=>by
  obtain ⟨p',r',d',e⟩:=s.bc cc p r d h
  exact ⟨p',r',d',by rw [upd_ne (YAH hb)];exact e⟩⟩
theorem Stp.still_none  (s:Stp β H G H' G')  (h:H l = some o) (hg:G l = none) (hs:¬ zef o:=by exact id):G' l = none:=by
 cases e:G' l with
 | none=>rfl
 | some u=>
  rcases s.nw l (by rw [e];simp) with z | z | ⟨o',z,st⟩
  ·exact absurd hg z
  ·rw [h] at z;cases z
  ·rw [h] at z;cases z;exact absurd st hs
theorem zeg    (mI:zeQ I) (mC:zga C) (mE:zbE E) (σ:St) (H:Hp) (Q:VK) (h:tDf c (zay sub I t C E) σ H Q) :
  zkf sub (tDI c I) (gOf c.K t) (tDt c C) (tD c E) σ H Q:=by
 obtain ⟨ρ,G,r,q⟩:=h
 refine ⟨ρ,G,r,mI ρ _ _ (fun xs ⟨hz,z⟩ J H1 G1 t1 it l hl=>?_) q⟩
 have hb:l ≠ c.β:=(r.step t1).neβ hl
 have hg1:G1 l = none:=zak t1.gh hl
 refine ⟨fun i m ys H2=>m = xs.length - i/\i <= xs.length/\ys.length <= i/\H2 l = some (.lst ys)/\∃ G2 acc,Stp c.β H1 G1 H2 G2/\G2 l = none/\Reps c G2 acc ys /\
  zcv t C E (subE sub ρ) (fun ds=>∀ l vs H' G',Stp c.β H G H' G'->H' l = some (.lst vs)->G' l = none->H l = none->Reps c G' ds vs->Q (.ref l) H') (xs.drop i) acc,
  ⟨xs.length,rfl,YBy _,YAk _,zae,G1,[],Stp.own t1.gh t1.bx hl,hg1,rfl,z⟩,?_⟩
 rintro i m ys H2 ⟨rfl,hi,hyl,h2,G2,acc,t2,hg2,hv,q2⟩
 refine ⟨h2,?_⟩
 have r2:=(r.step t1).step t2
 have ok:=it i H2 G2 t2.gg t2.gh t2.bx (fun a z=>r2.new0 z)
 by_cases hlt:i < xs.length
 ·refine .inr ?_
  rw [YBw hlt] at q2
  obtain ⟨go,yl⟩:=ok.2 xs[i] (YAn hlt)
  refine ⟨go,fun ys' H3=>ys'.length <= i + 1/\H3 l = some (.lst ys')/\∃ G3 acc',Stp c.β H1 G1 H3 G3/\G3 l = none/\Reps c G3 acc' ys'/\zcv t C E (subE sub ρ) (fun ds=>∀ l vs H' G',Stp c.β H G H' G'->H' l = some (.lst vs)->G' l = none->H l = none->Reps c G' ds vs->Q (.ref l) H') (xs.drop (i + 1)) acc',
   fun ys' H3 ⟨a1,a2,a3⟩=>⟨xs.length - (i + 1),by omega,rfl,by omega,a1,a2,a3⟩,fun x H3 y=>?_⟩
  obtain ⟨G3,t3,e3⟩:=yl x H3 y
  have h3:H3 l = some (.lst ys):=t3.fr l _ hb h2
  have hg3:G3 l = none:=t3.still_none h2 hg2
  have t13:=t2.trans t3
  refine zeV t xs[i] x (subE sub ρ) (zc7 sub σ) (znx sub ((r.step t1).step t13)) e3 (zbG t xs[i] _ (fun ρ2 z2 σ2 rr=>?_) q2)
  refine ⟨ρ2,G3,rr,mC ρ2 _ _ (fun b z3 H4 G4 t4=>?_) z2⟩
  have h4:H4 l = some (.lst ys):=t4.fr l _ hb h3
  have hg4:G4 l = none:=t4.still_none h3 hg3
  have t14:=t13.trans t4
  cases b
  ·exact ⟨Nat.le_succ_of_le hyl,h4,G4,acc,t14,hg4,(hv.mono t3.gg).mono t4.gg,z3⟩
  ·refine ⟨ρ2,G4,rr.step t4,mE ρ2 _ _ (fun d z4 y H5 G5 t5 e5=>?_) z3⟩
   have h5:H5 l = some (.lst ys):=t5.fr l _ hb h4
   have hg5:G5 l = none:=t5.still_none h4 hg4
   refine ⟨h5,?_,by rw [YAs];exact Nat.add_le_add_right hyl 1,zae,G5,acc ++ [d],(t14.trans t5).wr hl hg5 hb,hg5,(((hv.mono t3.gg).mono t4.gg).mono t5.gg).append (.one e5),z4⟩
   have:=small5 (YAk 100000)
   omega
 ·have e:i = xs.length:=by omega
  subst e
  rw [YCL] at q2
  exact .inl ⟨ok.1 rfl,q2 l ys H2 G2 (t1.trans t2) h2 hg2 (t1.free hl) hv⟩
structure DIf (X:Cx) (c:Bk) (ifs:List Expr) (C:WT):Prop where
 mono:zga C
 pf:PIfs X ifs (tDt c C)
@[reducible] def noIf:WT:=fun _ Q=>Q true
section
variable {X:Cx} {c:Bk} {tg iter elt e:Expr} {ifs:List Expr} {scope:Scope} {pos p spos:Pos} {Nc:List Str} {sub:List (Option Nat)} {I:WL} {C:WT} {E:WE}
theorem zcH:DIf X c [] noIf:=⟨fun ρ Q Q' k q=>k _ q,fun pins s σ H Q I ⟨ρ,G,r,q⟩=>pif0 pins s σ H Q I (q H G r.refl)⟩
theorem zdD (h:DT X c e C):DIf X c [e] C:=⟨h.mono,pif1 h.pt⟩
theorem zbj (t:Tg) (hI:DI X c tg iter I) (hg:∀ {cl L s0 H0 ex},PG (zaz X Nc scope cl L s0 H0 ex) tg (gOf c.K t)) (hC:∀ {cl L s0 H0 ex},DIf (zaz X Nc scope cl L s0 H0 ex) c ifs C) (hE:∀ {cl L s0 H0 ex},DE (zaz X Nc scope cl L s0 H0 ex) c elt E)
  (hS:zgz X.N X.env.scope scope Nc sub = true:=by kernel_rfl) (hok:okT sub t = true:=by decide +kernel) (hc:X.calm = true:=by rfl) (hs:∀ x,foldedSetIterable iter X.env x = pure x:=by intro _;rfl) :
  DF X c (.ListComp elt [⟨tg,iter,ifs,0⟩] scope pos) (zay sub I t C E):=
 have mC:=(@hC [] 0 X.s₀ (fun _=>none) []).mono
 have mE:=(@hE [] 0 X.s₀ (fun _=>none) []).mono
 ⟨zdn hI.mono mC mE,zan (zof hc (CompScope.of hS) hI.pi (fun cl L s0 H0 ex=>@hg cl L s0 H0 ex) (zmJ c.K sub t hok) (zkK c.K t) (fun cl L s0 H0 ex=>(@hC cl L s0 H0 ex).pf) (fun cl L s0 H0 ex=>(@hE cl L s0 H0 ex).pe) hs) (zeg hI.mono mC mE)⟩
theorem zl9 (i:Nat) (t:Tg) (hI:DI X c tg iter I) (hg:∀ {cl L s0 H0 ex},PG (zaz X Nc scope cl L s0 H0 ex) tg (gOf c.K t)) (hC:∀ {cl L s0 H0 ex},DIf (zaz X Nc scope cl L s0 H0 ex) c ifs C) (hE:∀ {cl L s0 H0 ex},DE (zaz X Nc scope cl L s0 H0 ex) c elt E) (hi:X.N[i]? = some x:=by rfl) (hy:X.env.scope.names.lookup x = some .local:=by rfl) (hS:zgz X.N X.env.scope scope Nc sub = true:=by kernel_rfl) (hok:okT sub t = true:=by decide +kernel) (hc:X.calm = true:=by rfl) (hsw:swapsWith (.ListComp elt [⟨tg,iter,ifs,0⟩] scope pos) (some (.Name x p)) spos.line X.env = pure true:=by rfl) (hs:∀ x,foldedSetIterable iter X.env x = pure x:=by intro _;rfl) (hN:X.N.Nodup:=by decreasing_trivial) :
  DS X c (.Assign [.Name x p] (.ListComp elt [⟨tg,iter,ifs,0⟩] scope pos) spos) (asgW (.nm i) (valW (zay sub I t C E))):=by
 have mC:=(@hC [] 0 X.s₀ (fun _=>none) []).mono
 have mE:=(@hE [] 0 X.s₀ (fun _=>none) []).mono
 have mL:=zdn (sub:=sub) (t:=t) hI.mono mC mE
 have mV:zbE (valW (zay sub I t C E)):=fun ρ Q Q' k q=>mL ρ _ _ (fun xs z=>k _ z) q
 refine ⟨zg7 mV,zbp (zlO hc hN hi hy (CompScope.of hS) hI.pi (fun cl L s0 H0 ex=>@hg cl L s0 H0 ex) (zmJ c.K sub t hok) (zkK c.K t) (fun cl L s0 H0 ex=>(@hC cl L s0 H0 ex).pf) (fun cl L s0 H0 ex=>(@hE cl L s0 H0 ex).pe) hsw hs) fun D σ H ⟨ρ,G,r,q⟩=>?_⟩
 refine zeg hI.mono mC mE σ H _ ⟨ρ,G,r,mL ρ _ _ (fun xs z l vs H' G' t hl hg h0 hv=>?_) q⟩
 have hb:=r.neβ h0
 exact z (σ.set i (some (.ref l))) H' (upd G' l (.lst vs)) ((r.step (t.still hl h0 hb hg)).put ⟨l,vs,rfl,zae,fun _=>r.new0 h0,hv.mono (zbU hg)⟩) (t.gg.trans (zbU hg))
theorem zrJ (i:Nat) (t:Tg) (hI:DI X c tg iter I) (hg:∀ {cl L s0 H0 ex},PG (zaz X Nc scope cl L s0 H0 ex) tg (gOf c.K t)) (hC:∀ {cl L s0 H0 ex},DIf (zaz X Nc scope cl L s0 H0 ex) c ifs C) (hE:∀ {cl L s0 H0 ex},DE (zaz X Nc scope cl L s0 H0 ex) c elt E) (hi:X.N[i]? = some x:=by rfl) (hy:X.env.scope.names.lookup x = some .local:=by rfl) (hS:zgz X.N X.env.scope scope Nc sub = true:=by kernel_rfl) (hok:okT sub t = true:=by decide +kernel) (hc:X.calm = true:=by rfl) (hsw:swapsWith (.ListComp elt [⟨tg,iter,ifs,0⟩] scope pos) (some (.Name x p)) spos.line X.env = pure true:=by rfl) (hs:∀ x,foldedSetIterable iter X.env x = pure x:=by intro _;rfl) (hN:X.N.Nodup:=by decreasing_trivial) :
  DS X c (.Assign [.Name x p] (.ListComp elt [⟨tg,iter,ifs,0⟩] scope pos) spos) (ownW i (zay sub I t C E)):=by
 have mC:=(@hC [] 0 X.s₀ (fun _=>none) []).mono
 have mE:=(@hE [] 0 X.s₀ (fun _=>none) []).mono
 have mL:=zdn (sub:=sub) (t:=t) hI.mono mC mE
 refine ⟨zj8 mL,zbp (zlO hc hN hi hy (CompScope.of hS) hI.pi (fun cl L s0 H0 ex=>@hg cl L s0 H0 ex) (zmJ c.K sub t hok) (zkK c.K t) (fun cl L s0 H0 ex=>(@hC cl L s0 H0 ex).pf) (fun cl L s0 H0 ex=>(@hE cl L s0 H0 ex).pe) hsw hs) fun D σ H h=>?_⟩
 exact zeg hI.mono mC mE σ H _ (zkl mL D σ H h)
end
section
variable {X:Cx} {c:Bk} {tg iter tg2 iter2 elt e:Expr} {ifs:List Expr} {scope:Scope} {pos p spos:Pos} {Nc:List Str} {sub:List (Option Nat)} {I I2:WL} {C:WT} {E:WE}
end
structure Bt (mg:Str->Option Value):Prop where
 list:mg "list" = none
 len:mg "len" = none
 range:mg "range" = none
 all:mg "all" = none
 any:mg "any" = none
 isinstance:mg "isinstance" = none
 tuple:mg "tuple" = none
 bool:mg "bool" = none
 int:mg "int" = none
 str:mg "str" = none
 sorted:mg "sorted" = none
 set:mg "set" = none
 zip:mg "zip" = none
 enumerate:mg "enumerate" = none
 min:mg "min" = none
 max:mg "max" = none
def zai:Fn
 | [.box,.int m],Q=>(0 < m/\m < 2 ^ 64)/\∀ x:Int,0 <= x->x < m->Q (.int x)
 | _,_=>False
end Fd
namespace Fen
open PySem L2
def Ext (b:Addr) (H H':Hp):Prop:=∀ a o,a ≠ b->H a = some o->H' a = some o
theorem Ext.refl (b:Addr) (H:Hp):Ext b H H:=fun _ _ _ h=>h
theorem Ext.trans  (x:Ext b H H1) (y:Ext b H1 H2):Ext b H H2:=fun a o n h=>y a o n (x a o n h)
theorem Ext.upd  : Ext b H (upd H b o):=fun a _ n h=>by rw [upd_ne n];exact h
def boxV (c:Addr) (p r d:Int):HO:=.lst [.ref c,.int p,.int r,.int d]
structure Box (H:Hp) (b c:Addr) (ns:List Int):Prop where
 ex:∃ p r d:Int,H b = some (boxV c p r d)/\0 <= p/\0 <= r/\0 <= d/\d < 2147483629
 cells:H c = some (.lst (ns.map V.int))
 few:ns.length <= 63
theorem Box.ne  (x:Box H b c ns):b ≠ c:=fun z=>by
 obtain ⟨p,r,d,e,_⟩:=x.ex
 have q:=x.cells
 rw [<- z,e] at q
 have q':([V.ref c,.int p,.int r,.int d]:List V) = ns.map V.int:=by injection q with q;injection q
 cases ns with
 | nil=>cases q'
 | cons n r=>simp at q'
theorem Box.put  (x:Box H b c ns) (hp:0 <= p) (hr:0 <= r) (h0:0 <= d) (h1:d < 2147483629):Box (upd H b (boxV c p r d)) b c ns:=
 ⟨⟨p,r,d,zae,hp,hr,h0,h1⟩,by rw [upd_ne x.ne.symm];exact x.cells,x.few⟩
def zpk (K:PySem.W.Frag):Sp:=fun vs H Q _=>∃ (a:Addr) (ns:List Int),vs = [.ref a]/\SqL K H a (ns.map V.int)/\ns.length <= 63/\∀ b c H',H b = none->Box H' b c ns->Same H H'->Q (.ref b) H'
def zsA:Sp:=fun vs H Q _=>∃ (b c:Addr) (ns:List Int) (m:Int),vs = [.ref b,.int m]/\Box H b c ns/\0 < m/\m < 2 ^ 64/\∀ (x:Int) H',0 <= x->x < m->Box H' b c ns->Ext b H H'->Q (.int x) H'
structure Txt (K:PySem.W.Frag) (mg:Str->Option Value):Prop where
 list:mg "list" = none
 len:mg "len" = none
 range:mg "range" = none
theorem ztu {ns:List Int} (h:ns.length <= 63):cutV (ns.map V.int) none (some 63) = ns.map V.int:=by
 unfold cutV
 have e:HT.sIx (ns.map V.int).length (ns.map V.int).length (some 63) = ns.length:=by
  rw [show (63:Int) = ((63:Nat):Int) from rfl,HT.sIx_nat,YAd];omega
 rw [e,HT.sIx_none,List.drop_zero,Nat.sub_zero]
 exact List.take_of_length_le (by simp)
end Fen
namespace L2
open PySem PySem.Spec PyProof.Rows
section
variable {X:Cx}
theorem zib:∀ l:List (Str × Tok),Vals ((l.map (·.1)).map V.str) (strValues l)
 | []=>.nil
 | p :: l=>.cons ⟨p.2,rfl⟩ (zib l)
theorem zhD:∀ {ts:List Str} {us:List Value},Vals (ts.map V.str) us->∃ l:List (Str × Tok),l.map (·.1) = ts/\us = strValues l
 | [],_,.nil=>⟨[],rfl,rfl⟩
 | t :: ts,_,.cons ⟨k,e⟩ r=>by
  subst e
  obtain ⟨l,h1,h2⟩:=zhD r
  exact ⟨(t,k) :: l,by simp [h1],by subst h2;rfl⟩
def zoP:V->List V->Hp->VK->Prop:=fun x xs H Q=>∃ a b,x = .str a/\xs = [.str b]/\b.length ≠ 0/\a.length <= 100000/\∀ p,H p = none->Q (.ref p) (upd H p (.lst ((Txt.split a b).map V.str)))
theorem zn6:MtR X "str.split" zoP:=by
 intro pins s σ H x xs v us Q I rx rv h
 obtain ⟨a,b,rfl,rfl,hb,ha,q⟩:=h
 obtain ⟨t,rfl⟩:=rx
 obtain ⟨u,rfl,t2,rfl⟩:=zeI rv
 have hz:(Txt.split a b).length <= sizeLine:=by
  have:=split_le a b
  rw [YAO];omega
 have ha':a.length <= sizeLine:=by rw [YAO];omega
 have hy:(b.length == 0) = false:=by simp [hb]
 have fin:∀ (l:List (Str × Tok)) (k:Nat),l.map (·.1) = Txt.split a b->EP X pins σ Q (.ref s.heap.objs.size) { s with heap:=s.heap.push { cls:=.type "list",data:=.seq (strValues l).toArray },toks:=k }:=fun l k e=>
  ⟨.ref _,_,I.lnew (its:=strValues l) (t':=k) (zib l) (by rw [e,YAd];exact hz),rfl,by rw [e];exact q _ I.fresh⟩
 cases h1:(decide (a.length < b.length) || decide (Builtin.Str.strKind a < Builtin.Str.strKind b))
 ·cases hf:(Builtin.Str.occurrences a b 0 a.length (a.length + 1)).isEmpty
  ·have e:Txt.split a b = Builtin.Str.partsBetween a (Builtin.Str.occurrences a b 0 a.length (a.length + 1)) b.length:=(if_neg (YCo h1)).trans (if_neg (YCo hf))
   refine YCh YCM (YCy _ _ _) YCD (YCr _ _) (meets_str_split_sep a b t t2 h1 hy hf ha' (by rw [<- e];exact hz)) ?_
   rw [strsFrom_eq]
   exact fin _ _ ((numbered_texts _ _).trans e.symm)
  ·exact YCh YCM (YCy _ _ _) YCD (YCr _ _) (meets_str_split_not_found a b t t2 h1 hy hf)
    (fin [(a,t)] s.toks ((if_neg (YCo h1)).trans (if_pos hf)).symm)
 ·exact YCh YCM (YCy _ _ _) YCD (YCr _ _) (meets_str_split_cannot_occur a b t t2 h1)
   (fin [(a,t)] s.toks (if_pos h1).symm)
def zrE (K:PySem.W.Frag):V->List V->Hp->VK->Prop:=fun x xs H Q=>∃ a p ts,x = .str a/\xs = [.ref p]/\SqL K H p (ts.map V.str)/\(∀ t ∈ ts,t.length <= 2000)/\ts.length <= 2000/\a.length <= 1000/\Q (.str (Str.join a ts)) H
theorem zpB:MtR X "str.join" (zrE X.K):=by
 intro pins s σ H x xs v us Q I rx rv h
 obtain ⟨a,p,ts,rfl,rfl,hl,h1,h2,h3,q⟩:=h
 obtain ⟨t,rfl⟩:=rx
 obtain ⟨u,rfl,ru⟩:=zeI rv
 cases ru
 obtain ⟨its,rv,pl,_⟩:=I.list hl
 obtain ⟨l,e1,e2⟩:=zhD rv
 subst e2
 refine SC.join pl.isList e1 ?_ fun t' k=>?_
 ·have:=YCu h2 (YAk 2000)
  have:=YCu h2 h3
  unfold JoinOk;rw [StrLaws.joinFits (B:=2000) h1 (by omega)];rfl
 ·rw [show Txt.join a ts = Str.join a ts from StrLaws.glued_eq_join a ts]
  exact ⟨.str _,H,I.tok k,⟨t',rfl⟩,q⟩
theorem ziu:CallR X (.type "int") (fun xs H Q=>∃ x n,xs = [.str x]/\x.length <= 640/\PySem.intText? x = some n/\Q (.int n) H):=by
 intro pins s σ H xs us Q I r h
 obtain ⟨x,n,rfl,hz,hn,q⟩:=h
 obtain ⟨u,rfl,t,rfl⟩:=zeI r
 exact PySem.W.KIN.call_text hn hz ⟨.int n,H,I.tok _,⟨_,rfl⟩,q⟩
def Its (x:Str):It:=⟨fun i _=>i < x.length,fun i H v H'=>H' = H/\∃ c,x.cps[i]? = some c/\v = .str ⟨#[c]⟩,fun i _=>x.length <= i⟩
theorem zos {P:Program} {w:World} {K:PySem.W.Frag} {tg:Expr} (x:Str) (t:Tok) (ty:String) (hty:ty = "str_ascii_iterator" \/ ty = "str_iterator") (it:Addr):Turn P w K tg (Its x) [it] it (fun i h=>h.IsStrIter it ty x t i) where
 mem:=by simp
 obj:=fun i h st b hb=>by
  have e:b = it:=by simpa using hb
  subst e
  obtain ⟨o,e,c,d⟩:=st
  exact ⟨o,e,fun v z=>by rw [d] at z;cases z⟩
 keep:=fun i h h' ⟨o,e,r⟩ k=>⟨o,k it (by simp) o e,r⟩
 item:=by
  intro X hP hw hK hc i pins s σ H E I hf st hg
  subst hP hw hK
  have hg:i < x.length:=hg
  obtain ⟨f0,f1,f2,f3,f4,f5⟩:=hf it (by simp)
  have hx:x.cps[i]? = some x.cps[i]:=YBb hg
  have fin:∀ h',h'.IsStrIter it ty x t (i + 1)->Heap.SameBut it s.heap h'->∃ u,some (Value.str ⟨#[x.cps[i]]⟩ s.toks) = some u /\
   wpAny (model X.prog X.w) X.A (letOwnedTupleGo tg (.ref it) u) (fun _ s2=>∃ x' H',Inv X pins σ H' s2/\RelV x' u/\(Its x).yld i H x' H'/\s2.heap.IsStrIter it ty x t (i + 1)/\∀ b ∈ [it],H' b = none) E { s with heap:=h',toks:=s.toks + 1 }:=fun h' st' sb=>by
   have I1:Inv X pins σ H { s with heap:=h',toks:=s.toks + 1 }:=I.turned (t':=s.toks + 1) (fun b o hb e=>(sb.2 b hb).trans e) f0 f1 f3 f4 f5
   obtain ⟨o,e,c,d⟩:=id st'
   exact ⟨_,rfl,zkI (s:={ s with heap:=h',toks:=s.toks + 1 }) e c d (by rcases hty with rfl | rfl <;> decide) ⟨.str _,H,I1,⟨_,rfl⟩,⟨rfl,_,hx,rfl⟩,st',fun b hb=>(hf b hb).1⟩⟩
  rcases hty with rfl | rfl
  ·exact wpAny_pyNext_ascii_item st hx fin
  ·exact wpAny_pyNext_wide_item st hx fin
 done:=by
  intro X hP hw hK hc i pins s σ H E I hf st hg
  subst hP hw hK
  have hg:x.length <= i:=hg
  obtain ⟨f0,f1,f2,f3,f4,f5⟩:=hf it (by simp)
  have hx:x.cps[i]? = none:=Array.getElem?_eq_none hg
  rcases hty with rfl | rfl
  ·exact wpAny_pyNext_ascii_end (I.ok.hd hc) st hx fun h' eb=>⟨rfl,I.turned (t':=s.toks) (fun b o hb e=>eb b o hb e) f0 f1 f3 f4 f5⟩
  ·exact wpAny_pyNext_wide_end (I.ok.hd hc) st hx fun h' eb=>⟨rfl,I.turned (t':=s.toks) (fun b o hb e=>eb b o hb e) f0 f1 f3 f4 f5⟩
 self:=fun _ _ _ _ _ st h=>by
  rcases hty with rfl | rfl
  ·exact wpAny_pyIter_striter_ascii st h
  ·exact wpAny_pyIter_striter_wide st h
def cutS (z:Str) (lo hi:Option Int):Str:=⟨((z.cps.toList.drop (HT.sIx z.length 0 lo)).take (HT.sIx z.length z.length hi - HT.sIx z.length 0 lo)).toArray⟩
theorem zkk (n:Nat):∀ (o:Option Int) (d:Nat),d <= n->(∀ v,o = some v->v <= n\/0 <= v)->HT.sIx n d o <= n
 | none,_,h,_=>h
 | some v,_,_,_=>by
  show (if v < 0 then (v + (n:Int)).toNat else min v.toNat n) <= n
  split <;> omega
theorem zmm (n d:Nat) (o:Option Int) (hd:d <= n):(match o with | none=>(d:Int) | some i=>max 0 (min (if i < 0 then i + (n:Int) else i) (n:Int))) = (HT.sIx n d o:Int):=by
 cases o with
 | none=>rfl
 | some v=>
  show max 0 (min (if v < 0 then v + (n:Int) else v) (n:Int)) = ((if v < 0 then (v + (n:Int)).toNat else min v.toNat n:Nat):Int)
  split <;> omega
theorem zm0 (n:Nat) (lo hi:Option Int):Builtin.Str.strSliceIndices lo hi 1 n = sliceRange (HT.sIx n 0 lo:Int) (HT.sIx n n hi:Int) 1:=by
 have a:=zmm n 0 lo (YBy _)
 have b:=zmm n n hi (YAk _)
 unfold Builtin.Str.strSliceIndices
 simp only [show (1:Int) > 0 from by decide,YCs]
 rw [<- a,<- b]
 rfl
theorem zmt (z:Str) (lo hi:Option Int):Txt.slice z lo hi = cutS z lo hi:=by
 have ha:HT.sIx z.length 0 lo <= z.length:=zkk _ _ _ (YBy _) fun v _=>by omega
 have hb:HT.sIx z.length z.length hi <= z.length:=zkk _ _ _ (YAk _) fun v _=>by omega
 unfold cutS
 by_cases h:HT.sIx z.length 0 lo <= HT.sIx z.length z.length hi
 ·have q:=StrLaws.sliceText_nat z h hb
  rw [<- q]
  have e:Builtin.Str.strSliceIndices lo hi 1 z.length = Builtin.Str.strSliceIndices (some (HT.sIx z.length 0 lo:Int)) (some (HT.sIx z.length z.length hi:Int)) 1 z.length:=by
   rw [zm0,zm0,HT.sIx_nat,HT.sIx_nat,Nat.min_eq_left ha,Nat.min_eq_left hb]
  show StrLaws.sliceText z lo hi = _
  unfold StrLaws.sliceText
  rw [e]
 ·have e:Builtin.Str.strSliceIndices lo hi 1 z.length = []:=by
   rw [zm0]
   unfold sliceRange
   simp only [show (1:Int) > 0 from by decide,YCs]
   rw [if_neg (by omega)]
   rfl
  have t:(HT.sIx z.length z.length hi - HT.sIx z.length 0 lo) = 0:=by omega
  rw [t,List.take_zero]
  show StrLaws.sliceText z lo hi = _
  unfold StrLaws.sliceText
  rw [e]
  have nz:z.length ≠ 0:=by omega
  simp [YAH nz]
def rSlS:V->Option Int->Option Int->Hp->VK->Prop:=fun x lo hi H Q=>∃ z,x = .str z/\z.length <= 100000/\Q (.str (cutS z lo hi)) H
theorem zmr {v:Value} {o:Option Int} (h:IsPart v o):∃ l:Option (Int × Tok),v = partValue l/\l.map (·.1) = o:=by
 cases h with
 | none=>exact ⟨none,rfl,rfl⟩
 | int i t=>exact ⟨some (i,t),rfl,rfl⟩
theorem zra:SlR X rSlS:=by
 intro pins s σ H x v vl vu lo hi sl Q I rx hs pl pu h
 obtain ⟨z,rfl,hz,q⟩:=h
 obtain ⟨t,rfl⟩:=rx
 obtain ⟨l,rfl,rfl⟩:=zmr pl
 obtain ⟨u,rfl,rfl⟩:=zmr pu
 refine ⟨"str",_,F.slot_str_getitem.lookup,YCy _ _ _,wpAny_getItem_str_slice (l:=l) (u:=u) (st:=none) hs rfl (post_val_or_str ⟨?_,fun t' k=>?_⟩)⟩
 ·exact YAF (Txt.slice_le z _ _) (by rw [YAO];omega)
 ·exact ⟨.str _,H,I.tok k,⟨t',rfl⟩,by rw [<- zmt] at q;exact q⟩
end
def Itx (tp tq:Bool) (K:PySem.W.Frag) (a b:Addr):It:=
 ⟨fun i H=>∃ xs ys x y,SQ tp K H a xs/\SQ tq K H b ys/\xs[i]? = some x/\ys[i]? = some y,
 fun i H v H'=>∃ t x y,H t = none/\v = .ref t/\H' = upd H t (.tup [x,y])/\(∀ xs,SQ tp K H a xs->xs[i]? = some x)/\∀ ys,SQ tq K H b ys->ys[i]? = some y,
 fun i H=>∃ xs ys,SQ tp K H a xs/\SQ tq K H b ys/\i = min xs.length ys.length⟩
def ZTx (tp tq:Bool) (z c d i j a b:Addr) (k:Nat) (h:Heap):Prop:=IsZip h z c d .none/\IsPair h c (.ref i) (.ref j)/\(∃ u v,IsPair h d u v)/\SIt tp h i a k/\SIt tq h j b k
theorem zmv {P:Program} {w:World} {K:PySem.W.Frag} {es:List Expr} {x1:_} {pos:Pos} {tp tq:Bool} {z c d i j a b:Addr} (Z:ZAp z c d i j [i,a] [j,b]) (na:a ≠ i) (nb:b ≠ j) :
  Turn P w K (.Tuple es x1 pos) (Itx tp tq K a b) [z,c,d,i,j] z (ZTx tp tq z c d i j a b) where
 mem:=by simp
 obj:=fun k h st e he=>by
  obtain ⟨h1,h2,⟨u,v,h3⟩,h4,h5⟩:=st
  simp only [YAr,YAw,YB3] at he
  rcases he with rfl | rfl | rfl | rfl | rfl
  ·exact ⟨_,h1,fun v q=>by cases q⟩
  ·exact ⟨_,h2,fun v q=>by cases q⟩
  ·exact ⟨_,h3,fun v q=>by cases q⟩
  ·exact h4.obj
  ·exact h5.obj
 keep:=fun k h h' st q=>by
  obtain ⟨h1,h2,⟨u,v,h3⟩,h4,h5⟩:=st
  exact ⟨q z (by simp) _ h1,q c (by simp) _ h2,⟨u,v,q d (by simp) _ h3⟩,h4.keep fun o e=>q i (by simp) o e,h5.keep fun o e=>q j (by simp) o e⟩
 item:=by
  intro X hP hw hK hc k pins s σ H E I hf st hg
  subst hP hw hK
  obtain ⟨xs,ys,x,y,qa,qb,ex,ey⟩:=hg
  obtain ⟨ia,ra,ca,za⟩:=I.sq qa
  obtain ⟨ib,rb,cb,zb⟩:=I.sq qb
  obtain ⟨h1,h2,⟨u,v,h3⟩,h4,h5⟩:=st
  have hh:X.A.in1.handled = none:=I.ok.hd hc
  obtain ⟨ux,eux,rux⟩:=ra.get ex
  obtain ⟨uy,euy,ruy⟩:=rb.get ey
  have k1:k < ia.toArray.size:=by simpa using (YAe.mp eux).1
  have k2:k < ib.toArray.size:=by simpa using (YAe.mp euy).1
  refine zfZ Z (zhL tp hh i a na ia.toArray) (zhL tq hh j b nb ib.toArray) h1 h2 h3 ⟨h4,ca⟩ ⟨h5,cb⟩ k1 k2 fun vx vy h' tk t px py ht g1 g2 g3 g4 g5 kk=>⟨_,rfl,?_⟩
  have ev:vx = ux:=by rw [List.getElem?_toArray,eux] at px;exact (Option.some.inj px).symm
  have ew:vy = uy:=by rw [List.getElem?_toArray,euy] at py;exact (Option.some.inj py).symm
  subst ev ew
  refine wpAny_letOwnedTupleGo_zip g1 fun h'' z' sb=>?_
  have tz:t ≠ z:=fun q=>by rw [q] at ht;exact absurd (YAg h1) (by rw [ht];exact YA3 _)
  have hn:H t = none:=I.hok.fresh (by rw [ht];exact YAk _)
  have kp:∀ b u,b ∉ [z,c,d,i,j]->s.heap.get? b = some u->h''.get? b = some u:=fun b u hb e=>by
   simp only [YAr,YAw,YB3,not_or] at hb
   exact sb.extBut b u hb.1 (kk b u hb.1 hb.2.2.1 hb.2.2.2.1 hb.2.2.2.2 e)
  have I1:Inv X pins σ (upd H t (.tup [x,y])) { s with heap:=h'',toks:=tk }:=I.turnedLaid (ch:=[z,c,d,i,j]) kp hf (by rw [ht];exact YAk _)
   ⟨by show 2 <= sizeLine;decide,[vx,vy],.cons rux (.cons ruy .nil),⟨_,sb.extBut _ _ tz g5,rfl,_,rfl⟩⟩
  refine ⟨.ref t,_,I1,rfl,⟨t,x,y,hn,rfl,rfl,fun xs' q=>by rw [I.sq_inj q qa];exact ex,fun ys' q=>by rw [I.sq_inj q qb];exact ey⟩,?_,fun e he=>?_⟩
  ·exact ⟨z',sb.extBut _ _ Z.az (kk _ _ Z.az Z.ab Z.ai Z.aj h2),⟨_,_,sb.extBut _ _ Z.bz g2⟩,g3.1.keep fun o e=>sb.extBut _ _ Z.iz e,g4.1.keep fun o e=>sb.extBut _ _ Z.jz e⟩
  ·have hlt:e < s.heap.objs.size:=by
    simp only [YAr,YAw,YB3] at he
    rcases he with rfl | rfl | rfl | rfl | rfl
    ·exact YAg h1
    ·exact YAg h2
    ·exact YAg h3
    ·obtain ⟨o,q,_⟩:=h4.obj;exact YAg q
    ·obtain ⟨o,q,_⟩:=h5.obj;exact YAg q
   rw [upd_ne (YAp (by rw [ht];exact hlt))]
   exact (hf e he).1
 done:=by
  intro X hP hw hK hc k pins s σ H E I hf st hg
  obtain ⟨xs,ys,qa,qb,hx⟩:=hg
  subst hP hw hK
  obtain ⟨ia,ra,ca,za⟩:=I.sq qa
  obtain ⟨ib,rb,cb,zb⟩:=I.sq qb
  obtain ⟨h1,h2,⟨u,v,h3⟩,h4,h5⟩:=st
  have hh:X.A.in1.handled = none:=I.ok.hd hc
  have l1:=ra.length
  have l2:=rb.length
  by_cases hle:xs.length <= ys.length
  ·have hk:k = ia.toArray.size:=by simp;omega
   subst hk
   refine zfR Z (zhL tp hh i a na ia.toArray) h1 h2 ⟨h4,ca⟩ fun h' kk=>⟨rfl,?_⟩
   exact I.turnedAll (t':=s.toks) (ch:=[z,c,d,i,j]) (fun b u hb e=>by
    simp only [YAr,YAw,YB3,not_or] at hb
    exact kk b u hb.1 hb.2.2.1 hb.2.2.2.1 hb.2.2.2.2 e) hf
  ·have hk:k = ib.toArray.size:=by simp;omega
   subst hk
   refine ze8 Z (zhL tp hh i a na ia.toArray) (zhL tq hh j b nb ib.toArray) h1 h2 h3 ⟨h4,ca⟩ ⟨h5,cb⟩ (by simp;omega) fun h' tk kk=>⟨rfl,?_⟩
   exact I.turnedAll (t':=tk) (ch:=[z,c,d,i,j]) (fun b u hb e=>by
    simp only [YAr,YAw,YB3,not_or] at hb
    exact kk b u hb.1 hb.2.2.1 hb.2.2.2.1 hb.2.2.2.2 e) hf
 self:=fun _ _ _ _ _ st h=>wpAny_pyIter_zip st.1 h
def itN (tp:Bool):String:=match tp with | true => "tuple_iterator" | false => "list_iterator"
abbrev xza (tp:Bool) (h:Heap) (l:Addr):Heap:=h.push { cls:=.type (itN tp),data:=.fields #[.ref l,.int 0 0] }
abbrev xzb (tp tq:Bool) (h:Heap) (l m:Addr):Heap:=xza tq (xza tp h l) m
abbrev xzc (tp tq:Bool) (h:Heap) (l m:Addr):Heap:=(xzb tp tq h l m).push { cls:=.type "tuple",data:=.seq #[.ref h.objs.size,.ref (xza tp h l).objs.size] }
abbrev xzd (tp tq:Bool) (h:Heap) (l m:Addr):Heap:=(xzc tp tq h l m).push { cls:=.type "tuple",data:=.seq #[.none,.none] }
abbrev xze (tp tq:Bool) (h:Heap) (l m:Addr):Heap:=(xzd tp tq h l m).push { cls:=.type "zip",data:=.fields #[.none,.bool false,.bool false,.ref (xzb tp tq h l m).objs.size,.ref (xzc tp tq h l m).objs.size] }
theorem zsh {P:Program} {w:World} {A:Around} {E:Value->Shared->Prop} {s:Shared} {tp:Bool} {l:Addr} {xs:Array Value} {Q:Value->Shared->Prop} (h:SCn tp s.heap l xs) (q:Q (.ref s.heap.objs.size) { s with heap:=xza tp s.heap l }):wpAny (model P w) A (pyIter (.ref l)) Q E s:=by
 cases tp
 ·exact YBJ h q
 ·exact wpAny_pyIter_tuple h q
theorem SCn.push {tp:Bool} {h:Heap} {l:Addr} {xs:Array Value} (x:SCn tp h l xs) (o:Obj):SCn tp (h.push o) l xs:=by
 cases tp
 ·exact Heap.IsList.push x o
 ·exact Heap.IsTuple.push x o
theorem zkp (tp tq:Bool) (l m:Addr) (xs ys:Array Value) :
  Meets (Builtin.«zip.__new__» ⟨[.type "zip",.ref l,.ref m],[]⟩) (fun _ R s=>SCn tp s.heap l xs/\SCn tq s.heap m ys/\R (.ok (.ret (.ref (xzd tp tq s.heap l m).objs.size))) { s with heap:=xze tp tq s.heap l m }):=
 .of_wp fun prog w A R s h=>by
  obtain ⟨hp,g,d,tk,os⟩:=s
  obtain ⟨hl,hm,h⟩:=h
  have hsub:=sub_zip
  have h1:SCn tp (Shared.heap ⟨hp,g,d,tk,os⟩) l xs:=hl
  have h2:SCn tq (Shared.heap ⟨xza tp hp l,g,d,tk,os⟩) m ys:=SCn.push hm _
  wp_walk using zsh h1,zsh h2
  exact ⟨_,rfl,h⟩
theorem zl5 {P:Program} {w:World} {A:Around} {E:Value->Shared->Prop} {s:Shared} {tp tq:Bool} {l m:Addr} {xs ys:Array Value} {Q:Value->Shared->Prop} (hl:SCn tp s.heap l xs) (hm:SCn tq s.heap m ys)
  (q:∀ h',ZTx tp tq (s.heap.objs.size + 4) (s.heap.objs.size + 2) (s.heap.objs.size + 3) s.heap.objs.size (s.heap.objs.size + 1) l m 0 h'->(∀ c o,s.heap.get? c = some o->h'.get? c = some o)->Q (.ref (s.heap.objs.size + 4)) { s with heap:=h' }) :
  wpAny (model P w) A (call (.type "zip") [.ref l,.ref m]) Q E s:=by
 refine callType_new F.called_zip (by decide) (F.typeCall_zip_2 _ _) (F.newCall_zip_2 _ _) (fun obj=>F.args_object_init_3 obj _ _) F.entry_zip_new (zkp tp tq l m xs ys) ⟨hl,hm,?_⟩
 have y1:(xza tp s.heap l).objs.size = s.heap.objs.size + 1:=YBh ..
 have y2:(xzb tp tq s.heap l m).objs.size = s.heap.objs.size + 2:=by rw [YBh,y1]
 have y3:(xzc tp tq s.heap l m).objs.size = s.heap.objs.size + 3:=by rw [YBh,y2]
 have y4:(xzd tp tq s.heap l m).objs.size = s.heap.objs.size + 4:=by rw [YBh,y3]
 have g5:(xze tp tq s.heap l m).get? (xzd tp tq s.heap l m).objs.size = some _:=YAj _ rfl
 have g4:(xze tp tq s.heap l m).get? (xzc tp tq s.heap l m).objs.size = some _:=YAb _ (YAj _ rfl)
 have g3:(xze tp tq s.heap l m).get? (xzb tp tq s.heap l m).objs.size = some _:=YAb _ (YAb _ (YAj _ rfl))
 have g2:(xze tp tq s.heap l m).get? (xza tp s.heap l).objs.size = some _:=YAb _ (YAb _ (YAb _ (YAj _ rfl)))
 have g1:(xze tp tq s.heap l m).get? s.heap.objs.size = some _:=YAb _ (YAb _ (YAb _ (YAb _ (YAj _ rfl))))
 show _/\_
 rw [y2,y3,y4] at g5
 rw [y1,y2] at g3
 rw [y3] at g4
 rw [y1] at g2
 rw [y4]
 exact ⟨⟨_,g5,rfl⟩,q _ ⟨g5,g3,⟨_,_,g4⟩,(by cases tp <;> exact ⟨_,g1,rfl,rfl⟩),(by cases tq <;> exact ⟨_,g2,rfl,rfl⟩)⟩ fun c o x=>YAb _ (YAb _ (YAb _ (YAb _ (YAb _ x))))⟩
def zti (K:PySem.W.Frag) (ta:TA):TI:=fun σ H R=>ta σ H fun vs H1=>∃ (tp tq:Bool) (a b:Addr) (xs ys:List V),vs = [.ref a,.ref b]/\SQ tp K H1 a xs/\SQ tq K H1 b ys/\R (Itx tp tq K a b) H1
theorem zpD {X:Cx} {es:List Expr} {x1:_} {tpos:Pos} {a b:Expr} {ta:TA} {p pos:Pos} (hg:Gl X "zip") (hm:X.mg "zip" = none) (ha:PA X [a,b] ta) (hs:starEach [a,b] X.env = [(false,eval a X.env),(false,eval b X.env)]:=by rfl) (hs2:starEach [b] X.env = [(false,eval b X.env)]:=by rfl) :
  PI X (.Tuple es x1 tpos) (.Call (.Name "zip" p) [a,b] [] pos) (zti X.K ta):=by
 intro pins s σ H R I h
 refine Call_ (zgo I hg hm boot_zip (YBj (thn (ha pos pins s σ H _ I h) fun us s1 ⟨vs,H1,I1,r1,q1⟩=>?_) (by rw [hs,hs2]) (by rw [hs2];rfl)))
 obtain ⟨tp,tq,l,m,xs,ys,e,q1,q2,q⟩:=q1
 subst e
 obtain ⟨u,v,rfl,ru,rv⟩:=zqb r1
 cases ru
 cases rv
 obtain ⟨ia,ra,ca,za⟩:=I1.sq q1
 obtain ⟨ib,rb,cb,zb⟩:=I1.sq q2
 have lt1:=ca.lt
 have lt2:=cb.lt
 refine zl5 ca cb fun h' zt kk=>?_
 refine wpAny_pyIter_zip zt.1 ?_
 have I2:Inv X pins σ H1 { s1 with heap:=h' }:=I1.kept (t':=s1.toks) kk
 refine ⟨_,[s1.heap.objs.size + 4,s1.heap.objs.size + 2,s1.heap.objs.size + 3,s1.heap.objs.size,s1.heap.objs.size + 1],_,_,H1,rfl,I2,zmv (zsp _ _ _ lt1 lt2) (YAp lt1) (YAp (YB1 lt2)),zt,fun c hc=>?_,q⟩
 have hle:s1.heap.objs.size <= c:=by
  simp only [YAr,YAw,YB3] at hc
  rcases hc with rfl | rfl | rfl | rfl | rfl
  ·exact YCb _ _
  ·exact YCb _ _
  ·exact YCb _ _
  ·exact YAk _
  ·exact YCb _ _
 exact I1.fpOk hle (I1.hok.fresh hle)
end L2
namespace Fd
open PySem L2
section
variable {X:Cx} {c:Bk} {a b:Expr} {A B:WE} {pos p tpos:Pos} {es:List Expr}
def zr6 (A B:WE):WL:=fun ρ Q=>A ρ fun x=>B ρ fun y=>seqD x fun xs=>seqD y fun ys=>Q (zipL xs ys)
theorem zgC {K:PySem.W.Frag} {tp:Bool} {G H2:Hp} (e:Same G H2) {l:Addr} {vs:List V} (h:SQ tp K G l vs):SQ tp K H2 l vs:=by
 cases tp
 ·exact e.seq h
 ·exact za0 e h
theorem zqo {G:Hp} {tp tq:Bool} {l m:Addr} {xs ys:List D} {vs ws:List V} (hl:SQ tp c.K G l vs) (hm:SQ tq c.K G m ws) (hv:Reps c G xs vs) (hw:Reps c G ys ws):ItOk c (Itx tp tq c.K l m) (zipL xs ys) G:=by
 intro i H2 G2 s1 s2 bx h0
 have ql:=zgC (s1.trans s2) hl
 have qm:=zgC (s1.trans s2) hm
 refine ⟨fun e=>⟨vs,ws,ql,qm,by rw [e,zjp,hv.length,hw.length]⟩,fun d e=>?_⟩
 obtain ⟨x,y,ex,ey,rfl⟩:=zjv e
 obtain ⟨v,e1,r1⟩:=hv.get ex
 obtain ⟨w,e2,r2⟩:=hw.get ey
 refine ⟨⟨vs,ws,v,w,ql,qm,e1,e2⟩,fun z H3 yl=>?_⟩
 obtain ⟨t,x',y',ht,rfl,rfl,f1,f2⟩:=yl
 have g1:=f1 vs ql
 have g2:=f2 ws qm
 rw [e1] at g1;cases g1
 rw [e2] at g2;cases g2
 have sg:Same G2 (upd G2 t (.tup [v,w])):=zbU (zak s2 ht)
 exact ⟨_,Stp.new s2 bx ht,t,[v,w],rfl,SqT.of zae,⟨v,[w],rfl,(r1.mono s1).mono sg,w,[],rfl,(r2.mono s1).mono sg,rfl⟩⟩
theorem zjQ {G:Hp} {d:D} {v:V} {Q:List D->Prop} (h:Rep c G d v) (q:seqD d Q):∃ tp l vs xs,v = .ref l/\SQ tp c.K G l vs/\Reps c G xs vs/\Q xs:=by
 cases d with
 | lst n xs=>obtain ⟨l,vs,e,hl,_,hv⟩:=h;exact ⟨false,l,vs,xs,e,SqL.of hl,hv,q⟩
 | tup xs=>obtain ⟨l,vs,e,hl,hv⟩:=h;exact ⟨true,l,vs,xs,e,hl,hv,q⟩
 | _=>exact q.elim
theorem zsm {x1:_} (hA:DE X c a A) (hB:DE X c b B) (hg:Gl X "zip" := by rfl) (hs:starEach [a,b] X.env = [(false,eval a X.env),(false,eval b X.env)]:=by rfl) (hs2:starEach [b] X.env = [(false,eval b X.env)]:=by rfl) (hK:c.K = X.K:=by rfl) (hm:X.mg "zip" = none:=by decreasing_trivial) :
  DI X c (.Tuple es x1 tpos) (.Call (.Name "zip" p) [a,b] [] pos) (zr6 A B) where
 mono:=fun ρ Q Q' k q=>hA.mono ρ _ _ (fun x z=>hB.mono ρ _ _ (fun y z'=>zft (fun xs=>zft fun ys z=>k _ z) z') z) q
 pi:=zjB (zpD hg hm (zav hA.pe (zav hB.pe za1 hs2) (by rw [hs,hs2])) hs hs2) fun σ H R ⟨ρ,G,r,q⟩=>⟨ρ,G,r,hA.mono ρ _ _ (fun x z v H1 G1 t1 e1=>⟨ρ,G1,r.step t1,hB.mono ρ _ _ (fun y z' w H2 G2 t2 e2=>by
  obtain ⟨tp,l,vs,xs,rfl,hl,hv,z'⟩:=zjQ (e1.mono t2.gg) z'
  obtain ⟨tq,m,ws,ys,rfl,hm,hw,z'⟩:=zjQ e2 z'
  exact ⟨tp,tq,l,m,vs,ws,rfl,hK ▸ zgC t2.gh hl,hK ▸ zgC t2.gh hm,z' _ H2 G2 (t1.trans t2) (hK ▸ zqo hl hm hv hw)⟩) z⟩) q⟩
end
end Fd
namespace L2
open PySem PySem.Spec PyProof.Rows
section
variable {prog:Program} {w:World} {A:Around} {E:Value->Shared->Prop} {s:Shared}
end
end L2
namespace Fd
open PySem L2
section
variable {X:Cx} {c:Bk} {a b e o:Expr} {A B:WE} {es:List Expr} {pos p p2 apos cpos px py ps:Pos}
theorem zr0 {x z:Str} {t:Tok} (hm:X.mg x = some (.str z t)) (hg:Gl X x:=by rfl) (hd:(x == ("__debug__" : Str)) = false:=by decide):DE X c (.Name x pos) (kW (.str z)):=⟨zks _,zan (ziH (v:=.str z) hg hm ⟨t,rfl⟩ hd) fun σ H Q ⟨ρ,G,r,q⟩=>q _ H G r.refl rfl⟩
theorem zmj {x:Str} {z:Int} {t:Tok} (hm:X.mg x = some (.int z t)) (hg:Gl X x:=by rfl) (hd:(x == ("__debug__" : Str)) = false:=by decide):DE X c (.Name x pos) (kW (.int z)):=⟨zks _,zan (ziH (v:=.int z) hg hm ⟨t,rfl⟩ hd) fun σ H Q ⟨ρ,G,r,q⟩=>q _ H G r.refl rfl⟩
def zca:FL:=fun ds Q=>match ds with
 | [.str x]=>x.length <= 100000/\Q (.int x.length)
 | ds=>lenF ds Q
theorem zrM:zdA zca:=fun ds Q Q' k q=>by
 unfold zca at q ⊢
 split at q
 ·exact ⟨q.1,k _ q.2⟩
 ·exact ztj _ _ _ k q
theorem zp7:zhe c zca (fun xs H Q=>(∃ p ys,xs = [.ref p]/\(SqL c.K H p ys\/SqT c.K H p ys)/\Q (.int ys.length) H)\/∃ z,xs = [.str z]/\z.length <= sizeLine/\Q (.int z.length) H):=by
 intro H G ds vs Q gh bx h0 rv q
 unfold zca at q
 split at q
 ·obtain ⟨v,rfl,rfl⟩:=zhY rv
  exact .inr ⟨_,rfl,small5 q.1,q.2 _ H G (Stp.refl gh bx) rfl⟩
 ·exact .inl (zsr H G _ vs Q gh bx h0 rv q)
theorem zck {R:WL} (hR:DA X c [e] R) (hg:Gl X "len" := by rfl) (he:starEach [e] X.env = (false,eval e X.env) :: starEach [] X.env:=by rfl) (hK:c.K = X.K:=by rfl) (hm:X.mg "len" = none:=by decreasing_trivial):DE X c (.Call (.Name "len" p) [e] [] pos) (cbW zca R):=
 zi9 zrM (call_len_seq.or ziv) (hK ▸ zp7) hm YCY hR hg (by decide) (by decide) he rfl
def hasS (b a:Str):Bool:=!(Builtin.Str.occurrences b a 0 b.length 1).isEmpty
def inXD (neg:Bool):F2:=fun x y Q=>match x,y with
 | .str a,.str b=>Q (.bl (if neg then !hasS b a else hasS b a))
 | x,y=>inD neg x y Q
theorem zqG (neg:Bool):za5 (inXD neg):=fun x y Q Q' k q=>by
 unfold inXD at q ⊢
 split at q
 ·exact k _ q
 ·exact m_in neg _ _ _ _ k q
def rInX (c:Bk) (neg:Bool):R2:=fun u v H Q=>rInD c neg u v H Q\/∃ i j,u = .str i/\v = .str j/\Q (.bl (if neg then !hasS j i else hasS j i)) H
theorem zmh (neg:Bool):OpD c (inXD neg) (rInX c neg):=fun H G x y u v Q gh bx h0 rx ry q=>by
 unfold inXD at q
 split at q
 ·cases rx;cases ry
  exact .inr ⟨_,_,rfl,rfl,q _ H G (Stp.refl gh bx) rfl⟩
 ·exact .inl (zsM neg H G _ _ u v Q gh bx h0 rx ry q)
theorem zoZ (hK:c.K = X.K) (hu:X.A.units + 64 < cLine):OpR X (compareOp .In) (rInX c false):=(zsc hK hu).or zmY
theorem zlQ (hK:c.K = X.K) (hu:X.A.units + 64 < cLine):OpR X (compareOp .NotIn) (rInX c true):=(zk8 hK hu).or zhM
theorem zrA (hA:DE X c a A) (hB:DE X c b B) (hm:behindInMarks .In b = false:=by with_unfolding_all rfl) (hK:c.K = X.K:=by rfl) (hu:X.A.units + 64 < cLine:=by decreasing_trivial):DE X c (.Compare a [.In] [b] pos) (binW (inXD false) A B):=zqp (zqG _) (zoZ hK hu) (zmh _) hA hB hm
theorem zmF (hA:DE X c a A) (hB:DE X c b B) (hm:behindInMarks .In b = false:=by with_unfolding_all rfl) (hK:c.K = X.K:=by rfl) (hu:X.A.units + 64 < cLine:=by decreasing_trivial):DT X c (.Compare a [.In] [b] pos) (blW (binW (inXD false) A B)):=zgs (zqG _) (zoZ hK hu) (zmh _) hA hB hm
theorem znJ (hA:DE X c a A) (hB:DE X c b B) (hm:behindInMarks .NotIn b = false:=by with_unfolding_all rfl) (hK:c.K = X.K:=by rfl) (hu:X.A.units + 64 < cLine:=by decreasing_trivial):DT X c (.Compare a [.NotIn] [b] pos) (blW (binW (inXD true) A B)):=zgs (zqG _) (zlQ hK hu) (zmh _) hA hB hm
def ixXD:F2:=fun x y Q=>match x,y with
 | .str z,.int i=>z.length <= 100000/\(match atI z.cps.toList i with | some ch=>Q (.str ⟨#[ch]⟩) | none=>False)
 | x,y=>ixD x y Q
theorem zrk:za5 ixXD:=fun x y Q Q' k q=>by
 unfold ixXD at q ⊢
 split at q
 ·refine ⟨q.1,?_⟩
  have q:=q.2
  split at q
  ·exact k _ q
  ·exact q.elim
 ·exact m_ix _ _ _ _ k q
theorem zq8:OpD c ixXD (rIx c.K):=fun H G x y u v Q gh bx h0 rx ry q=>by
 unfold ixXD at q
 split at q
 ·cases rx;cases ry
  have q2:=q.2
  split at q2
  ·rename_i ch e
   exact .inr (.inr ⟨_,_,ch,rfl,rfl,small5 q.1,e,q2 _ H G (Stp.refl gh bx) rfl⟩)
  ·exact q2.elim
 ·exact zs4 H G _ _ u v Q gh bx h0 rx ry q
theorem zaq (hA:DE X c a A) (hB:DE X c b B) (hs:zje b:=by intro _ _;rfl) (hK:c.K = X.K:=by rfl):DE X c (.Subscript a b pos) (binW ixXD A B):=
 ⟨zdq zrk hA.mono hB.mono,zan (zfP (hK ▸ zoI) hA.pe hB.pe hs) fun σ H Q h=>zfk zrk hA.mono hB.mono zq8 σ H Q h⟩
def slXD (x:D) (lo hi:Option Int) (Q:D->Prop):Prop:=match x with
 | .str z=>z.length <= 100000/\Q (.str (cutS z lo hi))
 | x=>slD x lo hi Q
theorem zlS {x:D} {lo hi:Option Int} {Q Q':D->Prop} (k:∀ d,Q d->Q' d) (q:slXD x lo hi Q):slXD x lo hi Q':=by
 cases x with
 | str z=>exact ⟨q.1,k _ q.2⟩
 | lst n xs=>exact k _ q
 | tup xs=>exact k _ q
 | _=>exact q.elim
@[reducible] def slXW (A:WE) (L U:WO):WE:=fun ρ Q=>A ρ fun x=>L ρ fun l=>U ρ fun u=>slXD x l u Q
theorem zia {lo hi:Option Expr} {L U:WO} (hA:DE X c a A) (hL:DO X c lo L) (hU:DO X c hi U) (hK:c.K = X.K:=by rfl):DE X c (.Subscript a (.Slice lo hi none p2) pos) (slXW A L U) where
 mono:=fun ρ Q Q' k q=>hA.mono ρ _ _ (fun d z=>hL.mono ρ _ _ (fun l y=>hU.mono ρ _ _ (fun u x=>zlS k x) y) z) q
 pe:=zan (zjE ((sl_list.or zps).or zra) hA.pe hL.po hU.po) fun σ H Q ⟨ρ,G,r,q⟩=>⟨ρ,G,r,hA.mono ρ _ _ (fun d z v H1 G1 t1 e1=>⟨ρ,G1,r.step t1,hL.mono ρ _ _ (fun l y H2 G2 t2=>⟨ρ,G2,(r.step t1).step t2,hU.mono ρ _ _ (fun u x H3 G3 t3=>by
  have t:=(t1.trans t2).trans t3
  have e3:=(e1.mono t2.gg).mono t3.gg
  cases d with
  | lst n xs=>
   obtain ⟨p,vs,rfl,hp,_,rv⟩:=e3
   exact .inl (.inl ⟨p,vs,rfl,SqL.of (t3.gh _ _ hp),fun l hl=>x (.ref l) _ _ (t.trans (Stp.new t3.gh t3.bx hl)) ⟨l,_,rfl,zae,fun _=>r.new0 (t.free hl),(rv.cut _ _).mono (zbU (zak t3.gh hl))⟩⟩)
  | tup xs=>
   obtain ⟨p,vs,rfl,hp,rv⟩:=e3
   exact .inl (.inr ⟨p,vs,rfl,hK ▸ za0 t3.gh hp,fun e=>x (.ref p) H3 G3 t ⟨p,vs,rfl,hp,by have:=rv.cut l u;rw [e] at this;exact this⟩,fun l hl=>x (.ref l) _ _ (t.trans (Stp.new t3.gh t3.bx hl)) ⟨l,_,rfl,SqT.of zae,(rv.cut _ _).mono (zbU (zak t3.gh hl))⟩⟩)
  | str zz=>cases e3;exact .inr ⟨zz,rfl,x.1,x.2 _ H3 G3 t rfl⟩
  | _=>exact x.elim) y⟩) z⟩) q⟩
theorem zjR {ce:Expr} {C:WE} (hA:DE X c a A) (hB:DE X c b B) (hC:DE X c ce C) (hm:lastMarks [.LtE,.LtE] [b,ce] = false:=by with_unfolding_all rfl):DE X c (.Compare a [.LtE,.LtE] [b,ce] pos) (zej leD leD A B C):=
 ⟨zeR (zfa _) (zfa _) hA.mono hB.mono hC.mono,zan (zoc znl znl hA.pe hB.pe hC.pe hm) fun σ H Q h=>zgw (zfa _) (zfa _) hA.mono hB.mono hC.mono (zgi _) (zgi _) σ H Q h⟩
theorem zq4 {ce:Expr} {C:WE} (hA:DE X c a A) (hB:DE X c b B) (hC:DE X c ce C) (hm:lastMarks [.LtE,.LtE] [b,ce] = false:=by with_unfolding_all rfl):DT X c (.Compare a [.LtE,.LtE] [b,ce] pos) (blW (zej leD leD A B C)):=
 ⟨zi3 (zeR (zfa _) (zfa _) hA.mono hB.mono hC.mono),zf1 (znG znl znl hA.pe hB.pe hC.pe hm) fun σ H Q h=>by
  obtain ⟨ρ,G,R,q⟩:=zln (zeR (zfa _) (zfa _) hA.mono hB.mono hC.mono) σ H Q h
  exact zgw (zfa _) (zfa _) hA.mono hB.mono hC.mono (zgi _) (zgi _) σ H _ ⟨ρ,G,R,q⟩⟩
def strD (d:D) (Q:Str->Prop):Prop:=match d with | .str z=>Q z | _=>False
theorem zlz {d:D} {Q Q':Str->Prop} (k:∀ z,Q z->Q' z) (q:strD d Q):strD d Q':=by
 cases d <;> first | exact k _ q | exact q
abbrev FS:=Str->D->(D->Prop)->Prop
def zme (f:FS):Prop:=∀ x y Q Q',(∀ d,Q d->Q' d)->f x y Q->f x y Q'
@[reducible] def smW (f:FS) (A B:WE):WE:=fun ρ Q=>A ρ fun x=>strD x fun z=>B ρ fun y=>f z y Q
def SmD (c:Bk) (f:FS) (r:V->List V->Hp->VK->Prop):Prop:=∀ (H G:Hp) (z:Str) (y:D) (v:V) (Q:VK),Same G H->BoxD c.β H G->(∀ a,H a = none->c.H0 a = none)->Rep c G y v->f z y (fun d=>∀ v H' G',Stp c.β H G H' G'->Rep c G' d v->Q v H')->r (.str z) [v] H Q
theorem d_sm {f:FS} {r:V->List V->Hp->VK->Prop} {name:Str} {id:String} (fm:zme f) (slot:Slot "str" name id) (hty:typeOf (.builtin id) = pure (.type "method_descriptor")) (hm:MtR X id r) (hr:SmD c f r) (hA:DE X c o A) (hB:DE X c e B)
  (hbase:attributeBase o name X.env (eval o X.env) = eval o X.env:=by rfl)
  (hfew:((backTo cpos (starEach [e] X.env)).all (fun x=>!x.1) && (backToKw cpos (keywordEach [] X.env)).all (fun x=>x.1.isSome)
   && decide ([e].length + ([]:List Keyword).length + (if ([]:List Keyword).isEmpty then 0 else 1) < 30)) = true:=by rfl)
  (hline:(apos.endLine == cpos.line) = true:=by rfl) (hs:starEach [e] X.env = (false,eval e X.env) :: starEach [] X.env:=by rfl) :
  DE X c (.Call (.Attribute o name apos) [e] [] cpos) (smW f A B) where
 mono:=fun ρ Q Q' k q=>hA.mono ρ _ _ (fun x z=>zlz (fun t y=>hB.mono ρ _ _ (fun y w=>fm _ _ _ _ k w) y) z) q
 pe:=zan (zn9 PySem.F.plainAttrs_str slot hty hm hA.pe (zav hB.pe za1 hs) hbase hfew hline hs rfl) fun σ H Q ⟨ρ,G,R,q⟩=>⟨ρ,G,R,hA.mono ρ _ _ (fun x z v H1 G1 t1 e1=>by
  cases x with
  | str z'=>
   cases e1
   exact ⟨rfl,ρ,G1,R.step t1,hB.mono ρ _ _ (fun y w v H2 G2 t2 e2=>hr H2 G2 z' y v Q t2.gh t2.bx (fun a z=>R.new0 (t1.free (t2.free z))) e2 (fm _ _ _ _ (fun d u v' H3 G3 t3 e3=>u v' H3 G3 ((t1.trans t2).trans t3) e3) w)) z⟩
  | _=>exact z.elim) q⟩
def spF:FS:=fun z y Q=>match y with | .str b=>(b.length ≠ 0/\z.length <= 100000)/\Q (.lst true ((Txt.split z b).map D.str)) | _=>False
theorem m_sp:zme spF:=fun x y Q Q' k q=>by cases y <;> first | exact ⟨q.1,k _ q.2⟩ | exact q
theorem reps_strs {G:Hp}:∀ {ns:List Str} {vs:List V},Reps c G (ns.map D.str) vs ↔ vs = ns.map V.str
 | [],_=>Iff.rfl
 | n :: ns,vs=>by
  constructor
  ·rintro ⟨v,ws,h1,h2,h3⟩
   rw [h1,reps_strs.mp h3]
   have:v = V.str n:=h2
   rw [this];rfl
  ·rintro rfl
   exact ⟨V.str n,ns.map V.str,rfl,rfl,reps_strs.mpr rfl⟩
theorem zsY:SmD c spF zoP:=fun H G z y v Q gh bx h0 ry q=>by
 cases y with
 | str b=>cases ry;exact ⟨z,b,rfl,rfl,q.1.1,q.1.2,fun p hp=>q.2 (.ref p) _ _ (Stp.new gh bx hp) ⟨p,_,rfl,zae,fun _=>h0 p hp,reps_strs.mpr rfl⟩⟩
 | _=>exact q.elim
def joF:FS:=fun z y Q=>match y with | .lst _ xs=>∃ ts:List Str,xs = ts.map D.str/\(∀ t ∈ ts,t.length <= 2000)/\ts.length <= 2000/\z.length <= 1000/\Q (.str (Str.join z ts)) | _=>False
theorem m_jo:zme joF:=fun x y Q Q' k q=>by
 cases y with
 | lst n xs=>obtain ⟨ts,h1,h2,h3,h4,q⟩:=q;exact ⟨ts,h1,h2,h3,h4,k _ q⟩
 | _=>exact q.elim
theorem ztr:SmD c joF (zrE c.K):=fun H G z y v Q gh bx h0 ry q=>by
 cases y with
 | lst n xs=>
  obtain ⟨ts,rfl,h2,h3,h4,q⟩:=q
  obtain ⟨a,vs,rfl,ha,_,hv⟩:=ry
  rw [reps_strs.mp hv] at ha
  exact ⟨z,a,ts,rfl,rfl,SqL.of (gh _ _ ha),h2,h3,h4,q _ H G (Stp.refl gh bx) rfl⟩
 | _=>exact q.elim
def zdy:FL:=fun ds Q=>match ds with
 | [.str x]=>x.length <= 640/\(match PySem.intText? x with | some n=>Q (.int n) | none=>False)
 | ds=>intF ds Q
theorem zrF:zdA zdy:=fun ds Q Q' k q=>by
 unfold zdy at q ⊢
 split at q
 ·refine ⟨q.1,?_⟩
  have q:=q.2
  split at q
  ·exact k _ q
  ·exact q.elim
 ·exact zsZ _ _ _ k q
theorem zql:zhe c zdy (fun xs H Q=>((∃ i,xs = [.int i]/\Q (.int i) H)\/∃ k,xs = [.bl k]/\Q (.int (if k then 1 else 0)) H)\/∃ x n,xs = [.str x]/\x.length <= 640/\PySem.intText? x = some n/\Q (.int n) H):=by
 intro H G ds vs Q gh bx h0 rv q
 unfold zdy at q
 split at q
 ·obtain ⟨v,rfl,rfl⟩:=zhY rv
  have q2:=q.2
  split at q2
  ·rename_i n e
   exact .inr ⟨_,n,rfl,q.1,e,q2 _ H G (Stp.refl gh bx) rfl⟩
  ·exact q2.elim
 ·exact .inl (zr1 H G _ vs Q gh bx h0 rv q)
theorem zdB {R:WL} (hR:DA X c [e] R) (hg:Gl X "int" := by rfl) (he:starEach [e] X.env = (false,eval e X.env) :: starEach [] X.env:=by rfl) (hm:X.mg "int" = none:=by decreasing_trivial):DE X c (.Call (.Name "int" p) [e] [] pos) (cbW zdy R):=
 znf zrF (call_int1.or ziu) zql hm PyProof.Rows.boot_int hR hg (by decide) (by decide) he rfl
theorem zpq (hA:DE X c o A) (hB:DE X c e B) (hbase:attributeBase o "split" X.env (eval o X.env) = eval o X.env:=by rfl)
  (hfew:((backTo cpos (starEach [e] X.env)).all (fun x=>!x.1) && (backToKw cpos (keywordEach [] X.env)).all (fun x=>x.1.isSome)
   && decide ([e].length + ([]:List Keyword).length + (if ([]:List Keyword).isEmpty then 0 else 1) < 30)) = true:=by rfl)
  (hline:(apos.endLine == cpos.line) = true:=by rfl) (hs:starEach [e] X.env = (false,eval e X.env) :: starEach [] X.env:=by rfl) :
  DE X c (.Call (.Attribute o "split" apos) [e] [] cpos) (smW spF A B):=d_sm m_sp PySem.F.slot_str_split PySem.F.type_str_split zn6 zsY hA hB hbase hfew hline hs
theorem zrn (hA:DE X c o A) (hB:DE X c e B) (hbase:attributeBase o "join" X.env (eval o X.env) = eval o X.env:=by rfl)
  (hfew:((backTo cpos (starEach [e] X.env)).all (fun x=>!x.1) && (backToKw cpos (keywordEach [] X.env)).all (fun x=>x.1.isSome)
   && decide ([e].length + ([]:List Keyword).length + (if ([]:List Keyword).isEmpty then 0 else 1) < 30)) = true:=by rfl)
  (hline:(apos.endLine == cpos.line) = true:=by rfl) (hs:starEach [e] X.env = (false,eval e X.env) :: starEach [] X.env:=by rfl) (hK:c.K = X.K:=by rfl) :
  DE X c (.Call (.Attribute o "join" apos) [e] [] cpos) (smW joF A B):=d_sm m_jo PySem.F.slot_str_join PySem.F.type_str_join (hK ▸ zpB) ztr hA hB hbase hfew hline hs
def chs (z:Str):List D:=z.cps.toList.map fun ch=>D.str ⟨#[ch]⟩
def zn4 (d:D) (Q:List D->Prop):Prop:=match d with | .str z=>Q (chs z) | d=>seqD d Q
theorem zkU {d:D} {Q Q':List D->Prop} (k:∀ xs,Q xs->Q' xs) (q:zn4 d Q):zn4 d Q':=by
 cases d <;> first | exact k _ q | exact q.elim
@[reducible] def zbA (A:WE):WL:=fun ρ Q=>A ρ fun d=>zn4 d Q
theorem it_str {G:Hp} (z:Str):ItOk c (Its z) (chs z) G:=by
 intro i H2 G2 s1 s2 bx h0
 refine ⟨fun e=>?_,fun d e=>?_⟩
 ·show z.length <= i
  subst e
  unfold chs Str.length
  simp
 ·unfold chs at e
  rw [YAt] at e
  cases e1:z.cps.toList[i]? with
  | none=>rw [e1] at e;cases e
  | some ch=>
   rw [e1] at e
   cases e
   have lt:i < z.cps.size:=by simpa using (YAe.mp e1).1
   refine ⟨lt,fun v H3 y=>?_⟩
   obtain ⟨rfl,c',h1,rfl⟩:=y
   rw [<- YB6,e1] at h1
   cases h1
   exact ⟨G2,Stp.refl s2 bx,rfl⟩
def iX (K:PySem.W.Frag) (tl:TE):TI:=fun σ H R=>tl σ H fun x H1=>(∃ z,x = .str z/\R (Its z) H1)\/∃ a,x = .ref a/\(((∃ xs,SqL K H1 a xs)/\R (Itl K a) H1)\/((∃ xs,SqT K H1 a xs)/\R (Itt K a) H1))
theorem pi_X {tg l:Expr} {tl:TE} (hl:PE X l tl):PI X tg l (iX X.K tl):=by
 intro pins s σ H R I h
 refine thn (hl pins s σ H _ I h) fun v s1 ⟨x,H1,I1,r1,q1⟩=>?_
 have fp:∀ b ∈ [s1.heap.objs.size],FpOk X pins H1 b:=fun b hb=>by
  have e:b = s1.heap.objs.size:=by simpa using hb
  subst e
  exact I1.fpOk (YAk _) (I1.hok.fresh (YAk _))
 rcases q1 with ⟨z,rfl,q⟩ | ⟨a,rfl,⟨⟨xs,hq⟩,q⟩ | ⟨⟨xs,hq⟩,q⟩⟩
 ·obtain ⟨t,rfl⟩:=r1
  have fin:∀ ty,(ty = "str_ascii_iterator" \/ ty = "str_iterator")->PIE X pins σ tg R (.ref s1.heap.objs.size) { s1 with heap:=s1.heap.push { cls:=.type ty,data:=.fields #[.str z t,.int 0 0] } }:=fun ty hty=>
   ⟨s1.heap.objs.size,[s1.heap.objs.size],_,_,H1,rfl,I1.kept (t':=s1.toks) fun b o e=>YAb _ e,zos z t ty hty _,⟨_,YAj _ rfl,rfl,rfl⟩,fp,q⟩
  cases ha:z.cps.all (· < 128)
  ·exact wpAny_pyIter_wide ha (fin _ (.inr rfl))
  ·exact wpAny_pyIter_ascii ha (fin _ (.inl rfl))
 ·cases r1
  obtain ⟨its,rv,p,hz⟩:=I1.list hq
  exact YBJ p.isList ⟨s1.heap.objs.size,[s1.heap.objs.size],_,_,H1,rfl,I1.kept (t':=s1.toks) fun b o e=>YAb _ e,zmn a _,⟨_,YAj _ rfl,rfl,rfl⟩,fp,q⟩
 ·cases r1
  obtain ⟨its,rv,p,hz⟩:=I1.tuple hq
  exact wpAny_pyIter_tuple (show s1.heap.IsTuple a its.toArray from p) ⟨s1.heap.objs.size,[s1.heap.objs.size],_,_,H1,rfl,I1.kept (t':=s1.toks) fun b o e=>YAb _ e,zkr a _,⟨_,YAj _ rfl,rfl,rfl⟩,fp,q⟩
theorem zb3 {tg:Expr} (hA:DE X c e A) (hK:c.K = X.K:=by rfl):DI X c tg e (zbA A) where
 mono:=fun ρ Q Q' k q=>hA.mono ρ _ _ (fun d z=>zkU k z) q
 pi:=zjB (pi_X hA.pe) fun σ H R ⟨ρ,G,r,q⟩=>⟨ρ,G,r,hA.mono ρ _ _ (fun d z v H' G' t e=>by
  cases d with
  | str x=>cases e;exact .inl ⟨x,rfl,z _ H' G' t (it_str x)⟩
  | lst n xs=>
   obtain ⟨l,vs,rfl,hl,_,hv⟩:=e
   exact .inr ⟨l,rfl,.inl ⟨⟨vs,SqL.of (t.gh _ _ hl)⟩,z _ H' G' t (hK ▸ zpQ hl hv)⟩⟩
  | tup xs=>
   obtain ⟨l,vs,rfl,hl,hv⟩:=e
   exact .inr ⟨l,rfl,.inr ⟨⟨vs,hK ▸ za0 t.gh hl⟩,z _ H' G' t (hK ▸ zsk hl hv)⟩⟩
  | _=>exact z.elim) q⟩
structure GDict (P:Program) (w:PySem.World) (K:PySem.W.Frag) (mg:Str->Option Value) (x:Str) (kvs:List (Str × D)):Prop where
 ex:∃ (a:Addr) (vvs:List (Key × V)),mg x = some (.ref a)/\(∀ h:Heap,K.In h->(a == sysModules) = false/\∃ vs,KV vvs vs/\h.DictOf (zaL P w) a vs) /\
  ∀ z:Str,(valV vvs (.inr z) = none/\kvs.lookup z = none)\/∃ v d,valV vvs (.inr z) = some v/\kvs.lookup z = some d/\∀ (c:Bk) (G:Hp),c.K = K->Rep c G d v
def lkD (kvs:List (Str × D)) (d:D) (Q:Option D->Prop):Prop:=match d with | .str z=>Q (kvs.lookup z) | _=>False
theorem zoz {kvs:List (Str × D)} {d:D} {Q Q':Option D->Prop} (k:∀ z,Q z->Q' z) (q:lkD kvs d Q):lkD kvs d Q':=by
 cases d <;> first | exact k _ q | exact q
theorem zoW {kvs:List (Str × D)} {zz:Str} {o:Option D} {Q:Option D->Prop} (q:lkD kvs (.str zz) Q) (e:kvs.lookup zz = o):Q o:=e ▸ q
def opD (o:Option D) (Q:D->Prop):Prop:=match o with | some d=>Q d | none=>False
theorem znP {o:Option D} {Q Q':D->Prop} (k:∀ z,Q z->Q' z) (q:opD o Q):opD o Q':=by
 cases o <;> first | exact k _ q | exact q
@[reducible] def ixGW (kvs:List (Str × D)) (A:WE):WE:=fun ρ Q=>A ρ fun d=>lkD kvs d fun o=>opD o Q
section
variable {x:Str} {ax:Addr} {vvs:List (Key × V)} {ty:TE}
def tIxG (vvs:List (Key × V)) (ty:TE):TE:=fun σ H Q=>ty σ H fun y H1=>∃ z v,y = .str z/\valV vvs (.inr z) = some v/\Q v H1
theorem zqM (hm:X.mg x = some (.ref ax)) (hk:∀ h:Heap,X.K.In h->(ax == sysModules) = false/\∃ vs,KV vvs vs/\h.DictOf (zaL X.prog X.w) ax vs) (hg:Gl X x) (hdb:(x == ("__debug__" : Str)) = false) (hi:PE X b ty) (hs:NoSl b):PE X (.Subscript (.Name x p) b pos) (tIxG vvs ty):=by
 intro pins s σ H Q I h
 refine zlR PySem.F.slot_dict_getitem.lookup hs (zdh I hg hm (thn (hi pins s σ H _ I h) fun iv s2 ⟨y,H2,I2,ry,z,v,ey,l,q2⟩=>?_) hdb)
 subst ey
 obtain ⟨hd,vs,rel,dd⟩:=hk s2.heap I2.kIn
 obtain ⟨w',hw,rw'⟩:=RelO.some_of (v:=v) (o:=valueAt vs (.inr z)) (by rw [<- l];exact rel.val (.inr z))
 exact ⟨dd.typeIs,wpAny_getItem_of (ziD (k:=.inr z) ry) dd.mapOf hw ⟨v,H2,I2.tok _,rw',q2⟩⟩
end
theorem ztw {x:Str} {kvs:List (Str × D)} (g:GDict X.prog X.w X.K X.mg x kvs) (hB:DE X c b B) (hK:c.K = X.K:=by rfl) (hg:Gl X x:=by rfl) (hdb:(x == ("__debug__" : Str)) = false:=by decide) (hs:NoSl b:=by intro _ _;rfl):DE X c (.Subscript (.Name x p) b pos) (ixGW kvs B) where
 mono:=fun ρ Q Q' k q=>hB.mono ρ _ _ (fun d z=>zoz (fun o y=>znP k y) z) q
 pe:=by
  obtain ⟨ax,vvs,hm,hk,hv⟩:=g.ex
  exact zan (zqM hm hk hg hdb hB.pe hs) fun σ H Q ⟨ρ,G,r,q⟩=>⟨ρ,G,r,hB.mono ρ _ _ (fun d z v H' G' t e=>by
   cases d with
   | str zz=>
    cases e
    rcases hv zz with ⟨e1,e2⟩ | ⟨v,d,e1,e2,e3⟩
    ·have z:=zoW z e2;exact z.elim
    ·have z:=zoW z e2;exact ⟨zz,v,rfl,e1,z v H' G' t (e3 c G' hK)⟩
   | _=>exact z.elim) q⟩
end
def zbN:Fn:=fnW 3 ((retW (andW (zej leD leD (kW (.int 1)) (cbW zca (zab (vW 0) nilA)) (vW 2)) (cbW allF (zab (valW (zay [none,some 1] (zbA (vW 0)) (.nm 0) noIf (binW (inXD false) (vW 0) (vW 1)))) nilA)))))
def zcn:Fn:=fnW 1 ((retW (zas 3 zbN (zab (vW 0) (zab (kW (.str "abcdefghijklmnopqrstuvwxyz")) (zab (kW (.int 8)) nilA))))))
def zaS:Nat->Fn
 | 0=>fun _ _=>False
 | n + 1=>fnW 2 ((seqW (ifS (orT (truW (isiW "list" (vW 1))) (truW (isiW "tuple" (vW 1)))) (seqW (ifS (orT (blW (binW neD (isiW "list" (vW 0)) (isiW "list" (vW 1)))) (blW (binW neD (isiW "tuple" (vW 0)) (isiW "tuple" (vW 1))))) (retW (kW (.bl false))) nilS)
  (retW (andW (binW eqD (cbW zca (zab (vW 0) nilA)) (cbW zca (zab (vW 1) nilA))) (cbW allF (zab (valW (zay [none,none] (zr6 (vW 0) (vW 1)) (.tp 2 (.cons (.nm 0) (.cons (.nm 1) .nil))) noIf (zas 2 (zaS n) (zab (vW 0) (zab (vW 1) nilA))))) nilA))))) nilS)
  (seqW (ifS (orT (blW (isNW (vW 0))) (blW (isNW (vW 1)))) (retW (andW (isNW (vW 0)) (isNW (vW 1)))) nilS)
  (seqW (ifS (orT (blW (binW neD (isiW "bool" (vW 0)) (isiW "bool" (vW 1)))) (blW (binW neD (isiW "int" (vW 0)) (isiW "int" (vW 1))))) (retW (kW (.bl false))) nilS)
  (retW (andW (binW eqD (isiW "str" (vW 0)) (isiW "str" (vW 1))) (binW eqD (vW 0) (vW 1))))))))
def zbT:Fn:=fnW 10 ((seqW (asgW (.nm 2) (kW (.str "abcdefghijklmnopqrstuvwxyz")))
  (seqW (asgW (.nm 3) (binW addD (kW (.int 1)) (zas 2 zai (zab (vW 0) (zab (kW (.int 8)) nilA)))))
  (seqW (asgW (.nm 4) (zas 2 zai (zab (vW 0) (zab (vW 3) nilA))))
  (seqW (asgW (.nm 5) (binW eqD (zas 2 zai (zab (vW 0) (zab (kW (.int 2)) nilA))) (kW (.int 0))))
  (seqW (asgW (.nm 6) (valW (zay [none,some 0] (zfU (vW 3)) (.nm 0) noIf (zas 2 zai (zab (vW 1) (zab (kW (.int 26)) nilA))))))
  (seqW (ownW 7 (lstW nilA))
  (seqW (forW (zfU (vW 1)) (.nm 8) (seqW (ownW 9 (zkG (vW 6)))
  (seqW (ifS (notT (truW (vW 5))) (ownW 9 (zay [none,some 0] (zfU (binW addD (binW addD (vW 4) (kW (.int 1))) (zas 2 zai (zab (vW 0) (zab (binW subD (vW 3) (vW 4)) nilA))))) (.nm 0) noIf (zas 2 zai (zab (vW 1) (zab (kW (.int 26)) nilA))))) nilS)
  (seqW (putW 9 (vW 4) (binW modD (binW addD (binW ixXD (vW 6) (vW 4)) (binW mulD (kW (.int 11)) (vW 8))) (kW (.int 26))))
  (frzW 9 (appW 7 (smW joF (kW (.str "")) (valW (zay [none,some 2] (zbA (vW 9)) (.nm 0) noIf (binW ixXD (vW 1) (vW 0)))))))))))
  (frzW 7 (retW (vW 7)))))))))))
def dEn (P:Params) (p:Str × Tok × Value):DictEntry:=⟨PyData.keyHash P p.1,.str p.1 p.2.1,p.2.2⟩
theorem zjZ {P:Program} {w:PySem.World}:∀ ps:List (Str × Tok × Value),Pairs (zaL P w) (ps.map (dEn w.params)) (ps.map fun p=>((Sum.inr p.1:Key),p.2.2))
 | []=>.nil
 | p :: ps=>.cons (zfT p.1 p.2.1) rfl (zjZ ps)
theorem zpc {P:Program} {w:PySem.World} {K:PySem.W.Frag} {a:Addr} {n:Nat} {ps:List (Str × Tok × Value)} (hl:K.lookup a = some ⟨.type "dict",none,.dict (ps.map (dEn w.params)).toArray n,#[]⟩) (hn:(ps.map fun p=>(Sum.inr p.1:Key)).Nodup) (h:Heap) (hk:K.In h) :
  h.DictOf (zaL P w) a (ps.map fun p=>((Sum.inr p.1:Key),p.2.2)):=by
 refine ⟨_,_,_,hk a _ hl,⟨rfl,rfl,rfl⟩,rfl,fun e he=>?_,by simpa using zjZ ps,by rw [YBG];exact hn⟩
 have he:e ∈ ps.map (dEn w.params):=by simpa using he
 obtain ⟨p,hp,rfl⟩:=YBc.mp he
 exact ⟨.inr p.1,zfT p.1 p.2.1,rfl⟩
structure GRow (K:PySem.W.Frag) (p:Str × Tok × Value) (q:Str × D):Prop where
 key:p.1 = q.1
 val:∃ v:V,RelV v p.2.2/\∀ (c:Bk) (G:Hp),c.K = K->Rep c G q.2 v
inductive GRows (K:PySem.W.Frag):List (Str × Tok × Value)->List (Str × D)->Prop
 | nil:GRows K [] []
 | cons {p:Str × Tok × Value} {q:Str × D} {ps:List (Str × Tok × Value)} {qs:List (Str × D)} (h:GRow K p q) (r:GRows K ps qs):GRows K (p :: ps) (q :: qs)
theorem zjN {K:PySem.W.Frag}:∀ {ps:List (Str × Tok × Value)} {kvs:List (Str × D)},GRows K ps kvs->∃ vvs:List (Key × V),KV vvs (ps.map fun p=>((Sum.inr p.1:Key),p.2.2)) /\
  ∀ z:Str,(valV vvs (.inr z) = none/\kvs.lookup z = none)\/∃ v d,valV vvs (.inr z) = some v/\kvs.lookup z = some d/\∀ (c:Bk) (G:Hp),c.K = K->Rep c G d v
 | _,_,.nil=>⟨[],.nil,fun z=>.inl ⟨rfl,rfl⟩⟩
 | _,_,@GRows.cons _ p q ps kvs h r=>by
  obtain ⟨vvs,h1,h2⟩:=zjN r
  obtain ⟨v,rv,hv⟩:=h.val
  refine ⟨(Sum.inr p.1,v) :: vvs,.cons ⟨rfl,rv⟩ h1,fun z=>?_⟩
  by_cases e:z = p.1
  ·subst e
   refine .inr ⟨v,q.2,zd0 rfl,?_,hv⟩
   rw [show q = (q.1,q.2) from rfl,<- h.key,List.lookup_cons_self]
  ·have n1:¬ (Sum.inr p.1:Key) = Sum.inr z:=fun k=>e (Sum.inr.inj k).symm
   have n2:kvs.lookup z = (q :: kvs).lookup z:=by
    rw [show q = (q.1,q.2) from rfl,<- h.key,YAI,show (z == p.1) = false from by simp [e]]
   rw [zel n1,<- n2]
   exact h2 z
theorem ztH {P:Program} {w:PySem.World} {K:PySem.W.Frag} {mg:Str->Option Value} {h:Heap} (X:K.In h) (G:h.Ns mainGlobals mg) {x:Str} {a:Addr} {n:Nat} {ps:List (Str × Tok × Value)} {kvs:List (Str × D)} (hn:PySem.W.nsIn K mainGlobals x = some (some (.ref a)))
  (hl:K.lookup a = some ⟨.type "dict",none,.dict (ps.map (dEn w.params)).toArray n,#[]⟩) (hr:GRows K ps kvs) (ha:(a == sysModules) = false) (hd:(ps.map fun p=>(Sum.inr p.1:Key)).Nodup):GDict P w K mg x kvs:=by
 obtain ⟨vvs,h1,h2⟩:=zjN hr
 exact ⟨a,vvs,YAY X G hn,fun h hk=>⟨ha,_,h1,zpc hl hd h hk⟩,h2⟩
end Fd
namespace L2
open PySem PySem.Spec PySem.Calls PyProof.Rows PySem.W Builtin Builtin.ObjectAttr Builtin.Getset_descriptor
section
variable {prog:Program} {w:World} {A:Around} {E:Value->Shared->Prop} {s:Shared} {K:PySem.W.Frag} {x D:Addr} {ox:Obj}
structure ExK (K:PySem.W.Frag) (D:Addr):Prop where
 cls:(clsIn K D).isSome = true
 ga:findIn K (.ref D) "__getattribute__" = some (some (.builtin "BaseException.__getattribute__"))
 noga:findIn K (.ref D) "__getattr__" = some none
 fc:findIn K (.ref D) "__class__" = some (some (.builtin "object.__class__"))
 sp:specialIn K (.builtin "object.__class__") "__get__" = some (some (.builtin "getset_descriptor.__get__"))
 tk:takesIn K (.builtin "object.__class__") = some true
 ob:mroIn K D (.type "object") = some true
 be:subIn K (.ref D) (.type "BaseException") = some true
def ExAt (h:Heap) (x:Addr) (D:Addr):Prop:=∃ o,h.get? x = some o/\o.cls = .ref D
theorem ExAt.type {M:Model} {h:Heap} (I:ExAt h x D):Looks M h (typeOf (.ref x)) (.ref D):=by
 obtain ⟨o,h1,h2⟩:=I
 exact h2 ▸ (Looks.ld h1).andThen .now
theorem ExK.find (k:ExK K D) {M:Model} {h:Heap} (X:K.In h):Looks M h (Builtin.ObjectAttr.find (.ref x) (.ref D) "__class__") (.bind (.builtin "getset_descriptor.__get__") (.builtin "object.__class__")):=by
 refine (looks_findIn (M:=M) X k.fc).andThen ((looks_specialIn (M:=M) X k.sp).andThen ?_)
 exact (show Looks M h (Builtin.ObjectAttr.dataDescriptor? (some (.builtin "object.__class__")) (some (.builtin "getset_descriptor.__get__"))) (some (.builtin "getset_descriptor.__get__",.builtin "object.__class__")) from (looks_takesIn (M:=M) X k.tk).andThen .now).andThen (Looks.tag .now)
theorem zpn {tp:Value} {R:Result->Shared->Prop} (k:ExK K D) (X:K.In s.heap) (I:ExAt s.heap x D)
  (h:R (.ok (.ret (.ref D))) s):codeAny (model prog w) A (.call (.builtin "getset_descriptor.__get__") ⟨[.builtin "object.__class__",.ref x,tp],[]⟩) R s:=by
 obtain ⟨hh,g,dr,t,os⟩:=s
 have L0:=I.type (M:=model prog w)
 have L1:=looks_mroIn (M:=model prog w) X k.ob
 refine codeAny_call_builtin KF.slot_gs.plain KF.entry_gs (KF.slot_gs.check _ _ _ _ _ _ _ _ KF.type_class (KF.args_gs _ _ _) ?_)
 unfold Builtin.«getset_descriptor.__get__» descrGet
 rw [dga_obj]
 refine YAa (YAc ?_)
 unfold descrGetter descrCheckInstance descrNameAndClass isInstance
 simp only [KF.owner_class]
 repeat lk
 refine ⟨Code.quiet_builtin _ (by decide +kernel),codeAny_builtin KF.entry_class ?_⟩
 unfold Builtin.«object.__class__» shownTypeOf
 repeat lk
 exact h
theorem zlm {tk:Tok} {P:Value->Shared->Prop} (k:ExK K D) (X:K.In s.heap) (I:ExAt s.heap x D) (h:P (.ref D) s) :
  wpAny (model prog w) A (Builtin.«object.__getattribute__» ⟨[.ref x,.str "__class__" tk],[]⟩) (fun fin s'=>match fin with | .done (.ret v)=>P v s' | _=>False) E s:=by
 obtain ⟨hh,g,d,t,os⟩:=s
 have L0:=I.type (M:=model prog w)
 have L1:=k.find (x:=x) (M:=model prog w) X
 refine YAa (YAc ?_)
 refine YAa (YAc ?_)
 refine YAa (L0.at ?_)
 refine YAa (L1.at ?_)
 show wpAny _ _ (holding [Value.builtin "object.__class__"] (call (Value.builtin "getset_descriptor.__get__") [Value.builtin "object.__class__",.ref x,.ref D]) >>= ret) _ _ _
 refine YAa (YAN (YCx (zpn k X I ?_)))
 exact YAc h
theorem zle {M:Model} {nv:Value} {Q:Unit->Shared->Prop} (k:ExK K D) (X:K.In s.heap) (I:ExAt s.heap x D) (hq:Q () s):wpAny M A (checkBuiltinCall "BaseException.__getattribute__" ⟨[.ref x,nv],[]⟩) Q E s:=by
 obtain ⟨hh,g,d,t,os⟩:=s
 have LI:Looks M hh (isInstance (.ref x) (.type "BaseException")) true:=(I.type (M:=M)).andThen (looks_subIn (M:=M) X k.be)
 have hk:builtinKind "BaseException.__getattribute__" = some .slot:=by decide +kernel
 have hsplit:splitId "BaseException.__getattribute__" = some ("BaseException","__getattribute__"):=by decide +kernel
 have ha:=F.args_bexc_ga (.ref x) nv
 simp only [checkBuiltinCall,hk,hsplit]
 refine YAa (LI.at ?_)
 repeat (first | exact hq | wp_step)
theorem zk9 {Q:Option Value->Shared->Prop} (k:ExK K D) (X:K.In s.heap) (I:ExAt s.heap x D) (h:Q (some (.ref D)) { s with toks:=s.toks + 1 }):wpAny (model prog w) A (getAttr? (.ref x) "__class__") Q E s:=by
 obtain ⟨hh,g,d,t,os⟩:=s
 have L0:=I.type (M:=model prog w)
 have L1:=looks_findIn (M:=model prog w) X k.ga
 have L2:=looks_findIn (M:=model prog w) X k.noga
 unfold getAttr? getAttrBy? getAttrBy
 refine YAa (wpAny_mkText (YAa (YBz (YAN (YAa (L0.at (YAa (L1.at ?_))))))))
 show wpAny _ _ (getAttrByItsOwn _ _ _ _ _ _) _ _ _
 unfold getAttrByItsOwn hookBefore callGetattribute
 refine YAa (L2.at ?_)
 refine YAa (YBz (YAN ?_))
 show wpAny _ _ (boundAndCalled _ _ _) _ _ _
 unfold boundAndCalled
 rw [F.excAttr_ValueError.ga.bind]
 refine YAa (YAc ?_)
 refine YCx (codeAny_call_builtin F.excAttr_ValueError.ga.plain F.entry_bexc_ga ?_)
 refine zle k X I ?_
 refine YAL (zlm (E:=fun _ _=>False) (P:=fun v s'=>v = .ref D/\s' = ⟨hh,g,d,t + 1,os⟩) k X I ⟨rfl,rfl⟩) (fun fin s' z=>?_) fun _ _ z=>z.elim
 rcases fin with (_ | _ | _ | v) | _
 ·exact z.elim
 ·exact z.elim
 ·exact z.elim
 ·obtain ⟨rfl,rfl⟩:=z
  exact handed_on rfl (YAc h)
 ·exact z.elim
theorem ExK.it (k:ExK K D) {M:Model} {h:Heap} (X:K.In h):Looks M h (isType (.ref D)) true:=by
 obtain ⟨cdD,hcD⟩:=YBN.mp k.cls
 unfold clsIn at hcD
 split at hcD
 ·rename_i c' d' cd' sl' ho
  intro A' Q' E' s' k q
  unfold isType loadHead
  exact YAa (wpAny_loadPart (k _ _ (X _ _ ho)) (YAc q))
 ·cases hcD
theorem znT (k:ExK K D):KitX K (.ref x) (.ref D) (fun h=>ExAt h x D) where
 ty:=fun _ _ _ I=>I.type
 it:=fun _ _ X _=>k.it X
 ne:=fun h tp dd its n sl X htp=>by
  obtain ⟨cdD,hcD⟩:=YBN.mp k.cls
  refine Bool.eq_false_iff.mpr fun q=>?_
  have e:D = tp:=Value.ref.inj (YBZ.mp q)
  subst e
  unfold clsIn at hcD
  split at hcD
  ·rename_i c' d' cd' sl' ho
   have z:=(X _ _ ho).symm.trans htp
   cases z
  ·cases hcD
 ca:=fun X I q=>zk9 k X I q
theorem zpb {c:Value} {b:Bool} {Q:Value->Shared->Prop} (k:ExK K D) (X:K.In s.heap) (I:ExAt s.heap x D) (e:kitOne K (.ref D) c = some b) (h:∀ tk,Q (.bool b) { s with toks:=tk }) :
  wpAny (model prog w) A (call (.builtin "isinstance") [.ref x,c]) Q E s:=
 kia_one (znT k) X I e (by intro z;cases z) h
end
end L2
set_option maxHeartbeats 400000
namespace L2
open PySem PySem.Spec PyProof.Rows PySem.W
def TrC (h base:Heap) (e:Addr) (cls fl:Value):Prop:=∃ oe vs T oT ts,h.get? e = some oe/\oe.cls = cls/\oe.data = .fields vs/\vs[1]? = some (.ref T)/\vs[2]? = some .none/\base.get? T = none/\T ≠ e/\h.get? T = some oT/\oT.data = .fields ts/\ts[3]? = some fl
def HoldC (base:Heap) (l:List Env) (e:Addr) (cls fl:Value) (h:Heap):Prop:=base.StaysIn h/\base.get? e = none/\h.FunFrames base l/\TrC h base e cls fl
abbrev FlyC (base:Heap) (l:List Env) (e:Addr) (cls:Value) (h:Heap):Prop:=HoldC base l e cls .none h
theorem HoldC.first {base h:Heap} {l:List Env} {e:Addr} {cls fl:Value} (x:HoldC base l e cls fl h):∃ oe vs,h.get? e = some oe/\oe.cls = cls/\oe.data = .fields vs/\vs[2]? = some .none:=
 let ⟨_,_,_,oe,vs,_,_,_,he,hc,hd,_,h2,_⟩:=x;⟨oe,vs,he,hc,hd,h2⟩
section
variable {M:Model} {A:Around} {E:Value->Shared->Prop} {s:Shared} {base:Heap} {env:Env} {l outer:List Env} {e L:Addr} {cls fl:Value} {Q:Unit->Shared->Prop}
theorem zo6 {oe:Obj} {vs:Array Value} {head:Value} {had:Bool} (hfr:A.frames = some (env :: outer)) (hl:s.heap.FunFrames base (env :: outer)) (hf:env.frame = some L) (he:s.heap.get? e = some oe) (hkb:base.StaysIn s.heap) (hen:base.get? e = none) (hd:oe.data = .fields vs) (hsz:1 < vs.size) (h2:vs[2]? = some .none)
  (h:∀ h',HoldC base (env :: outer) e oe.cls (rawInt L) h'->s.heap.UpToSlots h'->Q () { s with heap:=h' }):wpAny M A (do let a <- frameOf env;let pl <- entryPlaceOf L had;let b <- EntryCells.newEntry head a .none (rawInt L) .none pl;setField (.ref e) 1 b) Q E s:=by
 have nfr:e ∉ (env :: outer).filterMap (·.frame):=fun hm=>by
  obtain ⟨_,o,ho,hnf⟩:=hl.mem hm
  rw [he] at ho
  cases ho
  exact hnf vs hd
 refine YAa (wpAny_frameOf_fun hfr hl hf fun h1 s1=>YAa (wpAny_entryPlaceOf fun pl hpl=>?_))
 unfold EntryCells.newEntry newFields
 refine YAa (YAD ?_ (hpl.sizeOk5 _ _ _ _ _))
 have e1:h1.get? e = some oe:=(s1.2.1 e nfr).trans he
 have b1:base.StaysIn h1:=fun b o q=>(s1.2.1 b fun hm=>by rw [(hl.mem hm).1] at q;cases q).trans (hkb b o q)
 have hT:h1.objs.size ≠ e:=YBr (YAg e1)
 generalize hob:({ cls:=.type "traceback",dict:=none,data:=.fields ([head,.ref L,.none,rawInt L,.none] ++ (if pl.isEmpty then List.replicate 6 Value.none else pl)).toArray }:Obj) = ob
 have e2:=YAb (h:=h1) ob e1
 refine YBv e2 hd hsz ?_
 have d3:=YBu hd (·.setIfInBounds 1 (Value.ref h1.objs.size))
 have keep:∀ b o,b ≠ e->h1.get? b = some o->((h1.push ob).update e (Obj.mapFields (·.setIfInBounds 1 (Value.ref h1.objs.size)))).get? b = some o:=fun b o n q=>by
  rw [YAC _ _ (YAH n)]
  exact YAb _ q
 have rec':∀ b o,s.heap.get? b = some o->(∀ vs,o.data ≠ .fields vs)->b ≠ e:=fun b o q n z=>by
  rw [z,he] at q
  cases q
  exact n vs hd
 have slots:s.heap.UpToSlots ((h1.push ob).update e (Obj.mapFields (·.setIfInBounds 1 (Value.ref h1.objs.size)))):=fun b o q n=>by
  obtain ⟨sl,z⟩:=s1.2.2 b o q
  exact ⟨sl,keep b _ (rec' b o q n) z⟩
 refine h _ ⟨fun b o q=>keep b o (fun z=>by rw [z,hen] at q;cases q) (b1 b o q),hen,hl.of_keeps fun b o q n=>?_,?_⟩ slots
 ·obtain ⟨sl,z⟩:=slots b o q n
  exact ⟨_,z,rfl⟩
 ·refine ⟨_,_,h1.objs.size,ob,_,YAK _ e2 (YBE d3),YB0 _ _,d3,by simp [hsz],by rw [Array.getElem?_setIfInBounds_ne (by decide)];exact h2,b1.fresh,hT,?_,by rw [<- hob],?_⟩
  ·rw [YAC _ _ (YAH hT)]
   exact YAj h1 (by rw [<- hob];rfl)
  ·rcases hpl with rfl | ⟨_,_,_,_,_,_,_,rfl⟩ <;> simp
theorem zni {oe:Obj} {vs:Array Value} (hfr:A.frames = some (env :: outer)) (hl:s.heap.FunFrames base (env :: outer)) (hf:env.frame = some L) (he:s.heap.get? e = some oe) (hkb:base.StaysIn s.heap) (hen:base.get? e = none) (hd:oe.data = .fields vs) (h1:vs[1]? = some .none) (h2:vs[2]? = some .none)
  (h:∀ h',HoldC base (env :: outer) e oe.cls (rawInt L) h'->s.heap.UpToSlots h'->Q () { s with heap:=h' }):wpAny M A (noteFrame (.ref e) env) Q E s:=by
 unfold noteFrame
 simp only [hf]
 refine YAa (YAz he hd h1 ?_)
 rw [if_neg (by decide)]
 exact zo6 hfr hl hf he hkb hen hd (YBo.mp h1).1 h2 h
theorem zmE (hfr:A.frames = some (env :: outer)) (hf:env.frame = some L) (x:FlyC base (env :: outer) e cls s.heap) (h:∀ h',HoldC base (env :: outer) e cls (rawInt L) h'->s.heap.UpToSlots h'->Q () { s with heap:=h' }):wpAny M A (noteFrame (.ref e) env) Q E s:=by
 obtain ⟨kb,en,fl,oe,vs,T,oT,ts,he,hc,hd,v1,v2,nT,Te,hT,dT,t3⟩:=x
 subst hc
 unfold noteFrame
 simp only [hf]
 refine YAa (YAz he hd v1 ?_)
 rw [if_pos (show (Value.ref T != Value.none) = true from by simp)]
 refine YAa (YAz hT dT t3 ?_)
 rw [if_neg (show ¬ ((Value.none == rawInt L) = true) from by simp [rawInt])]
 refine YAa (YBv hT dT (YBo.mp t3).1 ?_)
 have oth:∀ b,b ≠ T->(s.heap.update T (Obj.mapFields (·.setIfInBounds 3 Value.none))).get? b = s.heap.get? b:=fun b n=>YAC _ _ (YAH n)
 have rec':∀ b o,s.heap.get? b = some o->(∀ vs,o.data ≠ .fields vs)->b ≠ T:=fun b o q n z=>by
  rw [z,hT] at q
  cases q
  exact n ts dT
 refine zo6 hfr (fl.of_keeps fun b o q n=>⟨o,(oth b (rec' b o q n)).trans q,rfl⟩) hf ((oth e (YAH Te)).trans he) (fun b o q=>(oth b fun z=>by rw [z,nT] at q;cases q).trans (kb b o q)) en hd (YBo.mp v1).1 v2 fun h' z u=>h h' z fun b o q n=>u b o ((oth b (rec' b o q n)).trans q) n
theorem zhm (x:HoldC base l e cls fl s.heap) (h:∀ h',FlyC base l e cls h'->s.heap.UpToSlots h'->Q () { s with heap:=h' }):wpAny M A (setFlight (.ref e) none) Q E s:=by
 obtain ⟨kb,en,ff,oe,vs,T,oT,ts,he,hc,hd,v1,v2,nT,Te,hT,dT,t3⟩:=x
 have oth:∀ b,b ≠ T->(s.heap.update T (Obj.mapFields (·.setIfInBounds 3 ((none:Option Addr).elim Value.none fun f=>rawInt f)))).get? b = s.heap.get? b:=fun b n=>YAC _ _ (YAH n)
 have rec':∀ b o,s.heap.get? b = some o->(∀ vs,o.data ≠ .fields vs)->b ≠ T:=fun b o q n z=>by
  rw [z,hT] at q
  cases q
  exact n ts dT
 have z3:=(YBo.mp t3).1
 unfold setFlight
 refine YAa (YAz he hd v1 ?_)
 rw [if_pos (show (Value.ref T != Value.none) = true from by simp)]
 have dT':=YBu dT (·.setIfInBounds 3 ((none:Option Addr).elim Value.none fun f=>rawInt f))
 refine YBv hT dT z3 (h _ ⟨fun b o q=>(oth b fun z=>by rw [z,nT] at q;cases q).trans (kb b o q),en,ff.of_keeps fun b o q n=>⟨o,(oth b (rec' b o q n)).trans q,rfl⟩,oe,vs,T,_,_,(oth e (YAH Te)).trans he,hc,hd,v1,v2,nT,Te,YAK _ hT (YBE dT'),dT',by simp [z3]⟩ fun b o q n=>⟨o.slots,(oth b (rec' b o q n)).trans q⟩)
theorem HoldC.out {h:Heap} (x:HoldC base (env :: outer) e cls fl h):HoldC base outer e cls fl h:=⟨x.1,x.2.1,x.2.2.1.2.2,x.2.2.2⟩
theorem znh (hfr:A.frames = some (env :: outer)) (hf:env.frame = some L) (x:FlyC base (env :: outer) e cls s.heap) (h:∀ h',FlyC base outer e cls h'->s.heap.UpToSlots h'->Q () { s with heap:=h' }):wpAny M A (leaving env (.ref e)) Q E s:=by
 unfold leaving
 exact YAa (zmE hfr hf x fun h1 y u=>zhm y fun h2 z v=>h h2 z.out (u.trans v))
theorem zly {h0:Heap} {args:List Value} (hfr:A.frames = some (env :: outer)) (hf:env.frame = some L) (hkb:base.StaysIn h0) (hl:h0.FunFrames base (env :: outer)) (hx:Heap.MadeExcOf h0 s.heap e cls args) (h:∀ h',FlyC base outer e cls h'->s.heap.UpToSlots h'->Q () { s with heap:=h' }):wpAny M A (leaving env (.ref e)) Q E s:=by
 obtain ⟨t,he,_,_⟩:=hx.there
 have en:base.get? e = none:=by
  cases q:base.get? e with
  | none=>rfl
  | some o=>have:=hkb e o q;rw [hx.new] at this;cases this
 unfold leaving
 exact YAa (zni hfr (hl.of_keeps fun b o q _=>⟨o,hx.keeps b o q,rfl⟩) hf he (fun b o q=>hx.keeps b o (hkb b o q)) en rfl rfl rfl fun h1 y u=>zhm y fun h2 z v=>h h2 z.out (u.trans v))
end
section
variable {X:Cx} {pins:List (Addr × Obj)} {σ:St} {H:Hp} {s:Shared}
theorem zpm {M:Model} {A:Around} {E:Value->Shared->Prop} {i:Nat} {x:Str} {pos:Pos} {Q:Unit->Shared->Prop} (I:Inv X pins σ H s) (hN:X.N.Nodup) (hi:X.N[i]? = some x) (hk:X.env.scope.names.lookup x = some .local) (h:∀ s',Inv X pins (σ.set i none) H s'->Q () s') :
  wpAny M A (do bindName X.env x .none;unbindBehindTheSuite X.env x pos) Q E s:=by
 obtain ⟨m,hn,hl⟩:=id I.loc
 have hcls:(X.env.scope.kind == .class || (X.env.scope.kind == .module && X.env.locals != X.env.globals)) = false:=by rw [I.ok.kind];rfl
 have hiσ:i < σ.length:=by rw [I.len];exact (YAe.mp hi).1
 refine wpAny_nameGoes_keeps hk hn hcls fun h' v hn' hs=>?_
 obtain ⟨oL,_,_,hoL,_⟩:=id hn
 have neL:∀ {b o},X.s₀.heap.get? b = some o->b ≠ X.env.locals:=fun e=>YAp (YAl (YAg e) I.ok.above)
 refine h _ ⟨I.ok,I.os,I.bare,⟨fun b o e n hb hx=>(hs.2 b (neL e)).trans (I.base.keep b o e n hb hx),fun b o e n hb hx=>?_,I.base.free,fun b o e hx=>?_,I.base.tups,I.base.frzs,I.base.tbls⟩,⟨_,hn',fun j y v' e1 e2 e3=>?_⟩,fun y c e=>?_,I.free,I.freeC,fun p hp=>?_,fun b ob e=>(I.hok b ob e).stay (fun c w' hc q=>(hs.2 c ?_).trans q) (fun _ q=>q) fun _ _ q=>q,by simpa using I.len⟩
 ·obtain ⟨sl,e1⟩:=I.base.slot b o e n hb hx
  exact ⟨sl,(hs.2 b (neL e)).trans e1⟩
 ·obtain ⟨o',e1⟩:=I.base.there b o e hx
  exact ⟨o',(hs.2 b (neL e)).trans e1⟩
 ·by_cases hj:j = i
  ·subst hj
   rw [YAh hiσ] at e2
   cases e2
  ·rw [YAi (YAH hj)] at e2
   obtain ⟨u',r',q⟩:=hl j y v' e1 e2 e3
   refine ⟨u',r',?_⟩
   rcases q with ⟨k,e⟩ | ⟨k,c,e,z⟩
   ·refine .inl ⟨k,?_⟩
    have:y ≠ x:=fun e=>hj (zhl hN e1 (e ▸ hi))
    simp [this,e]
   ·exact .inr ⟨k,c,e,z.sameBut hs (I.cne y c e)⟩
 ·obtain ⟨w',z⟩:=I.cell y c e
  exact ⟨w',z.sameBut hs (I.cne y c e)⟩
 ·obtain ⟨e,n,ne,nf,d⟩:=I.pin p hp
  exact ⟨(hs.2 p.1 ne).trans e,n,ne,nf,d⟩
 ·rintro rfl
  rcases hc with z | z
  ·rw [<- z,I.free] at e;cases e
  ·rw [I.free] at z;cases z
end
theorem ObjOk.ex {P:Program} {w:World} {H:Hp} {h:Heap} {a:Addr} {o:HO} (x:ObjOk P w H h a o):∃ u,h.get? a = some u:=by
 cases o with
 | lst xs=>obtain ⟨_,_,_,_,e⟩:=x;exact ⟨_,e⟩
 | tup xs=>obtain ⟨_,_,_,_,e,_⟩:=x;exact ⟨_,e⟩
 | dK kvs=>obtain ⟨_,_,_,_,o,_,_,e,_⟩:=x;exact ⟨_,e⟩
 | dT kvs=>obtain ⟨_,_,_,_,o,_,_,e,_⟩:=x;exact ⟨_,e⟩
 | set S n=>obtain ⟨o,_,_,_,e,_⟩:=x;exact ⟨_,e⟩
 | ins C dx fs=>obtain ⟨_,_,_,e,_⟩:=x;exact ⟨_,e⟩
 | own y=>obtain ⟨_,e⟩:=x;exact ⟨_,e⟩
 | xd fs=>obtain ⟨_,⟨_,_,_,e,_⟩,_⟩:=x;exact ⟨_,e⟩
 | rng lo hi=>obtain ⟨_,_,_,e⟩:=x;exact ⟨_,e⟩
 | frz ob u=>obtain ⟨e,_⟩:=x;exact ⟨_,e⟩
 | tbl ps=>exact ⟨_,show h.get? a = some _ from x⟩
 | met f y=>exact ⟨_,show h.get? a = some _ from x⟩
 | ext φ=>obtain ⟨_,⟨_,e⟩,_⟩:=x;exact ⟨_,e⟩
structure ExN (P:Program) (w:World) (outer:List Env) (H:Hp) (s:Shared) (ea C:Addr) (H':Hp) (s':Shared):Prop where
 os:s'.os = s.os
 bare:AllBare s'.gens
 un:Un (frs outer) [] H H' s.heap s'.heap
 hok:HOk P w H' s'.heap
 fly:∃ B,FlyC B outer ea (.ref C) s'.heap/\∀ b o,s'.heap.get? b = some o->((∃ u,H' b = some u)\/∃ u,s.heap.get? b = some u)->b ∉ frs outer->B.get? b = some o
def CXN (P:Program) (w:World):CXT:=fun outer H s E e s'=>∃ ea C H',e = .ref ea/\ExN P w outer H s ea C H' s'/\E (.ref C) none H'
section
variable {P:Program} {w:World} {K:PySem.W.Frag} {mg:Str->Option Value} {base:Heap} {N:List Str} {qual:Str} {scope:Scope} {f:Addr} {cd:Value} {A:Around} {outer:List Env} {s0 s:Shared} {H0 H:Hp} {E:XK} {pins:List (Addr × Obj)} {σ:St} {e C:Addr} {args:List Value} {h':Heap}
theorem zfo (I:Inv (cxOf (CXN P w) P w K mg base N qual scope f cd A outer s0 H0 E) pins σ H s) (hx:Heap.MadeExcOf s.heap h' e (.ref C) args) (hE:E (.ref C) none H):(cxOf (CXN P w) P w K mg base N qual scope f cd A outer s0 H0 E).xe (.ref e) { s with heap:=h' }:=by
 have fr:=I.stack
 have nex:∀ {b:Addr},b ∉ ([]:List Addr):=fun z=>nomatch z
 have neL:∀ {b o},s0.heap.get? b = some o->b ≠ s0.heap.objs.size:=fun e=>YAp (YAg e)
 have hin:∀ env ∈ (cxOf (CXN P w) P w K mg base N qual scope f cd A outer s0 H0 E).stack,∀ b,env.frame = some b->b ∈ frs (cxOf (CXN P w) P w K mg base N qual scope f cd A outer s0 H0 E).stack:=fun env he b hb=>YBs.mpr ⟨env,he,hb⟩
 refine zly (h0:=s.heap) (base:=hideAll s.heap (frs (cxOf (CXN P w) P w K mg base N qual scope f cd A outer s0 H0 E).stack)) I.ok.frames rfl (fun b o q=>of_hideAll _ q) (funFrames_hide fr hin) hx fun h2 x1 x4=>?_
 have sub:∀ {b},b ∉ frs outer->b ≠ s0.heap.objs.size->b ∉ frs (cxOf (CXN P w) P w K mg base N qual scope f cd A outer s0 H0 E).stack:=fun h1 h2 h3=>(YAr.mp (I.stkSub _ h3)).elim h2 h1
 have keepB:∀ {b o},s.heap.get? b = some o->b ∉ frs (cxOf (CXN P w) P w K mg base N qual scope f cd A outer s0 H0 E).stack->h2.get? b = some o:=fun q n=>x1.1 _ _ (hideAll_get _ q n)
 have trk:∀ {b u},H b = some u->b ∉ frs (cxOf (CXN P w) P w K mg base N qual scope f cd A outer s0 H0 E).stack:=fun q z=>by rw [I.stkFree _ z] at q;cases q
 have slt:∀ {b o},s.heap.get? b = some o->b ∈ frs outer->∃ sl,h2.get? b = some { o with slots:=sl }:=fun {b o} q z=>by
  obtain ⟨_,o',ho,hd⟩:=I.funs.mem z
  rw [q] at ho
  cases ho
  exact x4 b o (hx.keeps b o q) hd
 refine ⟨e,C,H,rfl,⟨I.os,I.bare,⟨fun b o q n nf _=>keepB (I.base.keep b o q n nf nex) (sub nf (neL q)),fun b o q n nf _=>?_,fun b o q n _=>I.base.free b o q n nex,fun b o q _=>?_,I.base.tups,I.base.frzs,I.base.tbls⟩,fun a o q=>(I.hok a o q).stay (fun b u hb q2=>keepB q2 ?_) (fun _ z=>z) fun _ _ z=>z,_,x1,fun b o q hb nf=>?_⟩,hE⟩
 ·obtain ⟨sl,e1⟩:=I.base.slot b o q n nf nex
  obtain ⟨sl',e2⟩:=slt e1 nf
  exact ⟨sl',e2⟩
 ·obtain ⟨o',e1⟩:=I.base.there b o q nex
  by_cases z:b ∈ frs outer
  ·obtain ⟨sl',e2⟩:=slt e1 z
   exact ⟨_,e2⟩
  ·exact ⟨_,keepB e1 (sub z (neL q))⟩
 ·rcases hb with rfl | hb
  ·exact trk q
  ·exact trk hb
 ·rcases hb with ⟨u,hu⟩ | ⟨u,hu⟩
  ·obtain ⟨v,hv⟩:=(I.hok b u hu).ex
   have:=keepB hv (trk hu)
   rw [this] at q
   cases q
   exact hideAll_get _ hv (trk hu)
  ·obtain ⟨o',e1⟩:=I.base.there b u hu nex
   have:=keepB e1 (sub nf (neL hu))
   rw [this] at q
   cases q
   exact hideAll_get _ e1 (sub nf (neL hu))
end
abbrev Cx.sup (X:Cx) (ea:Addr) (oe:Obj) (E:Value->Shared->Prop):Cx:={ X with A:=X.A.mark (some (.ref ea)),calm:=false,xe:=E,pn:=(ea,oe) :: X.pn }
section
variable {X:Cx} {pins:List (Addr × Obj)} {σ:St} {H H':Hp} {s s':Shared} {ea C:Addr} {oe:Obj} {E:Value->Shared->Prop}
theorem Cx.Ok.sup (ok:X.Ok):(X.sup ea oe E).Ok:=
 ⟨ok.mod,ok.kind,ok.glob,ok.blt,ok.above,ok.inj,ok.has,ok.cab,(fun z=>by cases z),ok.frames,ok.stk,ok.exf,ok.bs,ok.bsz,ok.noex,ok.exfs,ok.funs,ok.frf⟩
theorem Inv.sup (I:Inv X pins σ H s) (h1:s.heap.get? ea = some oe) (h2:H ea = none) (h3:ea ≠ X.env.locals) (h4:ea ∉ X.fs) (h5:∀ v,oe.data ≠ .cell v):Inv (X.sup ea oe E) pins σ H s:=
 ⟨I.ok.sup,I.os,I.bare,I.base,I.loc,I.cell,I.free,I.freeC,fun p hp=>by
  rcases YAr.mp hp with rfl | hp
  ·exact ⟨h1,h2,h3,h4,h5⟩
  ·exact I.pin p hp,I.hok,I.len⟩
theorem Inv.unsup (I:Inv (X.sup ea oe E) pins σ H s) (ok:X.Ok):Inv X pins σ H s:=⟨ok,I.os,I.bare,I.base,I.loc,I.cell,I.free,I.freeC,fun p hp=>I.pin p (YAq _ hp),I.hok,I.len⟩
theorem ExN.on {h':Heap} {B:Heap} {outer:List Env} {P:Program} {w:World} (N:ExN P w outer H s ea C H' s') (hB:∀ b o,s'.heap.get? b = some o->((∃ u,H' b = some u)\/∃ u,s.heap.get? b = some u)->b ∉ frs outer->B.get? b = some o) (ff:s'.heap.FunFrames B outer) (hf:∀ b ∈ frs outer,H b = none) (st:B.StaysIn h') (sm:s'.heap.UpToSlots h') (fr:∀ b ∈ frs outer,∃ o,s.heap.get? b = some o) :
  Un (frs outer) [] H H' s.heap h'/\HOk P w H' h':=by
 have nex:∀ {b:Addr},b ∉ ([]:List Addr):=fun z=>nomatch z
 have slt:∀ {b o},s'.heap.get? b = some o->b ∈ frs outer->∃ sl,h'.get? b = some { o with slots:=sl }:=fun {b o} q z=>by
  obtain ⟨_,o',ho,hd⟩:=ff.mem z
  rw [q] at ho
  cases ho
  exact sm b o q hd
 have trk:∀ {b u},H' b = some u->b ∉ frs outer:=fun {b u} q z=>by
  obtain ⟨o,ho⟩:=fr b z
  rw [N.un.free b o ho (hf b z) nex] at q
  cases q
 refine ⟨⟨fun b o q n nf _=>st _ _ (hB b o (N.un.keep b o q n nf nex) (.inr ⟨_,q⟩) nf),fun b o q n nf _=>?_,fun b o q n _=>N.un.free b o q n nex,fun b o q _=>?_,N.un.tups,N.un.frzs,N.un.tbls⟩,fun a o q=>(N.hok a o q).stay (fun b u hb q2=>?_) (fun _ z=>z) fun _ _ z=>z⟩
 ·obtain ⟨sl,e1⟩:=N.un.slot b o q n nf nex
  obtain ⟨sl',e2⟩:=slt e1 nf
  exact ⟨sl',e2⟩
 ·obtain ⟨o',e1⟩:=N.un.there b o q nex
  by_cases z:b ∈ frs outer
  ·obtain ⟨sl',e2⟩:=slt e1 z
   exact ⟨_,e2⟩
  ·exact ⟨_,st _ _ (hB b o' e1 (.inr ⟨_,q⟩) z)⟩
 ·have hu:∃ v,H' b = some v:=by
   rcases hb with rfl | hb
   ·exact ⟨_,q⟩
   ·exact ⟨_,hb⟩
  obtain ⟨v,hv⟩:=hu
  exact st _ _ (hB b u q2 (.inl ⟨v,hv⟩) (trk hv))
theorem zsB {Q:Flow->Shared->Prop} {x n:Str} {D:Addr} {i:Nat} {b₀:Stmt} {suite:List Stmt} {pos np:Pos} {rest:List ExceptHandler} (I:Inv X pins σ H s) (hs:X.stack = X.env :: X.outer) (hf:X.env.frame = some X.env.locals) (N:ExN X.prog X.w X.stack H s ea C H' s') (hg:Gl X x) (hm:X.mg x = some (.ref D))
  (he:exmOne X.K (.ref C) (.ref D) = some true) (hN:X.N.Nodup) (hi:X.N[i]? = some n) (hk:X.env.scope.names.lookup n = some .local)
  (k:∀ oe s2,oe.cls = .ref C->(∃ vs,oe.data = .fields vs/\vs[2]? = some Value.none)->Inv (X.sup ea oe fun _ _=>False) pins (σ.set i (some (.ref ea))) H' s2->wpAny (model X.prog X.w) (X.A.mark (some (.ref ea))) (execs (b₀ :: suite) X.env) (fun f s₄=>wpAny (model X.prog X.w) X.A (do bindName X.env n .none;unbindBehindTheSuite X.env n pos) (fun _ s₅=>Q f s₅) E s₄) (fun _ _=>False) s2)
  (hd:(x == ("__debug__" : Str)) = false:=by decide) :
  wpAny (model X.prog X.w) X.A (noteFrame (.ref ea) X.env) (fun _ s₂=>wpAny (model X.prog X.w) X.A (setFlight (.ref ea) none) (fun _ s₃=>wpAny (model X.prog X.w) X.A (handleBy (.ref ea) X.env (.ExceptHandler (some (.Name x np)) (some n) (b₀ :: suite) pos :: rest)) Q E s₃) E s₂) E s':=by
 obtain ⟨B,fl,hB⟩:=id N.fly
 have fl':=fl
 rw [hs] at fl'
 have hA:X.A.frames = some (X.env :: X.outer):=by rw [<- hs];exact I.ok.frames
 have frx:∀ b ∈ frs X.stack,∃ o,s.heap.get? b = some o:=fun b hb=>by
  obtain ⟨_,o,ho,_⟩:=I.stack.mem hb
  exact ⟨o,ho⟩
 refine zmE hA hf fl' fun h4 held sm4=>?_
 refine zhm held fun h5 fl5 sm5=>?_
 have on5:=N.on hB fl.2.2.1 I.stkFree fl5.1 (sm4.trans sm5) frx
 have I5:Inv X pins σ H' { s' with heap:=h5 }:=I.call' (s':={ s' with heap:=h5 }) N.os on5.1 on5.2 N.bare fun b z=>nomatch z
 have sub:∀ {b},b = X.env.locals\/b ∈ X.fs->b ∈ frs (X.env :: X.outer):=fun {b} z=>by
  show b ∈ (X.env :: X.outer).filterMap (·.frame)
  rw [YAZ,hf]
  exact YAr.mpr z
 have apart:∀ {h:Heap} {oe:Obj} {vs:Array Value},h.FunFrames B (X.env :: X.outer)->h.get? ea = some oe->oe.data = .fields vs->∀ {b},b = X.env.locals\/b ∈ X.fs->ea ≠ b:=fun {h oe vs} ff e1 e2 {b} z e3=>by
  obtain ⟨_,o,ho,hd⟩:=ff.mem (sub z)
  rw [<- e3,e1] at ho
  cases ho
  exact hd _ e2
 have hea:H' ea = none:=by
  cases q:H' ea with
  | none=>rfl
  | some u=>
   obtain ⟨v,hv⟩:=(N.hok ea u q).ex
   obtain ⟨oe,vs,e1,_,e3,_⟩:=fl'.first
   have nf:ea ∉ frs X.stack:=fun z=>by
    rw [hs] at z
    obtain ⟨_,o,ho,hd⟩:=fl'.2.2.1.mem z
    rw [e1] at ho
    cases ho
    exact hd _ e3
   have:=hB ea v hv (.inl ⟨u,q⟩) nf
   rw [fl.2.1] at this
   cases this
 have sup:∀ {h:Heap} {σ:St} {t:Nat},FlyC B (X.env :: X.outer) ea (.ref C) h->Inv X pins σ H' { s' with heap:=h,toks:=t }->∃ oe,(oe.cls = .ref C/\∃ vs,oe.data = .fields vs/\vs[2]? = some Value.none)/\h.get? ea = some oe/\Inv (X.sup ea oe fun _ _=>False) pins σ H' { s' with heap:=h,toks:=t }:=fun fl I=>by
  obtain ⟨oe,vs,e1,e2,e3,e4⟩:=fl.first
  exact ⟨oe,⟨e2,vs,e3,e4⟩,e1,I.sup e1 hea (apart fl.2.2.1 e1 e3 (.inl rfl)) (fun z=>apart fl.2.2.1 e1 e3 (.inr z) rfl) fun v q=>by rw [e3] at q;cases q⟩
 obtain ⟨oe5,c5,g5,S5⟩:=sup fl5 I5
 refine wpAny_handleBy_cons (codeAny_handlers_test (zdh S5 hg hm ?_ hd)) (by intro q;cases q)
 refine (exm_one (M:=model X.prog X.w) I5.kIn (c5.1 ▸ (Looks.ld g5).andThen .now) he).here (codeAny_handlers_suite_as ?_)
 refine zhm fl5 fun h6 fl6 sm6=>?_
 have on6:=N.on hB fl.2.2.1 I.stkFree fl6.1 ((sm4.trans sm5).trans sm6) frx
 have I6:Inv X pins σ H' { s' with heap:=h6 }:=I.call' (s':={ s' with heap:=h6 }) N.os on6.1 on6.2 N.bare fun b z=>nomatch z
 obtain ⟨oe,c6,g6,S6⟩:=sup fl6 I6
 refine zem (X:=X.sup ea oe fun _ _=>False) S6 hN hi (.inl hk) (v:=.ref ea) rfl (fun s7 I7=>?_) (.inr hk)
 exact YAL (k oe s7 c6.1 c6.2 I7) (fun _ _ z=>z) fun _ _ z=>z.elim
end
abbrev zkY:List Value:=[.type "ValueError",.type "Exception",.type "BaseException",.type "object"]
theorem zrU {K:PySem.W.Frag} {h:Heap} {C:Addr} {bmB:List Value} {newId:String} (X:K.In h) (q:excIn K C bmB newId = true):∃ bm N nm q bs hdct sn sub ab col dd k0 k1 k2 k3 k5 mN,h.get? C = some (excClassObj nm q C N bs bm hdct sn sub ab col dd k0 k1 k2 k3 k5 newId)/\h.Ns N mN/\mN "__init__" = none/\OwnTail h bmB bm:=by
 unfold excIn at q
 split at q
 ·rename_i dd cd sl ho
  split at q
  ·rename_i C' bm k0 k1 k2 k3 n k5 hm hs
   simp only [YAx,YBZ,Bool.not_eq_true'] at q
   obtain ⟨⟨⟨⟨⟨rfl,rfl⟩,hdel⟩,ht⟩,hok⟩,hni⟩:=q
   obtain ⟨nm,bs,mro,ns,qn,hd,sn,sub,ab,col,del⟩:=cd
   dsimp only at hm hdel hok hni
   subst hm hdel
   have hsl:sl = #[k0,k1,k2,k3,some (.builtin n),k5]:=by
    obtain ⟨l⟩:=sl
    simp only at hs
    rw [hs]
   subst hsl
   exact ⟨bm,ns,nm,qn,bs,hd,sn,sub,ab,col,dd,k0,k1,k2,k3,k5,_,X _ _ ho,.of_isNs (isNs_of_in X hok),nsMap_none_of_in X hok hni,tail_of_in X ht⟩
  ·cases q
 ·cases q
section
variable {X:Cx} {pins:List (Addr × Obj)} {σ:St} {H:Hp} {s:Shared}
theorem zn8 {x:Str} {C:Addr} {e:Expr} {es:List Expr} {t:TA} {np cpos pos:Pos} {Y:Ends->St->Hp->Prop} (hc:X.calm = true) (ho:excIn X.K C zkY "ValueError.__new__" = true) (hg:Gl X x) (hm:X.mg x = some (.ref C)) (ha:PA X (e :: es) t)
  (hx:∀ pins s σ H h' ea us,Inv X pins σ H s->Heap.MadeExcOf s.heap h' ea (.ref C) us->∀ D,Y D σ H->X.xe (.ref ea) { s with heap:=h' })
  (hd:(x == ("__debug__" : Str)) = false:=by decide) (he:starEach (e :: es) X.env = (false,eval e X.env) :: starEach es X.env:=by rfl) (hpl:(backTo cpos (starEach es X.env)).any (·.1) = false:=by rfl) :
  PS X (.Raise (some (.Call (.Name x np) (e :: es) [] cpos)) none pos) (fun D σ H=>t σ H fun vs H'=>vs.length <= sizeLine/\Y D σ H'):=by
 intro pins s σ H D I h
 have hh:=I.ok.hd hc
 obtain ⟨bm,N,nm,q,bs,hdct,sn,sub,ab,col,dd,k0,k1,k2,k3,k5,mN,hC,hN,hni,T⟩:=zrU I.ok.mod.kin ho
 refine wpAny_Raise_call_subT (C:=C) (nm:=nm) (q:=q) (N:=N) (bs:=bs) (bm:=bm) (hdct:=hdct) (sn:=sn) (sub:=sub) (ab:=ab) (col:=col) (dd:=dd) (k0:=k0) (k1:=k1) (k2:=k2) (k3:=k3) (k5:=k5) (mN:=mN) F.excBase_ValueError (T.hasType F.excBase_ValueError.hasBase) hh (by rw [he];show (false || (backTo cpos (starEach es X.env)).any (·.1)) = false;rw [hpl];rfl) hni (zdh I hg hm ⟨rfl,?_⟩ hd)
 have ha':=ha cpos pins s σ H _ I h
 rw [he] at ha' ⊢
 refine Calls.evalArgs_plain (YAL ha' (fun us s2 ⟨vs,H2,I2,r2,z,q2⟩=>?_) fun _ _ y=>y)
 exact ⟨rfl,by rw [<- r2.length];exact z,I2.bk _ _ hC,hN.keeps I2.bk,T.keeps I2.bk,fun h' e hm'=>hx pins s2 σ H2 h' e us I2 hm' D q2⟩
theorem PA.nox {es:List Expr} {t:TA} (h:PA X.nox es t):PA X es t:=fun pos pins s σ H Q I hw=>
 YAL (h pos pins s σ H Q (I.wish _) hw) (fun _ _ ⟨v,H',I',r,q⟩=>⟨v,H',I'.unwish,r,q⟩) fun _ _ z=>False.elim z
theorem PS.nox {st:Stmt} {t:TS} (h:PS X.nox st t):PS X st t:=fun pins s σ H D I hw=>
 YAL (h pins s σ H D (I.wish _) hw) (fun _ _ q=>q.unwish) fun _ _ z=>False.elim z
end
end L2
namespace Fd
open PySem L2
abbrev FnX:=List D->(D->Prop)->(Str->Prop)->Prop
def upX (F:FnX):FnX:=fun ds Q Y=>∃ (P:D->Prop) (Z:Str->Prop),F ds P Z/\(∀ d,P d->Q d)/\∀ n,Z n->Y n
theorem zds (F:FnX) {ds:List D} {Q Q':D->Prop} {Y Y':Str->Prop} (k:∀ d,Q d->Q' d) (l:∀ n,Y n->Y' n):upX F ds Q Y->upX F ds Q' Y':=fun ⟨P,Z,h1,h2,h3⟩=>⟨P,Z,h1,fun d z=>k d (h2 d z),fun n z=>l n (h3 n z)⟩
def spDX (K:PySem.W.Frag) (mg:Str->Option Value) (n:Nat) (F:FnX):Sp:=fun vs H Q E=>∃ β G ds,Same G H/\BoxD β H G/\Reps ⟨K,β,fun _=>none,G,True⟩ G ds vs/\vs.length = n/\upX F ds (fun d=>∀ v H' G',Stp β H G H' G'->Rep ⟨K,β,H,G,True⟩ G' d v->Q v H') fun nm=>∀ C H' G',mg nm = some (.ref C)->Stp β H G H' G'->E (.ref C) none H'
def fnWX (n:Nat) (B:(Str->Prop)->WS):FnX:=fun ds Q Y=>B Y { nx:=fun _=>Q .non,rt:=Q,bk:=fun _=>False,ct:=fun _=>False } (zaw n ds)
theorem zgA {P:Program} {w:World} {K:PySem.W.Frag} {mg:Str->Option Value} {base:Heap} {x qual:Str} {st:Stmt} {f:Addr} {fd:FuncData} {N ps:List Str} {k:Nat} {B:(Str->Prop)->WS} (F:Fun K x qual st f fd)
  (hB:∀ {cdv:Value} {A:Around} {outer:List PySem.Env} {s:Shared} {H:Hp} {E:XK} {β:Addr} {G:Hp} (Y:Str->Prop),(∀ nm C H' G',Y nm->mg nm = some (.ref C)->Stp β H G H' G'->E (.ref C) none H')->N.Nodup->Room k (A.deeper (PyProof.Rows.envOfC qual (zaj st) s.heap.objs.size f cdv)) ->
   DSs (cxOf (CXN P w) P w K mg base N qual (zaj st) f cdv A outer s H E) ⟨K,β,H,G,True⟩ (zaX st) (B Y)) (S:FnScope N ps (zaj st):=by exact ⟨rfl,rfl,rfl,by decide +kernel,rfl,by decide +kernel,by decide +kernel⟩):FnOk P w K mg base (CXN P w) (k + 1) f fd ps (spDX K mg ps.length (fnWX N.length B)):=by
 obtain ⟨oc,od,kV,doc,pm,an,cdv,ct,osl,rfl,lk,hcd⟩:=F.ex
 refine zpX lk hcd S (fun vs H Q E ⟨β,G,ds,_,_,_,h,_⟩=>h) fun A outer s H vs Q E hr ⟨β,G,ds,gh,bx,hv,hl,P',Z,q,hP,hZ⟩=>?_
 have h:=@hB cdv A outer s H E β G Z (fun nm C H' G' z hm t=>hZ nm z C H' G' hm t) S.nd hr
 refine ⟨_,h.pss,zaw N.length ds,G,zcN gh bx hv,h.mono { nx:=fun _=>P' .non,rt:=P',bk:=fun _=>False,ct:=fun _=>False } _ _ ⟨fun ρ z σ H' G' r s'=>hP _ z .non H' G' r.stp rfl,fun d z v H' G' t e=>hP _ z v H' G' t e,fun ρ z=>z.elim,fun ρ z=>z.elim⟩ q⟩
structure CalX (P:Program) (w:World) (K:PySem.W.Frag) (mg:Str->Option Value) (base:Heap) (x:Str) (k:Nat) (ps:List Str) (sp:Sp):Prop where
 ex:∃ f fd,FnOk P w K mg base (CXN P w) k f fd ps sp/\mg x = some (.ref f)/\PySem.W.keepIn K (.ref f) = true/\Binds K fd ps []
theorem CalX.of {P:Program} {w:World} {K:PySem.W.Frag} {mg:Str->Option Value} {base:Heap} {x qual:Str} {k:Nat} {ps:List Str} {sp:Sp} {st:Stmt} {f:Addr} {fd:FuncData} (F:Fun K x qual st f fd) (G:FnOk P w K mg base (CXN P w) k f fd ps sp) (hm:mg x = some (.ref f)) (hb:Binds K fd ps []):CalX P w K mg base x k ps sp:=
 ⟨f,fd,G,hm,F.kp,hb⟩
section
variable {X:Cx} {c:Bk} {st:Stmt} {e:Expr} {es:List Expr} {pos cpos p np:Pos}
theorem DS.nox {W:WS} (h:DS X.nox c st W):DS X c st W:=⟨h.mono,h.ps.nox⟩
theorem DE.nox {W:WE} (h:DE X.nox c e W):DE X c e W:=⟨h.mono,h.pe.nox⟩
theorem DT.nox {W:WT} (h:DT X.nox c e W):DT X c e W:=⟨h.mono,h.pt.nox⟩
@[reducible] def rzW (R:WL) (y:Prop):WS:=fun _ ρ=>R ρ fun ds=>ds.length <= 1000/\y
theorem zdK {x:Str} {C:Addr} {R:WL} {y:Prop} (hR:DA X.nox c (e :: es) R) (hx:∀ pins s σ H G h' ea us,Inv X pins σ H s->Stp c.β c.H0 c.G0 H G->Heap.MadeExcOf s.heap h' ea (.ref C) us->y->X.xe (.ref ea) { s with heap:=h' }) (ho:PySem.W.excIn X.K C zkY "ValueError.__new__" = true) (hm:X.mg x = some (.ref C)) (hc:X.calm = true:=by rfl) (hg:Gl X x:=by rfl)
  (hd:(x == ("__debug__" : Str)) = false:=by decide) (he:starEach (e :: es) X.env = (false,eval e X.env) :: starEach es X.env:=by rfl) (hpl:(backTo cpos (starEach es X.env)).any (·.1) = false:=by rfl):DS X c (.Raise (some (.Call (.Name x np) (e :: es) [] cpos)) none pos) (rzW R y) where
 mono:=fun E E' ρ l q=>q
 ps:=zbp (zn8 (Y:=fun _ σ H=>y/\∃ G,Stp c.β c.H0 c.G0 H G) hc ho hg hm (PA.nox hR.pa) (fun pins s σ H h' ea us I m _ ⟨z,G,t⟩=>hx pins s σ H G h' ea us I t m z) hd he hpl) fun D σ H ⟨ρ,G,r,q⟩=>⟨ρ,G,r,hR.mono ρ _ _ (fun ds z vs H' G' t v=>⟨by rw [<- v.length,YAO];have:=z.1;omega,z.2,G',r.stp.trans t⟩) q⟩
theorem Rel.unput {ρ:Env} {σ:St} {H G:Hp} {i:Nat} {o:Option V} (r:Rel c ρ σ H G):Rel c (ρ.set i .un) (σ.set i o) H G:=by
 refine ⟨by simp [r.len],r.stp,fun j s e=>?_,fun j k a xs ys e1 e2 e3 e4=>?_,r.kn⟩
 ·by_cases z:i = j
  ·subst z
   have hi:i < ρ.length:=by have:=(YAe.mp e).1;simpa using this
   rw [YAh hi] at e
   cases e
   trivial
  ·rw [YAi z] at e ⊢
   exact r.slot j s e
 ·have nn:∀ {j:Nat} {xs},(ρ.set i .un)[j]? = some (.own xs)->i ≠ j:=fun e z=>by
   subst z
   have hi:i < ρ.length:=by have:=(YAe.mp e).1;simpa using this
   rw [YAh hi] at e;cases e
  have nj:=nn e1
  have nk:=nn e2
  rw [YAi nj] at e1 e3
  rw [YAi nk] at e2 e4
  exact r.dis j k a xs ys e1 e2 e3 e4
end
section
variable {X:Cx} {c:Bk}
end
section
variable {X:Cx} {c:Bk}
end
end Fd
namespace L2
open PySem PySem.Spec PyProof.Rows
section
variable {X:Cx}
def zqQ:R2:=fun x y H Q=>∃ (z:Str) (k:Int),x = .str z/\y = .int k/\2 <= k/\k <= 100/\z.length <= 1000/\∀ u:Str,u.length <= k.toNat * z.length->(∀ ch ∈ u.cps.toList,ch ∈ z.cps.toList)->Q (.str u) H
theorem zjG (its:Array Nat):∀ (k:Nat) (acc:Array Nat),(List.foldl (fun x1 x2=>x1 ++ x2) acc (List.replicate k its)).size = acc.size + k * its.size/\∀ ch ∈ (List.foldl (fun x1 x2=>x1 ++ x2) acc (List.replicate k its)).toList,ch ∈ acc.toList\/ch ∈ its.toList
 | 0,acc=>⟨by simp,fun ch h=>.inl h⟩
 | k + 1,acc=>by
  rw [YA1,List.foldl_cons]
  obtain ⟨h1,h2⟩:=zjG its k (acc ++ its)
  refine ⟨by rw [h1,Array.size_append,Nat.succ_mul];omega,fun ch hc=>?_⟩
  rcases h2 ch hc with z | z
  ·rw [Array.toList_append] at z
   exact YAR.mp z
  ·exact .inr z
theorem zpL:OpR X (binaryOp .Mult) zqQ:=by
 intro pins s σ H x y v u Q I rx ry h
 obtain ⟨z,k,rfl,rfl,h2,h3,hz,q⟩:=h
 obtain ⟨t,rfl⟩:=rx
 obtain ⟨t',rfl⟩:=ry
 have hkl:z.length * k.toNat <= 100000:=YCu hz (show k.toNat <= 100 by omega)
 obtain ⟨f1,f2⟩:=zjG z.cps k.toNat #[]
 refine PySem.P.mul_str (by rw [YAv (by omega),YAv (by omega)];rfl) (fun _ _=>?_) (fun _ _=>?_) ?_
 ·have:(1000:Int) <= (2 ^ 63 - 1) / k:=Int.le_ediv_of_mul_le (by omega) (by omega)
  omega
 ·exact YAv (by rw [YAO];omega)
 ·rw [if_neg (by omega)]
  split
  ·exact ⟨.str z,H,I,⟨t,rfl⟩,q z (Nat.le_mul_of_pos_left _ (show 0 < k.toNat by omega)) fun _ h=>h⟩
  ·have hl:(⟨(List.replicate k.toNat z.cps).foldl (· ++ ·) #[]⟩:Str).length = k.toNat * z.length:=by
    show Array.size _ = _
    rw [f1];simp;rfl
   refine ⟨by rw [hl,Nat.mul_comm,YAO];omega,.str _,H,I.tok _,⟨_,rfl⟩,q _ (Nat.le_of_eq hl) fun ch hc=>(f2 ch hc).elim (fun z=>by simp at z) id⟩
end
end L2
namespace Fd
open PySem L2
section
variable {X:Cx} {c:Bk}
def zja:F2:=fun x y Q=>match x,y with
 | .str z,.int k=>(2 <= k/\k <= 100/\z.length <= 1000)/\∀ u:Str,u.length <= k.toNat * z.length->(∀ ch ∈ u.cps.toList,ch ∈ z.cps.toList)->Q (.str u)
 | x,y=>mulD x y Q
theorem zsb:za5 zja:=fun x y Q Q' k q=>by
 unfold zja at q ⊢
 split at q
 ·exact ⟨q.1,fun u h1 h2=>k _ (q.2 u h1 h2)⟩
 ·exact zsx _ _ _ _ k q
theorem zp4:OpD c zja (fun x y H Q=>zqU x y H Q\/zqQ x y H Q):=fun H G x y u v Q gh bx h0 rx ry q=>by
 unfold zja at q
 split at q
 ·cases rx;cases ry
  exact .inr ⟨_,_,rfl,rfl,q.1.1,q.1.2.1,q.1.2.2,fun u h1 h2=>q.2 u h1 h2 _ H G (Stp.refl gh bx) rfl⟩
 ·exact .inl (zoK H G _ _ u v Q gh bx h0 rx ry q)
theorem zsy {a b:Expr} {A B:WE} {pos:Pos} (hA:DE X c a A) (hB:DE X c b B):DE X c (.BinOp a .Mult b pos) (binW zja A B):=zkS zsb ((op_mul.or zo1).or zpL) zp4 hA hB
end
def zbn:Fn:=fnW 1 ((retW (andW (zej leD leD (kW (.int 1)) (cbW zca (zab (vW 0) nilA)) (kW (.int 8))) (cbW allF (zab (valW (zay [none] (zbA (vW 0)) (.nm 0) noIf (binW (inXD false) (vW 0) (kW (.str "abcdefghijklmnopqrstuvwxyz"))))) nilA)))))
structure Ob where
 C:Addr
 fs:List (Str × List D)
abbrev Sto:=Addr->Option Ob
def upS (S:Sto) (p:Addr) (o:Ob):Sto:=fun a=>if a = p then some o else S a
theorem zaZ {S:Sto} {p:Addr} {o:Ob}:upS S p o p = some o:=by unfold upS;rw [if_pos rfl]
theorem zcS {S:Sto} {p q:Addr} {o:Ob} (h:q ≠ p):upS S p o q = S q:=by unfold upS;rw [if_neg h]
abbrev nub (K:PySem.W.Frag) (β:Addr) (G:Hp):Bk:=⟨K,β,fun _=>none,G,True⟩
def kvF (fs:List (Str × List D)) (as:List Addr):List (Str × V):=(fs.zip as).map fun p=>(p.1.1,V.ref p.2)
structure Kn (K:PySem.W.Frag) (β:Addr) (G:Hp) (S:Sto) (M:Hp) (ad:Addr->List Addr):Prop where
 obj:∀ p o,S p = some o->∃ dx,M p = some (.ins o.C dx (kvF o.fs (ad p)))/\(ad p).length = o.fs.length
 lst:∀ p o (i:Nat) a x,S p = some o->(ad p)[i]? = some a->o.fs[i]? = some x->∃ vs,M a = some (.lst vs)/\Reps (nub K β G) G x.2 vs
 dis:∀ p q (i j:Nat) a,S p ≠ none->S q ≠ none->(ad p)[i]? = some a->(ad q)[j]? = some a->p = q/\i = j
 kin:∀ a o,M a = some o->¬ zef o
 ap:∀ a,M a ≠ none->G a = none/\a ≠ β
theorem Kn.mono {K:PySem.W.Frag} {β:Addr} {G G':Hp} {S:Sto} {M:Hp} {ad:Addr->List Addr} (k:Kn K β G S M ad) (s:Same G G') (h:∀ a,M a ≠ none->G' a = none):Kn K β G' S M ad:=
 ⟨k.obj,fun p o i a x h1 h2 h3=>(k.lst p o i a x h1 h2 h3).imp fun vs z=>⟨z.1,Reps.back (c':=nub K β G) (c:=nub K β G') rfl rfl (fun _ e=>e) (z.2.mono s)⟩,k.dis,k.kin,fun a z=>⟨h a z,(k.ap a z).2⟩⟩
def ov (B M:Hp):Hp:=fun a=>match M a with | some o=>some o | none=>B a
theorem ze7 {B M:Hp} {a:Addr} {o:HO} (h:M a = some o):ov B M a = some o:=by unfold ov;rw [h]
theorem zcz {B M:Hp} {a:Addr} (h:M a = none):ov B M a = B a:=by unfold ov;rw [h]
theorem ov_none {B M:Hp} {a:Addr}:ov B M a = none ↔ M a = none/\B a = none:=by
 unfold ov
 cases M a with
 | none=>simp
 | some o=>simp
def Dm (M M':Hp):Prop:=∀ a,M a ≠ none->M' a ≠ none
theorem Dm.refl (M:Hp):Dm M M:=fun _ h=>h
theorem Dm.trans {A B C:Hp} (h:Dm A B) (k:Dm B C):Dm A C:=fun a z=>k a (h a z)
structure Bo where
 K:PySem.W.Frag
 β:Addr
 H0:Hp
 G0:Hp
 M0:Hp
def reB (b:Bo) (S:Sto) (M G:Hp):Bk:=⟨b.K,b.β,ov b.H0 M,G,∃ ad,Kn b.K b.β G S M ad⟩
mutual
theorem Rep.reb {c c':Bk} {G:Hp} (hk:c'.K = c.K) (hb:c'.β = c.β) (hn:∀ a,G a ≠ none->c'.H0 a = none->c.H0 a = none):∀ {d:D} {v:V},Rep c' G d v->Rep c G d v
 | .non,_,h=>h
 | .bl _,_,h=>h
 | .int _,_,h=>h
 | .str _,_,h=>h
 | .box,_,h=>by show _ = V.ref c.β;rw [<- hb];exact h
 | .obj _,_,h=>h
 | .dct n ks xs,_,⟨a,vs,h1,h2,h4,h5,h3⟩=>⟨a,vs,h1,h2,fun z=>hn a (by rw [h2];simp) (h4 z),h5,Reps.reb hk hb hn h3⟩
 | .fdc ks xs,_,⟨a,vs,o,h1,h2,h5,h3⟩=>⟨a,vs,o,h1,h2,h5,Reps.reb hk hb hn h3⟩
 | .tup xs,_,⟨a,vs,h1,h2,h3⟩=>⟨a,vs,h1,hk ▸ h2,Reps.reb hk hb hn h3⟩
 | .lst n xs,_,⟨a,vs,h1,h2,h4,h3⟩=>⟨a,vs,h1,h2,fun z=>hn a (by rw [h2];simp) (h4 z),Reps.reb hk hb hn h3⟩
theorem Reps.reb {c c':Bk} {G:Hp} (hk:c'.K = c.K) (hb:c'.β = c.β) (hn:∀ a,G a ≠ none->c'.H0 a = none->c.H0 a = none):∀ {ds:List D} {vs:List V},Reps c' G ds vs->Reps c G ds vs
 | [],_,h=>h
 | _ :: _,_,⟨v,ws,h1,h2,h3⟩=>⟨v,ws,h1,Rep.reb hk hb hn h2,Reps.reb hk hb hn h3⟩
end
structure Eff (β:Addr) (M M' H G H' G':Hp):Prop where
 gg:Same G G'
 gh:Same G' H'
 fr:∀ a o,a ≠ β->M a = none->H a = some o->H' a = some o
 mh:∀ a o,M' a = some o->H' a = some o
 mn:∀ a,M' a ≠ none->M a ≠ none\/H a = none
 mg:∀ a,M' a ≠ none->G' a = none/\a ≠ β
 nw:∀ a,G' a ≠ none->G a ≠ none\/H a = none\/∃ o,H a = some o/\zef o
 bx:BoxD β H' G'
 bc:∀ cc p r d,H β = some (boxO cc p r d)->∃ p r d,H' β = some (boxO cc p r d)
 dm:Dm M M'
structure Out (b:Bo) (M G1:Hp):Prop where
 mb:∀ a,M a ≠ none->b.H0 a = none/\b.G0 a = none/\a ≠ b.β
 gg:Same b.G0 G1
 nw:∀ a,G1 a ≠ none->b.G0 a ≠ none\/b.H0 a = none\/∃ o,b.H0 a = some o/\zef o
 g0:Same b.G0 b.H0
 dm:Dm b.M0 M
theorem Rel.eff {b:Bo} {S S':Sto} {M M' H G H' G' G1:Hp} {ρ:Env} {σ:St} (r:Rel (reB b S M G1) ρ σ H G) (hM:∀ a,M a ≠ none->b.H0 a = none/\a ≠ b.β) (e:Eff b.β M M' H G H' G') (kn:∃ ad,Kn b.K b.β G' S' M' ad):Rel (reB b S' M' G') ρ σ H' G':=by
 have base:∀ a o,b.H0 a = some o->M a = none:=fun a o h=>by
  cases z:M a with
  | none=>rfl
  | some u=>have:=(hM a (by rw [z];simp)).1;rw [h] at this;cases this
 have mβ:M' b.β = none:=by
  cases z:M' b.β with
  | none=>rfl
  | some u=>exact absurd rfl (e.mg _ (by rw [z];simp)).2
 have m0:M b.β = none:=by
  cases z:M b.β with
  | none=>rfl
  | some u=>exact absurd rfl (hM _ (by rw [z];simp)).2
 refine ⟨r.len,⟨Same.refl _,e.gh,fun a o n h=>?_,fun a z=>.inl z,e.bx,?_,?_⟩,fun i s h=>?_,r.dis,kn⟩
 ·cases z:M' a with
  | some u=>rw [show (reB b S' M' G').H0 a = some u from ze7 z] at h;cases h;exact e.mh a _ z
  | none=>
   rw [show (reB b S' M' G').H0 a = b.H0 a from zcz z] at h
   have z':=base a o h
   exact e.fr a o n z' (r.stp.fr a o n ((zcz z').trans h))
 ·intro z
  exact r.stp.b0 ((zcz m0).trans ((zcz mβ).symm.trans z))
 ·intro cc p q d h
  obtain ⟨p1,q1,d1,h1⟩:=r.stp.bc cc p q d ((zcz m0).trans ((zcz mβ).symm.trans h))
  exact e.bc cc p1 q1 d1 h1
 ·have q:=r.slot i s h
  cases s with
  | un=>trivial
  | val d=>
   obtain ⟨v,h1,h2⟩:=q
   refine ⟨v,h1,(Rep.reb (c:=reB b S' M' G') (c':=reB b S M G1) rfl rfl (fun a ga z=>?_) h2).mono e.gg⟩
   obtain ⟨z1,z2⟩:=ov_none.mp z
   refine ov_none.mpr ⟨?_,z2⟩
   cases y:M' a with
   | none=>rfl
   | some u=>
    have:=(e.mg a (by rw [y];simp)).1
    cases w:G a with
    | none=>exact absurd w ga
    | some o=>rw [e.gg a o w] at this;cases this
  | own xs=>
   obtain ⟨a,vs,h1,h2,h3,h4,h5,h6⟩:=q
   obtain ⟨z1,z2⟩:=ov_none.mp h4
   have m':M' a = none:=by
    cases y:M' a with
    | none=>rfl
    | some u=>
     rcases e.mn a (by rw [y];simp) with w | w
     ·exact absurd z1 w
     ·rw [h2] at w;cases w
   have h4':(reB b S' M' G').H0 a = none:=ov_none.mpr ⟨m',z2⟩
   refine ⟨a,vs,h1,e.fr a _ h5 z1 h2,?_,h4',h5,(Reps.reb (c:=reB b S' M' G') (c':=reB b S M G1) rfl rfl (fun a ga z=>?_) h6).mono e.gg⟩
   ·cases y:G' a with
    | none=>rfl
    | some o=>
     rcases e.nw a (by rw [y];simp) with w | w | ⟨u,w,st⟩
     ·exact absurd h3 w
     ·rw [h2] at w;cases w
     ·rw [h2] at w;cases w;exact st.elim
   ·obtain ⟨z1,z2⟩:=ov_none.mp z
    refine ov_none.mpr ⟨?_,z2⟩
    cases y:M' a with
    | none=>rfl
    | some u=>
     have:=(e.mg a (by rw [y];simp)).1
     cases w:G a with
     | none=>exact absurd w ga
     | some o=>rw [e.gg a o w] at this;cases this
  | dic ks xs=>
   obtain ⟨a,vs,h1,h2,h3,h4,h5,h6,h7⟩:=q
   obtain ⟨z1,z2⟩:=ov_none.mp h4
   have m':M' a = none:=by
    cases y:M' a with
    | none=>rfl
    | some u=>
     rcases e.mn a (by rw [y];simp) with w | w
     ·exact absurd z1 w
     ·rw [h2] at w;cases w
   have h4':(reB b S' M' G').H0 a = none:=ov_none.mpr ⟨m',z2⟩
   refine ⟨a,vs,h1,e.fr a _ h5 z1 h2,?_,h4',h5,(Reps.reb (c:=reB b S' M' G') (c':=reB b S M G1) rfl rfl (fun a ga z=>?_) h6).mono e.gg,h7⟩
   ·cases y:G' a with
    | none=>rfl
    | some o=>
     rcases e.nw a (by rw [y];simp) with w | w | ⟨u,w,st⟩
     ·exact absurd h3 w
     ·rw [h2] at w;cases w
     ·rw [h2] at w;cases w;exact st.elim
   ·obtain ⟨z1,z2⟩:=ov_none.mp z
    refine ov_none.mpr ⟨?_,z2⟩
    cases y:M' a with
    | none=>rfl
    | some u=>
     have:=(e.mg a (by rw [y];simp)).1
     cases w:G a with
     | none=>exact absurd w ga
     | some o=>rw [e.gg a o w] at this;cases this
theorem Out.eff {b:Bo} {S:Sto} {M M' H G H' G' G1:Hp} {ρ:Env} {σ:St} (o:Out b M G1) (r:Rel (reB b S M G1) ρ σ H G) (e:Eff b.β M M' H G H' G'):Out b M' G':=by
 have fresh:∀ a,H a = none->b.H0 a = none:=fun a h=>(ov_none.mp (r.stp.free h)).2
 have keep:∀ a u,a ≠ b.β->b.H0 a = some u->H a = some u:=fun a u n h=>r.stp.fr a u n ((zcz (by
  cases z:M a with
  | none=>rfl
  | some w=>have:=(o.mb a (by rw [z];simp)).1;rw [h] at this;cases this)).trans h)
 have nwG:∀ a,G a ≠ none->b.G0 a ≠ none\/b.H0 a = none\/∃ u,b.H0 a = some u/\zef u:=fun a z=>by
  rcases r.stp.nw a z with w | w | ⟨u,w,st⟩
  ·exact o.nw a w
  ·exact .inr (.inl (ov_none.mp w).2)
  ·cases y:M a with
   | none=>exact .inr (.inr ⟨u,(zcz y).symm.trans w,st⟩)
   | some x=>exact .inr (.inl (o.mb a (by rw [y];simp)).1)
 refine ⟨fun a z=>?_,o.gg.trans (r.stp.gg.trans e.gg),fun a z=>?_,o.g0,o.dm.trans e.dm⟩
 ·have h0:b.H0 a = none:=by
   rcases e.mn a z with w | w
   ·exact (o.mb a w).1
   ·exact fresh a w
  exact ⟨h0,o.g0.free h0,(e.mg a z).2⟩
 ·rcases e.nw a z with w | w | ⟨u,w,st⟩
  ·exact nwG a w
  ·exact .inr (.inl (fresh a w))
  ·cases y:b.H0 a with
   | none=>exact .inr (.inl rfl)
   | some x=>
    by_cases n:a = b.β
    ·subst n
     obtain ⟨cc,p,q,d,ns,hb,_⟩:=r.bx.ex
     rw [show (reB b S M G1).β = b.β from rfl] at hb
     rw [hb] at w;cases w;exact st.elim
    ·have:=keep a x n y
     rw [w] at this;cases this
     exact .inr (.inr ⟨u,rfl,st⟩)
theorem Out.stp {b:Bo} {M G1 H G:Hp} (o:Out b M G1) (kin:∀ a u,M a = some u->¬ zef u) (t:Stp b.β (ov b.H0 M) G1 H G):Stp b.β b.H0 b.G0 H G:=by
 have out:∀ a u,b.H0 a = some u->M a = none:=fun a u h=>by
  cases z:M a with
  | none=>rfl
  | some w=>have:=(o.mb a (by rw [z];simp)).1;rw [h] at this;cases this
 have m0:M b.β = none:=by
  cases z:M b.β with
  | none=>rfl
  | some u=>exact absurd rfl (o.mb _ (by rw [z];simp)).2.2
 refine ⟨o.gg.trans t.gg,t.gh,fun a u n h=>t.fr a u n ((zcz (out a u h)).trans h),fun a z=>?_,t.bx,fun z=>t.b0 ((zcz m0).trans z),fun cc p q d h=>t.bc cc p q d ((zcz m0).trans h)⟩
 rcases t.nw a z with w | w | ⟨u,w,st⟩
 ·exact o.nw a w
 ·exact .inr (.inl (ov_none.mp w).2)
 ·cases y:M a with
  | none=>exact .inr (.inr ⟨u,(zcz y).symm.trans w,st⟩)
  | some x=>exact .inr (.inl (o.mb a (by rw [y];simp)).1)
theorem Out.apart {b:Bo} {M G1 H G:Hp} (kin:∀ a u,M a = some u->¬ zef u) (h1:∀ a,M a ≠ none->G1 a = none) (t:Stp b.β (ov b.H0 M) G1 H G) (a:Addr) (h:M a ≠ none):G a = none:=by
 cases z:G a with
 | none=>rfl
 | some u=>
  cases y:M a with
  | none=>exact absurd y h
  | some x=>
   rcases t.nw a (by rw [z];simp) with w | w | ⟨v,w,st⟩
   ·exact absurd (h1 a h) w
   ·rw [show ov b.H0 M a = some x from ze7 y] at w;cases w
   ·rw [show ov b.H0 M a = some x from ze7 y] at w;cases w;exact absurd st (kin a _ y)
structure EnF where
 nx:Sto->Env->Prop
 rt:Sto->D->Prop
 bk:Sto->Env->Prop
 ct:Sto->Env->Prop
abbrev WF:=EnF->Sto->Env->Prop
structure EnF.Le (E E':EnF):Prop where
 nx:∀ S ρ,E.nx S ρ->E'.nx S ρ
 rt:∀ S d,E.rt S d->E'.rt S d
 bk:∀ S ρ,E.bk S ρ->E'.bk S ρ
 ct:∀ S ρ,E.ct S ρ->E'.ct S ρ
def znO (W:WF):Prop:=∀ E E' S ρ,EnF.Le E E'->W E S ρ->W E' S ρ
def RelF (b:Bo) (S:Sto) (M:Hp) (ρ:Env) (σ:St) (H G:Hp):Prop:=∃ G1,Out b M G1/\Rel (reB b S M G1) ρ σ H G
def zeL (b:Bo) (G M:Hp) (Ds:Ends):EnF where
 nx:=fun S ρ=>∀ σ H' G' M',RelF b S M' ρ σ H' G'->Same G G'->Dm M M'->Ds.nx σ H'
 rt:=fun S d=>∀ v H' G' M' G1,(∃ ad,Kn b.K b.β G1 S M' ad)->Out b M' G1->Stp b.β (ov b.H0 M') G1 H' G'->Dm M M'->Rep (reB b S M' G1) G' d v->Ds.rt v H'
 bk:=fun S ρ=>∀ σ H' G' M',RelF b S M' ρ σ H' G'->Same G G'->Dm M M'->Ds.bk σ H'
 ct:=fun S ρ=>∀ σ H' G' M',RelF b S M' ρ σ H' G'->Same G G'->Dm M M'->Ds.ct σ H'
theorem zdZ {b:Bo} {G G1 M M1:Hp} {Ds:Ends} (s:Same G G1) (m:Dm M M1):EnF.Le (zeL b G M Ds) (zeL b G1 M1 Ds):=
 ⟨fun S ρ h σ H' G' M' r s' m'=>h σ H' G' M' r (s.trans s') (m.trans m'),fun S d h v H' G' M' G2 k o t m' e=>h v H' G' M' G2 k o t (m.trans m') e,fun S ρ h σ H' G' M' r s' m'=>h σ H' G' M' r (s.trans s') (m.trans m'),fun S ρ h σ H' G' M' r s' m'=>h σ H' G' M' r (s.trans s') (m.trans m')⟩
def tOS (b:Bo) (W:WF):TS:=fun Ds σ H=>∃ ρ G S M,RelF b S M ρ σ H G/\W (zeL b G M Ds) S ρ
structure OS (X:Cx) (b:Bo) (st:Stmt) (W:WF):Prop where
 mono:znO W
 ps:PS X st (tOS b W)
structure OSs (X:Cx) (b:Bo) (sts:List Stmt) (W:WF):Prop where
 mono:znO W
 pss:PSs X sts (tOS b W)
section
variable {X:Cx} {b:Bo} {st:Stmt} {rest:List Stmt} {pos p p':Pos} {e:Expr}
@[reducible] def atS (E:EnF) (S:Sto):En:=⟨E.nx S,E.rt S,E.bk S,E.ct S⟩
@[reducible] def zcu (W:Sto->WS):WF:=fun E S ρ=>W S (atS E S) ρ
theorem zpw {G M G1:Hp} {S:Sto} {D:Ends} (k:∃ ad,Kn b.K b.β G1 S M ad) (o:Out b M G1):En.Le (atS (zeL b G M D) S) (ends (reB b S M G1) G D):=
 ⟨fun ρ z σ H' G' r s=>z σ H' G' M ⟨G1,o,r⟩ s (Dm.refl M),fun d z v H' G' t e=>z v H' G' M G1 k o t (Dm.refl M) e,fun ρ z σ H' G' r s=>z σ H' G' M ⟨G1,o,r⟩ s (Dm.refl M),fun ρ z σ H' G' r s=>z σ H' G' M ⟨G1,o,r⟩ s (Dm.refl M)⟩
theorem zaV {W:Sto->WS} (h:∀ S M G1,DS X (reB b S M G1) st (W S)):OS X b st (zcu W) where
 mono:=fun E E' S ρ l q=>(h S (fun _=>none) (fun _=>none)).mono (atS E S) (atS E' S) ρ ⟨l.nx S,l.rt S,l.bk S,l.ct S⟩ q
 ps:=fun pins s σ H D I ⟨ρ,G,S,M,⟨G1,o,r⟩,q⟩=>(h S M G1).ps pins s σ H D I ⟨ρ,G,r,(h S M G1).mono _ _ ρ (zpw r.kn o) q⟩
@[reducible] def nilF:WF:=fun E S ρ=>E.nx S ρ
@[reducible] def seqF (A B:WF):WF:=fun E S ρ=>A { E with nx:=B E } S ρ
theorem zlg:OSs X b [] nilF:=⟨fun E E' S ρ l q=>l.nx S ρ q,zeG zfw fun D σ H ⟨ρ,G,S,M,r,q⟩=>q σ H G M r (Same.refl _) (Dm.refl M)⟩
theorem zaI {A B:WF} (h1:OS X b st A) (h2:OSs X b rest B):OSs X b (st :: rest) (seqF A B) where
 mono:=fun E E' S ρ l q=>h1.mono { E with nx:=B E } _ S ρ ⟨fun S' ρ' z=>h2.mono _ _ S' ρ' l z,l.rt,l.bk,l.ct⟩ q
 pss:=zeG (zaJ h1.ps h2.pss) fun D σ H ⟨ρ,G,S,M,r,q⟩=>⟨ρ,G,S,M,r,h1.mono { zeL b G M D with nx:=B (zeL b G M D) } _ S ρ ⟨fun S' ρ' z σ' H' G' M' r' s' m'=>⟨ρ',G',S',M',r',h2.mono _ _ S' ρ' (zdZ s' m') z⟩,fun S' d z=>z,fun S' ρ' z=>z,fun S' ρ' z=>z⟩ q⟩
theorem zdE {A:WF} (h1:OS X b st A):OSs X b [st] A:=⟨h1.mono,zdc h1.ps⟩
@[reducible] def ifF (C:Sto->WT) (A B:WF):WF:=fun E S ρ=>C S ρ fun t=>if t = true then A E S ρ else B E S ρ
theorem zsP {C:Sto->WT} {A B:WF} {x y:List Stmt} (hC:∀ S M G1,DT X (reB b S M G1) e (C S)) (hA:OSs X b x A) (hB:OSs X b y B):OS X b (.If e x y pos) (ifF C A B) where
 mono:=fun E E' S ρ l q=>(hC S (fun _=>none) (fun _=>none)).mono ρ _ _ (fun t z=>by
  cases t
  ·exact hB.mono _ _ S ρ l z
  ·exact hA.mono _ _ S ρ l z) q
 ps:=fun pins s σ H D I ⟨ρ,G,S,M,⟨G1,o,r⟩,q⟩=>zkw (hC S M G1).pt hA.pss hB.pss pins s σ H D I ⟨ρ,G,r,(hC S M G1).mono ρ _ _ (fun t z H' G' t1=>by
  cases t
  ·exact ⟨ρ,G',S,M,⟨G1,o,r.step t1⟩,hB.mono _ _ S ρ (zdZ t1.gg (Dm.refl M)) z⟩
  ·exact ⟨ρ,G',S,M,⟨G1,o,r.step t1⟩,hA.mono _ _ S ρ (zdZ t1.gg (Dm.refl M)) z⟩) q⟩
end
def zd9 (t:Tg) (B:WF) (E:EnF):List D->Sto->Env->Prop
 | [],S,ρ=>E.nx S ρ
 | x :: xs,S,ρ=>gD t x ρ fun ρ'=>B { nx:=zd9 t B E xs,ct:=zd9 t B E xs,bk:=E.nx,rt:=E.rt } S ρ'
@[reducible] def forF (I:Sto->WL) (t:Tg) (B:WF):WF:=fun E S ρ=>I S ρ fun xs=>zd9 t B E xs S ρ
theorem zeF {t:Tg} {B:WF} (mB:znO B) {E E':EnF} (l:EnF.Le E E'):∀ (xs:List D) (S:Sto) (ρ:Env),zd9 t B E xs S ρ->zd9 t B E' xs S ρ
 | [],S,ρ,q=>l.nx S ρ q
 | x :: xs,S,ρ,q=>zbG t x ρ (fun ρ' z=>mB { nx:=zd9 t B E xs,ct:=zd9 t B E xs,bk:=E.nx,rt:=E.rt } _ S ρ' ⟨fun S ρ z=>zeF mB l xs S ρ z,l.rt,l.nx,fun S ρ z=>zeF mB l xs S ρ z⟩ z) q
theorem Rep.carry {b:Bo} {S S':Sto} {M M' Ga Gb G G':Hp} {d:D} {v:V} (e:Rep (reB b S M Ga) G d v) (s:Same G G') (h:∀ a,M' a ≠ none->G' a = none):Rep (reB b S' M' Gb) G' d v:=
 (Rep.reb (c:=reB b S' M' Gb) (c':=reB b S M Ga) rfl rfl (fun a ga z=>by
  obtain ⟨z1,z2⟩:=ov_none.mp z
  refine ov_none.mpr ⟨?_,z2⟩
  cases y:M' a with
  | none=>rfl
  | some u=>
   have:=h a (by rw [y];simp)
   cases w:G a with
   | none=>exact absurd w ga
   | some o=>rw [s a o w] at this;cases this) e).mono s
theorem Rel.apart {b:Bo} {S:Sto} {M G1 H G:Hp} {ρ:Env} {σ:St} (r:Rel (reB b S M G1) ρ σ H G) (a:Addr) (h:M a ≠ none):G a = none:=by
 obtain ⟨ad,k⟩:=r.kn
 exact Out.apart (b:=b) k.kin (fun a z=>(k.ap a z).1) r.stp a h
section
variable {X:Cx} {b:Bo} {tg iter e:Expr} {body:List Stmt} {pos p:Pos}
theorem zrT {I:Sto->WL} (t:Tg) {B:WF} (hI:∀ S M G1,DI X (reB b S M G1) tg iter (I S)) (hg:PG X tg (gOf b.K t)) (hB:OSs X b body B) (hp:PassesOwn (model X.prog X.w) X.A X.env X.xe:=by exact PassesOwn.never) (hc:X.calm = true:=by rfl) (hs:∀ x,foldedSetIterable iter X.env x = pure x:=by intro _;rfl) :
  OS X b (.For tg iter body [] pos) (forF I t B) where
 mono:=fun E E' S ρ l q=>(hI S (fun _=>none) (fun _=>none)).mono ρ _ _ (fun xs z=>zeF hB.mono l xs S ρ z) q
 ps:=fun pins s σ H D Iv ⟨ρ,G,S,M,⟨Gb,o,r⟩,q⟩=>zo4 hp hc (hI S M Gb).pi hg hB.pss hs pins s σ H D Iv ⟨ρ,G,r,(hI S M Gb).mono ρ _ _ (fun xs z J H1 G1 t1 it=>by
  refine ⟨fun i m σ H=>m = xs.length - i/\i <= xs.length/\∃ ρ' G' S' M',RelF b S' M' ρ' σ H G'/\Same G1 G'/\Dm M M'/\zd9 t B (zeL b G M D) (xs.drop i) S' ρ',⟨xs.length,rfl,YBy _,ρ,G1,S,M,⟨Gb,o,r.step t1⟩,Same.refl _,Dm.refl M,z⟩,?_⟩
  rintro i m σ' H' ⟨rfl,hi,ρ',G',S',M',⟨Gc,o',r'⟩,s',m',q'⟩
  have free:∀ a,H' a = none->(reB b S M Gb).H0 a = none:=fun a z=>by
   obtain ⟨z1,z2⟩:=ov_none.mp (show ov b.H0 M' a = none from r'.new0 z)
   refine ov_none.mpr ⟨?_,z2⟩
   cases y:M a with
   | none=>rfl
   | some u=>exact absurd z1 (m' a (by rw [y];simp))
  have ok:=it i H' G' s' r'.gh r'.bx free
  by_cases hlt:i < xs.length
  ·refine .inr ?_
   have ed:xs.drop i = xs[i] :: xs.drop (i + 1):=YBw hlt
   rw [ed] at q'
   obtain ⟨go,yl⟩:=ok.2 xs[i] (YAn hlt)
   refine ⟨go,fun σ H=>∃ ρ' G' S' M',RelF b S' M' ρ' σ H G'/\Same G1 G'/\Dm M M'/\zd9 t B (zeL b G M D) (xs.drop (i + 1)) S' ρ',fun σ2 H2 h=>⟨xs.length - (i + 1),by omega,rfl,by omega,h⟩,fun x H3 y=>?_⟩
   obtain ⟨G3,t3,e3⟩:=yl x H3 y
   have r3:=r'.step t3
   have e4:Rep (reB b S' M' Gc) G3 xs[i] x:=e3.carry (Same.refl _) r3.apart
   refine zeV (c:=reB b S' M' Gc) t xs[i] x ρ' σ' r3 e4 (zbG t xs[i] ρ' (fun ρ2 z2 σ2 r2=>?_) q')
   refine ⟨ρ2,G3,S',M',⟨Gc,o',r2⟩,hB.mono { nx:=zd9 t B (zeL b G M D) (xs.drop (i + 1)),ct:=zd9 t B (zeL b G M D) (xs.drop (i + 1)),bk:=(zeL b G M D).nx,rt:=(zeL b G M D).rt } _ S' ρ2 ⟨fun S3 ρ3 z3 σ3 H4 G4 M4 r4 s4 m4=>⟨ρ3,G4,S3,M4,r4,(s'.trans t3.gg).trans s4,m'.trans m4,z3⟩,fun S3 d z v H4 G4 M4 G5 k5 o5 t5 m5 e5=>z v H4 G4 M4 G5 k5 o5 t5 (m'.trans m5) e5,fun S3 ρ3 z3 σ3 H4 G4 M4 r4 s4 m4=>z3 σ3 H4 G4 M4 r4 (((t1.gg.trans s').trans t3.gg).trans s4) (m'.trans m4),fun S3 ρ3 z3 σ3 H4 G4 M4 r4 s4 m4=>⟨ρ3,G4,S3,M4,r4,(s'.trans t3.gg).trans s4,m'.trans m4,z3⟩⟩ z2⟩
  ·have e:i = xs.length:=by omega
   subst e
   rw [YCL] at q'
   exact .inl ⟨ok.1 rfl,q' σ' H' G' M' ⟨Gc,o',r'⟩ (t1.gg.trans s') m'⟩) q⟩
end
abbrev FnF:=List D->Sto->(D->Sto->Prop)->(Str->Sto->Prop)->Prop
def upF (F:FnF):FnF:=fun ds S Q Y=>∃ (P:D->Sto->Prop) (Z:Str->Sto->Prop),F ds S P Z/\(∀ d S',P d S'->Q d S')/\∀ n S',Z n S'->Y n S'
theorem zc2 (F:FnF) {ds:List D} {S:Sto} {Q Q':D->Sto->Prop} {Y Y':Str->Sto->Prop} (k:∀ d S,Q d S->Q' d S) (l:∀ n S,Y n S->Y' n S):upF F ds S Q Y->upF F ds S Q' Y':=fun ⟨P,Z,h1,h2,h3⟩=>⟨P,Z,h1,fun d S z=>k d S (h2 d S z),fun n S z=>l n S (h3 n S z)⟩
def spO (K:PySem.W.Frag) (mg:Str->Option Value) (n:Nat) (F:FnF):Sp:=fun vs H Q E=>∃ β G S M ad ds,Same G H/\BoxD β H G/\(∀ a o,M a = some o->H a = some o)/\Kn K β G S M ad/\Reps (nub K β G) G ds vs/\vs.length = n /\
 upF F ds S (fun d S'=>∀ v H' G' M' ad',Eff β M M' H G H' G'->Kn K β G' S' M' ad'->Rep ⟨K,β,H,G,True⟩ G' d v->Q v H') fun nm S'=>∀ C H' G' M' ad',mg nm = some (.ref C)->Eff β M M' H G H' G'->Kn K β G' S' M' ad'->E (.ref C) none H'
def mi (H M:Hp):Hp:=fun a=>match M a with | some _=>none | none=>H a
theorem zqY {H M:Hp} {a:Addr} (h:M a ≠ none):mi H M a = none:=by
 unfold mi
 cases e:M a with
 | none=>exact absurd e h
 | some o=>rfl
theorem zeb {H M:Hp} {a:Addr} (h:M a = none):mi H M a = H a:=by unfold mi;rw [h]
theorem ztg {H M:Hp} (h:∀ a o,M a = some o->H a = some o):ov (mi H M) M = H:=by
 funext a
 cases e:M a with
 | none=>rw [zcz e,zeb e]
 | some o=>rw [ze7 e,h a o e]
def fnWF (n:Nat) (B:(Str->Sto->Prop)->WF):FnF:=fun ds S Q Y=>B Y { nx:=fun S' _=>Q .non S',rt:=fun S' d=>Q d S',bk:=fun _ _=>False,ct:=fun _ _=>False } S (zaw n ds)
theorem Out.whole {K:PySem.W.Frag} {β:Addr} {H G M M' G1 H' G':Hp} {S:Sto} {ad:Addr->List Addr} (mb:M β = none) (k:Kn K β G1 S M' ad) (o:Out ⟨K,β,mi H M,G,M⟩ M' G1) (t:Stp β (ov (mi H M) M') G1 H' G'):Eff β M M' H G H' G'/\Kn K β G' S M' ad/\∀ d v,Rep (reB ⟨K,β,mi H M,G,M⟩ S M' G1) G' d v->Rep ⟨K,β,H,G,True⟩ G' d v:=by
 have m:Dm M M':=o.dm
 have ap:∀ a,M' a ≠ none->G' a = none:=Out.apart (b:=⟨K,β,mi H M,G,M⟩) k.kin (fun a z=>(k.ap a z).1) t
 have w:=o.stp k.kin t
 have no:∀ a u,M a = none->H a = some u->M' a = none:=fun a u h1 h2=>by
  cases y:M' a with
  | none=>rfl
  | some x=>
   have:=(o.mb a (by rw [y];simp)).1
   rw [show (⟨K,β,mi H M,G,M⟩:Bo).H0 a = H a from zeb h1,h2] at this;cases this
 refine ⟨⟨o.gg.trans t.gg,t.gh,fun a u n h1 h2=>t.fr a u n ?_,fun a u h=>t.fr a u (o.mb a (by rw [h];simp)).2.2 (ze7 h),fun a h=>?_,fun a h=>⟨ap a h,(o.mb a h).2.2⟩,fun a h=>?_,t.bx,fun cc p q d h=>w.bc cc p q d ((zeb mb).trans h),m⟩,k.mono t.gg ap,fun d v e=>Rep.reb (c:=⟨K,β,H,G,True⟩) (c':=reB ⟨K,β,mi H M,G,M⟩ S M' G1) rfl rfl (fun a ga z=>?_) e⟩
 ·rw [zcz (no a u h1 h2),zeb h1];exact h2
 ·have:=(o.mb a h).1
  cases e:M a with
  | some u=>exact .inl (by simp)
  | none=>exact .inr ((zeb e).symm.trans this)
 ·rcases w.nw a h with z | z | ⟨u,z,st⟩
  ·exact .inl z
  ·cases e:M a with
   | none=>exact .inr (.inl ((zeb e).symm.trans z))
   | some u=>exact absurd (ap a (m a (by rw [e];simp))) h
  ·cases e:M a with
   | none=>exact .inr (.inr ⟨u,(zeb e).symm.trans z,st⟩)
   | some x=>rw [show (⟨K,β,mi H M,G,M⟩:Bo).H0 a = none from zqY (by rw [e];simp)] at z;cases z
 ·obtain ⟨z1,z2⟩:=ov_none.mp z
  cases e:M a with
  | none=>exact (zeb e).symm.trans z2
  | some u=>exact absurd z1 (m a (by rw [e];simp))
theorem Rel.hyp {c:Bk} {Q:Prop} {ρ:Env} {σ:St} {H G:Hp} (r:Rel c ρ σ H G) (q:Q):Rel { c with P:=Q } ρ σ H G:=
 ⟨r.len,r.stp,fun i s e=>by
  have z:=r.slot i s e
  cases s with
  | un=>trivial
  | val d=>obtain ⟨v,h1,h2⟩:=z;exact ⟨v,h1,Rep.reb (c:={ c with P:=Q }) (c':=c) rfl rfl (fun _ _ z=>z) h2⟩
  | own xs=>obtain ⟨a,vs,h1,h2,h3,h4,h5,h6⟩:=z;exact ⟨a,vs,h1,h2,h3,h4,h5,Reps.reb (c:={ c with P:=Q }) (c':=c) rfl rfl (fun _ _ z=>z) h6⟩
  | dic ks xs=>obtain ⟨a,vs,h1,h2,h3,h4,h5,h6,h7⟩:=z;exact ⟨a,vs,h1,h2,h3,h4,h5,Reps.reb (c:={ c with P:=Q }) (c':=c) rfl rfl (fun _ _ z=>z) h6,h7⟩,r.dis,q⟩
theorem zh8 {P:Program} {w:World} {K:PySem.W.Frag} {mg:Str->Option Value} {base:Heap} {x qual:Str} {st:Stmt} {f:Addr} {fd:FuncData} {N ps:List Str} {k:Nat} {B:(Str->Sto->Prop)->WF} (F:Fun K x qual st f fd)
  (hB:∀ {cdv:Value} {A:Around} {outer:List PySem.Env} {s:Shared} {H:Hp} {E:XK} {β:Addr} {G M:Hp} (Y:Str->Sto->Prop),(∀ nm C H' G' S M' G1,Y nm S->mg nm = some (.ref C)->(∃ ad,Kn K β G1 S M' ad)->Out ⟨K,β,mi H M,G,M⟩ M' G1->Stp β (ov (mi H M) M') G1 H' G'->E (.ref C) none H')->N.Nodup->Room k (A.deeper (PyProof.Rows.envOfC qual (zaj st) s.heap.objs.size f cdv)) ->
   OSs (cxOf (CXN P w) P w K mg base N qual (zaj st) f cdv A outer s H E) ⟨K,β,mi H M,G,M⟩ (zaX st) (B Y)) (S:FnScope N ps (zaj st):=by exact ⟨rfl,rfl,rfl,by decide +kernel,rfl,by decide +kernel,by decide +kernel⟩):FnOk P w K mg base (CXN P w) (k + 1) f fd ps (spO K mg ps.length (fnWF N.length B)):=by
 obtain ⟨oc,od,kV,doc,pm,an,cdv,ct,osl,rfl,lk,hcd⟩:=F.ex
 refine zpX lk hcd S (fun vs H Q E ⟨β,G,S,M,ad,ds,_,_,_,_,_,h,_⟩=>h) fun A outer s H vs Q E hr ⟨β,G,So,M,ad,ds,gh,bx,mh,kn,hv,hl,P',Z,q,hP,hZ⟩=>?_
 have mb:M β = none:=by
  cases e:M β with
  | none=>rfl
  | some u=>exact absurd rfl (kn.ap β (by rw [e];simp)).2
 have h:=@hB cdv A outer s H E β G M Z (fun nm C H' G' S M' G1 z hm ⟨ad',k'⟩ o' t=>by
  obtain ⟨e1,e2,_⟩:=Out.whole mb k' o' t
  exact hZ nm S z C H' G' M' ad' hm e1 e2) S.nd hr
 have r0:RelF ⟨K,β,mi H M,G,M⟩ So M (zaw N.length ds) (L2.zcV N vs) H G:=by
  refine ⟨G,⟨fun a z=>⟨zqY z,(kn.ap a z).1,(kn.ap a z).2⟩,Same.refl _,fun a z=>.inl z,fun a o z=>(zeb (by
   cases y:M a with
   | none=>rfl
   | some u=>exact absurd ((kn.ap a (by rw [y];simp)).1.symm.trans z) (by simp))).trans (gh a o z),Dm.refl M⟩,?_⟩
  have h0:=zcN (N:=N) gh bx hv
  unfold reB
  rw [show ov (Bo.H0 ⟨K,β,mi H M,G,M⟩) M = H from ztg mh]
  exact h0.hyp ⟨ad,kn⟩
 refine ⟨_,h.pss,zaw N.length ds,G,So,M,r0,h.mono { nx:=fun S' _=>P' .non S',rt:=fun S' d=>P' d S',bk:=fun _ _=>False,ct:=fun _ _=>False } _ So _ ⟨fun S' ρ z σ H' G' M' ⟨G1,o',r'⟩ s' m=>?_,fun S' d z v H' G' M' G1 ⟨ad',k'⟩ o' t m e=>?_,fun S ρ z=>z.elim,fun S ρ z=>z.elim⟩ q⟩
 ·obtain ⟨ad',k'⟩:=r'.kn
  obtain ⟨e1,e2,_⟩:=Out.whole mb k' o' r'.stp
  exact hP _ _ z .non H' G' M' ad' e1 e2 rfl
 ·obtain ⟨e1,e2,e3⟩:=Out.whole mb k' o' t
  exact hP _ _ z v H' G' M' ad' e1 e2 (e3 d v e)
end Fd
namespace L2
open PySem PySem.Spec PyProof.Rows PySem.W
section
variable {P:Program} {w:World} {K:PySem.W.Frag} {mg:Str->Option Value} {base:Heap} {N:List Str} {qual:Str} {scope:Scope} {f:Addr} {cd:Value} {A:Around} {outer:List Env} {s0:Shared} {H0:Hp} {E E1:XK}
theorem zsl (hE:∀ C H',E1 (.ref C) none H'->E (.ref C) none H'):zbs (CXN P w) (cxOf (CXN P w) P w K mg base N qual scope f cd A outer s0 H0 E) E1:=by
 rintro pins σ H s _ s' I ⟨ea,C,H',rfl,N',e1⟩
 have nex:∀ {b:Addr},b ∉ ([]:List Addr):=fun z=>nomatch z
 have neL:∀ {b o},s0.heap.get? b = some o->b ≠ s0.heap.objs.size:=fun e=>YAp (YAg e)
 have sub:∀ {b},b ∉ frs outer->b ≠ s0.heap.objs.size->b ∉ frs (cxOf (CXN P w) P w K mg base N qual scope f cd A outer s0 H0 E).stack:=fun h1 h2 h3=>(YAr.mp (I.stkSub _ h3)).elim h2 h1
 obtain ⟨B,fl,hB⟩:=id N'.fly
 have frx:∀ b ∈ frs (cxOf (CXN P w) P w K mg base N qual scope f cd A outer s0 H0 E).stack,∃ o,s.heap.get? b = some o:=fun b hb=>by
  obtain ⟨_,o,ho,_⟩:=I.stack.mem hb
  exact ⟨o,ho⟩
 refine znh I.ok.frames rfl fl fun h' fl' sm=>?_
 have on:=N'.on hB fl.2.2.1 I.stkFree fl'.1 sm frx
 have I':Inv (cxOf (CXN P w) P w K mg base N qual scope f cd A outer s0 H0 E) pins σ H' { s' with heap:=h' }:=I.call' (s':={ s' with heap:=h' }) N'.os on.1 on.2 N'.bare fun b z=>nomatch z
 refine ⟨ea,C,H',rfl,⟨I'.os,I'.bare,I'.base,I'.hok,B,fl',fun b o q hb nf=>?_⟩,hE C H' e1⟩
 rcases hb with ⟨u,hu⟩ | ⟨u,hu⟩
 ·obtain ⟨v,hv⟩:=(N'.hok b u hu).ex
  have nb:b ∉ frs (cxOf (CXN P w) P w K mg base N qual scope f cd A outer s0 H0 E).stack:=fun z=>by rw [I'.stkFree b z] at hu;cases hu
  have z:=hB b v hv (.inl ⟨u,hu⟩) nb
  have:=fl'.1 b v z
  rw [this] at q;cases q;exact z
 ·obtain ⟨o1,q1⟩:=I.base.there b u hu nex
  obtain ⟨o2,q2⟩:=N'.un.there b o1 q1 nex
  have z:=hB b o2 q2 (.inr ⟨o1,q1⟩) (sub nf (neL hu))
  have:=fl'.1 b o2 z
  rw [this] at q;cases q;exact z
end
end L2
namespace Fd
open PySem L2
def RepF (b:Bo) (S:Sto) (M:Hp) (ρ:Env) (σ:St) (H G:Hp) (d:D) (v:V):Prop:=∃ G1,Out b M G1/\Rel (reB b S M G1) ρ σ H G/\Rep (reB b S M G1) G d v
def RepsF (b:Bo) (S:Sto) (M:Hp) (ρ:Env) (σ:St) (H G:Hp) (ds:List D) (vs:List V):Prop:=∃ G1,Out b M G1/\Rel (reB b S M G1) ρ σ H G/\Reps (reB b S M G1) G ds vs
abbrev WOE:=Env->Sto->(D->Sto->Prop)->Prop
abbrev WOA:=Env->Sto->(List D->Sto->Prop)->Prop
def zgg {α:Type} (W:Env->Sto->(α->Sto->Prop)->Prop):Prop:=∀ ρ S Q Q',(∀ d S',Q d S'->Q' d S')->W ρ S Q->W ρ S Q'
def tOE (b:Bo) (W:WOE):TE:=fun σ H Q=>∃ ρ G S M,RelF b S M ρ σ H G/\W ρ S fun d S'=>∀ v H' G' M',RepF b S' M' ρ σ H' G' d v->Same G G'->Dm M M'->Q v H'
def tOA (b:Bo) (W:WOA):TA:=fun σ H Q=>∃ ρ G S M,RelF b S M ρ σ H G/\W ρ S fun ds S'=>∀ vs H' G' M',RepsF b S' M' ρ σ H' G' ds vs->Same G G'->Dm M M'->Q vs H'
structure OE (X:Cx) (b:Bo) (e:Expr) (W:WOE):Prop where
 mono:zgg W
 pe:PE X e (tOE b W)
structure OA (X:Cx) (b:Bo) (es:List Expr) (W:WOA):Prop where
 mono:zgg W
 pa:PA X es (tOA b W)
theorem RepF.rel {b:Bo} {S:Sto} {M:Hp} {ρ:Env} {σ:St} {H G:Hp} {d:D} {v:V} (r:RepF b S M ρ σ H G d v):RelF b S M ρ σ H G:=let ⟨G1,o,r1,_⟩:=r;⟨G1,o,r1⟩
theorem RepsF.rel {b:Bo} {S:Sto} {M:Hp} {ρ:Env} {σ:St} {H G:Hp} {ds:List D} {vs:List V} (r:RepsF b S M ρ σ H G ds vs):RelF b S M ρ σ H G:=let ⟨G1,o,r1,_⟩:=r;⟨G1,o,r1⟩
section
variable {X:Cx} {b:Bo} {e e1:Expr} {es:List Expr} {pos p:Pos}
theorem ziI {A:Sto->WE} (h:∀ S M G1,DE X (reB b S M G1) e (A S)):OE X b e (fun ρ S Q=>A S ρ fun d=>Q d S) where
 mono:=fun ρ S Q Q' l q=>(h S (fun _=>none) (fun _=>none)).mono ρ _ _ (fun d z=>l d S z) q
 pe:=fun pins s σ H Q I ⟨ρ,G,S,M,⟨G1,o,r⟩,q⟩=>(h S M G1).pe pins s σ H Q I ⟨ρ,G,r,(h S M G1).mono ρ _ _ (fun d z v H' G' t e=>z v H' G' M ⟨G1,o,r.step t,e⟩ t.gg (Dm.refl M)) q⟩
@[reducible] def nilO:WOA:=fun ρ S Q=>Q [] S
@[reducible] def zbz (A:WOE) (B:WOA):WOA:=fun ρ S Q=>A ρ S fun d S1=>B ρ S1 fun ds S2=>Q (d :: ds) S2
theorem zlT {t t':TA} (h:PA X es t) (k:∀ σ H Q,t' σ H Q->t σ H Q):PA X es t':=fun pos pins s σ H Q I q=>h pos pins s σ H Q I (k σ H Q q)
theorem zeX:OA X b [] nilO:=⟨fun ρ S Q Q' l q=>l _ S q,zlT za1 fun σ H Q ⟨ρ,G,S,M,⟨G1,o,r⟩,q⟩=>q [] H G M ⟨G1,o,r,rfl⟩ (Same.refl _) (Dm.refl M)⟩
theorem za7 {A:WOE} {B:WOA} (hA:OE X b e A) (hB:OA X b es B) (hs:starEach (e :: es) X.env = (false,eval e X.env) :: starEach es X.env:=by rfl):OA X b (e :: es) (zbz A B) where
 mono:=fun ρ S Q Q' l q=>hA.mono ρ S _ _ (fun d S1 z=>hB.mono ρ S1 _ _ (fun ds S2 y=>l _ S2 y) z) q
 pa:=zlT (zav hA.pe hB.pa hs) fun σ H Q ⟨ρ,G,S,M,r,q⟩=>⟨ρ,G,S,M,r,hA.mono ρ S _ _ (fun d S1 z v H1 G1 M1 r1 s1 m1=>⟨ρ,G1,S1,M1,r1.rel,hB.mono ρ S1 _ _ (fun ds S2 y vs H2 G2 M2 r2 s2 m2=>by
   obtain ⟨Ga,o,ra,ea⟩:=r1
   obtain ⟨Gb,o',rb,eb⟩:=r2
   exact y (v :: vs) H2 G2 M2 ⟨Gb,o',rb,v,vs,rfl,ea.carry s2 rb.apart,eb⟩ (s1.trans s2) (m1.trans m2)) z⟩) q⟩
theorem RelF.called {S S':Sto} {M M' H G H' G':Hp} {ad':Addr->List Addr} {ρ:Env} {σ:St} {d:D} {v:V} (r:RelF b S M ρ σ H G) (e:Eff b.β M M' H G H' G') (k:Kn b.K b.β G' S' M' ad') (z:Rep ⟨b.K,b.β,H,G,True⟩ G' d v):RepF b S' M' ρ σ H' G' d v:=by
 obtain ⟨G1,o,r1⟩:=r
 refine ⟨G',o.eff r1 e,r1.eff (fun a z=>⟨(o.mb a z).1,(o.mb a z).2.2⟩) e ⟨ad',k⟩,Rep.reb (c:=reB b S' M' G') (c':=⟨b.K,b.β,H,G,True⟩) rfl rfl (fun a ga h=>?_) z⟩
 have:=ov_none.mp (show ov b.H0 M a = none from r1.new0 h)
 refine ov_none.mpr ⟨?_,this.2⟩
 cases y:M' a with
 | none=>rfl
 | some u=>exact absurd (e.mg a (by rw [y];simp)).1 ga
theorem RelF.give {K:PySem.W.Frag} {mg:Str->Option Value} {n:Nat} {F:FnF} {S:Sto} {M H G:Hp} {ρ:Env} {σ:St} {ds:List D} {vs:List V} {Q:VK} {E1:XK} (hK:b.K = K) (r:RepsF b S M ρ σ H G ds vs) (hn:ds.length = n)
  (q:upF F ds S (fun d S'=>∀ v H' G' M',RepF b S' M' ρ σ H' G' d v->Same G G'->Dm M M'->Q v H') fun nm S'=>∀ C H' G' M',mg nm = some (.ref C)->RelF b S' M' ρ σ H' G'->Same G G'->Dm M M'->E1 (.ref C) none H'):spO K mg n F vs H Q E1:=by
 subst hK
 have rl:=r.rel
 obtain ⟨G1,o,r1,e⟩:=r
 obtain ⟨ad,k⟩:=r1.kn
 refine ⟨b.β,G,S,M,ad,ds,r1.gh,r1.bx,fun a u h=>r1.stp.fr a u (o.mb a (by rw [h];simp)).2.2 (ze7 h),k.mono r1.stp.gg r1.apart,Reps.back (c':=reB b S M G1) (c:=nub b.K b.β G) rfl rfl (fun _ _=>rfl) e,by rw [<- e.length];exact hn,zc2 F (fun d S' z v H' G' M' ad' ef k' e'=>z v H' G' M' (rl.called ef k' e') ef.gg ef.dm) (fun nm S' z C H' G' M' ad' hm ef k'=>z C H' G' M' hm (rl.called (d:=.non) (v:=.non) ef k' rfl).rel ef.gg ef.dm) q⟩
end
structure Met (P:Program) (w:World) (K:PySem.W.Frag) (mg:Str->Option Value) (base:Heap) (CX:CXT) (C:Addr) (m:Str) (k:Nat) (ps:List Str) (sp:Sp):Prop where
 ex:∃ f fd,FnOk P w K mg base CX k f fd ps sp/\Cls K C/\Meth K C m f/\Binds K fd ps []
def XO (b:Bo) (mg:Str->Option Value) (y:Str->Sto->Prop):XK:=fun v _ H'=>∃ nm C S' M' ρ σ G',v = .ref C/\y nm S'/\mg nm = some (.ref C)/\RelF b S' M' ρ σ H' G'
theorem zeH {m:Str}:∀ {fs:List (Str × List D)} {as:List Addr},(∀ x ∈ fs,x.1 ≠ m)->(kvF fs as).lookup m = none
 | [],_,_=>rfl
 | _ :: _,[],_=>rfl
 | x :: fs,a :: as,h=>by
  show ((x.1,V.ref a) :: kvF fs as).lookup m = none
  rw [YAI]
  have:(m == x.1) = false:=by
   rw [YAM];exact YAH (h x (by simp))
  rw [this]
  exact zeH fun y hy=>h y (by simp [hy])
section
variable {X:Cx} {b:Bo} {e:Expr} {es:List Expr} {pos p apos:Pos} {y:Str->Sto->Prop}
@[reducible] def zgT (n:Nat) (F:FnF) (y:Str->Sto->Prop) (R:WOA):WOE:=fun ρ S Q=>R ρ S fun ds S1=>ds.length = n/\upF F ds S1 Q y
theorem zkB {n:Nat} {F:FnF} {R:WOA} (h:zgg R):zgg (zgT n F y R):=fun ρ S Q Q' l q=>h ρ S _ _ (fun ds S1 z=>⟨z.1,zc2 F l (fun _ _ w=>w) z.2⟩) q
theorem ziE {x:Str} {k n:Nat} {ps:List Str} {F:FnF} {R:WOA} (C:CalX X.prog X.w X.K X.mg X.base x k ps (spO X.K X.mg n F)) (hR:OA X b (e :: es) R) (hx:zbs (CXN X.prog X.w) X (XO b X.mg y)) (hg:Gl X x:=by rfl)
  (hdb:(x == ("__debug__" : Str)) = false:=by decide) (he:starEach (e :: es) X.env = (false,eval e X.env) :: starEach es X.env:=by rfl) (hpl:(backTo pos (starEach es X.env)).any (·.1) = false:=by rfl) (hK:b.K = X.K:=by rfl) (hr:Room k X.A:=by decreasing_trivial) :
  OE X b (.Call (.Name x p) (e :: es) [] pos) (zgT n F y R) where
 mono:=zkB hR.mono
 pe:=by
  obtain ⟨f,fd,FO,hm,hk,hb⟩:=C.ex
  refine zan (zda FO hr hg hm hk hb .nil hx hR.pa hdb he hpl) fun σ H Q ⟨ρ,G,S,M,r,q⟩=>⟨ρ,G,S,M,r,hR.mono ρ S _ _ (fun ds S1 z vs H' G' M' r' s' m'=>?_) q⟩
  show spO X.K X.mg n F (vs ++ []) H' Q _
  rw [YAS]
  exact RelF.give hK r' z.1 (zc2 F (fun d S' w v H2 G2 M2 r2 s2 m2=>w v H2 G2 M2 r2 (s'.trans s2) (m'.trans m2)) (fun nm S' w C H2 G2 M2 hc r2 s2 m2=>⟨nm,C,S',M2,ρ,σ,G2,rfl,w,hc,r2⟩) z.2)
@[reducible] def zeh (i:Nat) (C:Addr) (m:Str) (n:Nat) (F:FnF) (y:Str->Sto->Prop) (R:WOA):WOE:=fun ρ S Q=>match ρ[i]? with
 | some (.val (.obj a))=>(∃ o,S a = some o/\o.C = C/\∀ x ∈ o.fs,x.1 ≠ m)/\R ρ S fun ds S1=>ds.length + 1 = n/\upF F (.obj a :: ds) S1 Q y
 | _=>False
theorem zeu {i:Nat} {C:Addr} {m:Str} {n:Nat} {F:FnF} {R:WOA} (h:zgg R):zgg (zeh i C m n F y R):=fun ρ S Q Q' l q=>by
 unfold zeh at q ⊢
 split at q
 ·exact ⟨q.1,h ρ S _ _ (fun ds S1 z=>⟨z.1,zc2 F l (fun _ _ w=>w) z.2⟩) q.2⟩
 ·exact q.elim
theorem RelF.at {S:Sto} {M H G:Hp} {ρ:Env} {σ:St} {a:Addr} {o:Ob} (r:RelF b S M ρ σ H G) (h:S a = some o):∃ dx as,H a = some (.ins o.C dx (kvF o.fs as)):=by
 obtain ⟨G1,u,r1⟩:=r
 obtain ⟨ad,k⟩:=r1.kn
 obtain ⟨dx,h1,_⟩:=k.obj a o h
 exact ⟨dx,ad a,r1.stp.fr a _ (u.mb a (by rw [h1];simp)).2.2 (ze7 h1)⟩
theorem zgy {S:Sto} {M G:Hp} {ρ:Env} {σ:St} {H:Hp} {Q:VK} {i:Nat} {C:Addr} {m:Str} {n:Nat} {F:FnF} {R:WOA} {E:XK} {t:TA} {x:Str} (hK:b.K = X.K) (hR:zgg R) (r:RelF b S M ρ σ H G) (q:zeh i C m n F y R ρ S fun d S'=>∀ v H' G' M',RepF b S' M' ρ σ H' G' d v->Same G G'->Dm M M'->Q v H') (hE:∀ nm C S' M' H' G',y nm S'->X.mg nm = some (.ref C)->RelF b S' M' ρ σ H' G'->Same G G'->Dm M M'->E (.ref C) none H') (ht:∀ σ H Q,tOA b R σ H Q->t σ H Q) :
  zkO C m (spO X.K X.mg n F) [] E (tOE b (fun ρ S Q=>vW i ρ fun d=>Q d S)) t σ H Q:=by
 unfold zeh at q
 split at q
 ·rename_i a ea
  obtain ⟨⟨o,h1,h2,h3⟩,q⟩:=q
  refine ⟨ρ,G,S,M,r,?_⟩
  show vW i ρ _
  unfold vW
  rw [ea]
  intro v H1 G1 M1 r1 s1 m1
  obtain ⟨dx,as,h4⟩:=r1.rel.at h1
  obtain ⟨Ga,oa,ra,e⟩:=r1
  have ev:v = V.ref a:=e
  subst ev
  rw [h2] at h4
  refine ⟨a,dx,kvF o.fs as,rfl,h4,zeH h3,ht _ _ _ ⟨ρ,G1,S,M1,⟨Ga,oa,ra⟩,hR ρ S _ _ (fun ds S1 z vs H' G' M' r' s' m'=>?_) q⟩⟩
  show spO X.K X.mg n F (V.ref a :: (vs ++ [])) H' Q _
  rw [YAS]
  have r2:RepsF b S1 M' ρ σ H' G' (.obj a :: ds) (V.ref a :: vs):=by
   obtain ⟨Gb,ob,rb,eb⟩:=r'
   exact ⟨Gb,ob,rb,V.ref a,vs,rfl,rfl,eb⟩
  exact RelF.give hK r2 z.1 (zc2 F (fun d S' w v H2 G2 M2 r2 s2 m2=>w v H2 G2 M2 r2 ((s1.trans s').trans s2) ((m1.trans m').trans m2)) (fun nm S' w C H2 G2 M2 hc r2 s2 m2=>hE nm C S' M2 H2 G2 w hc r2 ((s1.trans s').trans s2) ((m1.trans m').trans m2)) z.2)
 ·exact q.elim
theorem zms {σ:St} {H:Hp} {Q:VK} {i:Nat} {C:Addr} {m:Str} {n:Nat} {F:FnF} {R:WOA} {sp:Sp} {E:XK} {t:TA} {x:Str} (hK:b.K = X.K) (hsp:sp = spO X.K X.mg n F) (hE:E = XO b X.mg y) (hR:zgg R) (hv:∀ S M G1,DE X (reB b S M G1) (.Name x p) (vW i)) (q:tOE b (zeh i C m n F y R) σ H Q) (ht:∀ σ H Q,tOA b R σ H Q->t σ H Q) :
  zkO C m sp [] E (tOE b (fun ρ S Q=>vW i ρ fun d=>Q d S)) t σ H Q:=by
 subst hsp hE
 obtain ⟨ρ,G,S,M,r,q⟩:=q
 exact zgy (X:=X) (x:=x) hK hR r q (fun nm C S' M' H' G' w hc r2 _ _=>⟨nm,C,S',M',ρ,σ,G',rfl,w,hc,r2⟩) ht
theorem zsi {x m:Str} {i k n:Nat} {C:Addr} {ps:List Str} {F:FnF} {R:WOA} {pl:Sem Bool} (T:Met X.prog X.w X.K X.mg X.base (CXN X.prog X.w) C m k ps (spO X.K X.mg n F)) (hv:∀ S M G1,DE X (reB b S M G1) (.Name x p) (vW i)) (hR:OA X b (e :: es) R) (hx:zbs (CXN X.prog X.w) X (XO b X.mg y))
  (he:starEach (e :: es) X.env = (false,eval e X.env) :: starEach es X.env:=by rfl) (hpl:(backTo pos (starEach es X.env)).any (·.1) = false:=by rfl)
  (ht:eval (.Call (.Attribute (.Name x p) m apos) (e :: es) [] pos) X.env = (do
   let ov <- eval (.Name x p) X.env
   standAt apos.atName
   let (f,first) <- holding [ov] (getMethod ov m pl)
   callWith pos f first (backTo pos (starEach (e :: es) X.env)) (backToKw pos (keywordEach [] X.env))):=by rfl) (hK:b.K = X.K:=by rfl) (hr:Room k X.A:=by decreasing_trivial) :
  OE X b (.Call (.Attribute (.Name x p) m apos) (e :: es) [] pos) (zeh i C m n F y R) where
 mono:=zeu hR.mono
 pe:=by
  obtain ⟨f,fd,FO,hc,hm,hb⟩:=T.ex
  exact zan (zpU (ziI (A:=fun _=>vW i) hv).pe hc hm FO hr hb .nil hx hR.pa he hpl ht) fun σ H Q q=>zms hK rfl rfl hR.mono hv q fun _ _ _ z=>z
@[reducible] def retO (A:WOE):WF:=fun E S ρ=>A ρ S fun d S'=>E.rt S' d
theorem zqV {A:WOE} (hA:OE X b e A):OS X b (.Return (some e) pos) (retO A) where
 mono:=fun E E' S ρ l q=>hA.mono ρ S _ _ (fun d S' z=>l.rt S' d z) q
 ps:=zbp (ze2 hA.pe) fun D σ H ⟨ρ,G,S,M,r,q⟩=>⟨ρ,G,S,M,r,hA.mono ρ S _ _ (fun d S' z v H' G' M' ⟨G1,o,r',e⟩ s' m'=>z v H' G' M' G1 r'.kn o r'.stp m' e) q⟩
@[reducible] def asgO (t:Tg) (A:WOE):WF:=fun E S ρ=>A ρ S fun d S'=>gD t d ρ (E.nx S')
theorem zlh {t:Tg} {A:WOE} (h:zgg A):znO (asgO t A):=fun E E' S ρ l q=>h ρ S _ _ (fun d S' z=>zbG t d ρ (fun ρ' z=>l.nx S' ρ' z) z) q
theorem zmk {t:Tg} {A:WOE} (mA:zgg A) (D:Ends) (σ:St) (H:Hp) (h:tOS b (asgO t A) D σ H):tAsg (tOE b A) (gOf b.K t) D σ H:=by
 obtain ⟨ρ,G,S,M,r,q⟩:=h
 refine ⟨ρ,G,S,M,r,mA ρ S _ _ (fun d S' z v H' G' M' ⟨G1,o,r',e⟩ s' m'=>?_) q⟩
 exact zeV (c:=reB b S' M' G1) t d v ρ σ r' e (zbG t d ρ (fun ρ' w σ' r2=>w σ' H' G' M' ⟨G1,o,r2⟩ s' m') z)
theorem zmg (i:Nat) {x:Str} {A:WOE} (hA:OE X b e A) (hi:X.N[i]? = some x:=by rfl) (hx:Loc X.env.scope x:=by first | exact Or.inl rfl | exact Or.inr rfl) (hs:swapsWith e (some (.Name x p)) pos.line X.env = pure false:=by rfl) (hf:X.fn x = true\/X.env.scope.names.lookup x = some .local:=by first | exact .inl rfl | exact .inr rfl | assumption) (hN:X.N.Nodup:=by decreasing_trivial):OS X b (.Assign [.Name x p] e pos) (asgO (.nm i) A):=
 ⟨zlh hA.mono,zbp (zc3 hN hi hx hA.pe hs hf) fun D σ H h=>zmk (t:=.nm i) hA.mono D σ H h⟩
end
theorem zlc {f:Str} {ys:List D}:∀ {fs:List (Str × List D)} {as:List Addr} {j:Nat} {xs:List D},fs[j]? = some (f,xs)->kvF (fs.set j (f,ys)) as = kvF fs as
 | [],_,_,_,h=>by simp at h
 | _ :: _,[],0,_,_=>rfl
 | _ :: _,[],_ + 1,_,_=>rfl
 | x :: fs,a :: as,0,xs,h=>by
  have:x = (f,xs):=by simpa using h
  subst this;rfl
 | x :: fs,a :: as,j + 1,xs,h=>by
  show (x.1,V.ref a) :: kvF (fs.set j (f,ys)) as = (x.1,V.ref a) :: kvF fs as
  rw [zlc (by simpa using h)]
theorem zjT {f:Str}:∀ {fs:List (Str × List D)} {as:List Addr} {j:Nat} {xs:List D},(∀ i y,i < j->fs[i]? = some y->y.1 ≠ f)->fs[j]? = some (f,xs)->as.length = fs.length->∃ a,as[j]? = some a/\(kvF fs as).lookup f = some (.ref a)
 | [],_,_,_,_,h,_=>by simp at h
 | _ :: _,[],_,_,_,_,h=>by simp at h
 | x :: fs,a :: as,0,xs,_,h,_=>by
  have:x = (f,xs):=by simpa using h
  subst this
  exact ⟨a,rfl,by show ((f,V.ref a) :: kvF fs as).lookup f = _;simp⟩
 | x :: fs,a :: as,j + 1,xs,hn,h,hl=>by
  obtain ⟨b,h1,h2⟩:=zjT (fs:=fs) (as:=as) (j:=j) (fun i y hi e=>hn (i + 1) y (by omega) (by simpa using e)) (by simpa using h) (by simpa using hl)
  refine ⟨b,by simpa using h1,?_⟩
  show ((x.1,V.ref a) :: kvF fs as).lookup f = _
  rw [YAI]
  have:(f == x.1) = false:=by rw [YAM];exact YAH (hn 0 x (by omega) rfl)
  rw [this];exact h2
def setF (o:Ob) (j:Nat) (f:Str) (ys:List D):Ob:=⟨o.C,o.fs.set j (f,ys)⟩
section
variable {b:Bo}
def IsF (o:Ob) (f:Str) (j:Nat) (xs:List D):Prop:=o.fs[j]? = some (f,xs)/\∀ i y,i < j->o.fs[i]? = some y->y.1 ≠ f
theorem Kn.at {K:PySem.W.Frag} {β:Addr} {G:Hp} {S:Sto} {M:Hp} {ad:Addr->List Addr} {p:Addr} {o:Ob} {f:Str} {j:Nat} {xs:List D} (k:Kn K β G S M ad) (h:S p = some o) (hf:IsF o f j xs):∃ dx a vs,M p = some (.ins o.C dx (kvF o.fs (ad p)))/\(kvF o.fs (ad p)).lookup f = some (.ref a)/\(ad p)[j]? = some a/\M a = some (.lst vs)/\Reps (nub K β G) G xs vs:=by
 obtain ⟨dx,h1,h2⟩:=k.obj p o h
 obtain ⟨a,h3,h4⟩:=zjT hf.2 hf.1 h2
 obtain ⟨vs,h5,h6⟩:=k.lst p o j a _ h h3 hf.1
 exact ⟨dx,a,vs,h1,h4,h3,h5,h6⟩
theorem Kn.put {K:PySem.W.Frag} {β:Addr} {G:Hp} {S:Sto} {M:Hp} {ad:Addr->List Addr} {p a:Addr} {o:Ob} {f:Str} {j:Nat} {xs ys:List D} {vs ws:List V} (k:Kn K β G S M ad) (h:S p = some o) (hf:IsF o f j xs) (ha:(ad p)[j]? = some a) (hm:M a = some (.lst vs)) (hy:Reps (nub K β G) G ys ws):Kn K β G (upS S p (setF o j f ys)) (upd M a (.lst ws)) ad:=by
 have ins:∀ q u,S q = some u->q ≠ a:=fun q u hq z=>by
  obtain ⟨dx,h1,_⟩:=k.obj q u hq
  rw [z,hm] at h1;cases h1
 have some':∀ q,upS S p (setF o j f ys) q ≠ none->S q ≠ none:=fun q hq z=>by
  by_cases e:q = p
  ·subst e;rw [h] at z;cases z
  ·rw [zcS e] at hq;exact hq z
 refine ⟨fun q u hq=>?_,fun q u i c x hq hc hx=>?_,fun q r i l c hq hr=>k.dis q r i l c (some' q hq) (some' r hr),fun c u hc=>?_,fun c hc=>?_⟩
 ·by_cases e:q = p
  ·subst e
   rw [zaZ] at hq;cases hq
   obtain ⟨dx,h1,h2⟩:=k.obj q o h
   exact ⟨dx,by rw [upd_ne (ins q o h)];show M q = some (.ins o.C dx (kvF (o.fs.set j (f,ys)) (ad q)));rw [zlc hf.1];exact h1,by show (ad q).length = (o.fs.set j (f,ys)).length;rw [YCm];exact h2⟩
  ·rw [zcS e] at hq
   obtain ⟨dx,h1,h2⟩:=k.obj q u hq
   exact ⟨dx,by rw [upd_ne (ins q u hq)];exact h1,h2⟩
 ·by_cases e:q = p
  ·subst e
   rw [zaZ] at hq;cases hq
   by_cases ij:i = j
   ·subst ij
    rw [ha] at hc;cases hc
    have hx':(o.fs.set i (f,ys))[i]? = some x:=hx
    rw [YAh (YAe.mp hf.1).1] at hx'
    cases hx'
    exact ⟨ws,zae,hy⟩
   ·have hx':(o.fs.set j (f,ys))[i]? = some x:=hx
    rw [YAi (YAH ij)] at hx'
    obtain ⟨us,h1,h2⟩:=k.lst q o i c x h hc hx'
    have:c ≠ a:=fun z=>ij (k.dis q q i j c (by rw [h];simp) (by rw [h];simp) hc (z ▸ ha)).2
    exact ⟨us,by rw [upd_ne this];exact h1,h2⟩
  ·rw [zcS e] at hq
   obtain ⟨us,h1,h2⟩:=k.lst q u i c x hq hc hx
   have:c ≠ a:=fun z=>e (k.dis q p i j c (by rw [hq];simp) (by rw [h];simp) hc (z ▸ ha)).1
   exact ⟨us,by rw [upd_ne this];exact h1,h2⟩
 ·by_cases e:c = a
  ·subst e;rw [zae] at hc;cases hc;exact fun z=>z
  ·rw [upd_ne e] at hc;exact k.kin c u hc
 ·by_cases e:c = a
  ·subst e;exact k.ap c (by rw [hm];simp)
  ·rw [upd_ne e] at hc;exact k.ap c hc
theorem RelF.put' {S:Sto} {M H G G1:Hp} {ad:Addr->List Addr} {ρ:Env} {σ:St} {p a:Addr} {o:Ob} {f:Str} {j:Nat} {xs ys:List D} {vs ws:List V} (u:Out b M G1) (r:Rel (reB b S M G1) ρ σ H G) (k:Kn b.K b.β G1 S M ad) (h:S p = some o) (hf:IsF o f j xs) (ha:(ad p)[j]? = some a) (hm:M a = some (.lst vs)) (hy:Reps (nub b.K b.β G) G ys ws):Out b (upd M a (.lst ws)) G/\Rel (reB b (upS S p (setF o j f ys)) (upd M a (.lst ws)) G) ρ σ (upd H a (.lst ws)) G/\Kn b.K b.β G (upS S p (setF o j f ys)) (upd M a (.lst ws)) ad/\Dm M (upd M a (.lst ws)):=by
 have ma:M a ≠ none:=by rw [hm];simp
 have ab:=(u.mb a ma).2.2
 have hH:∀ c w,M c = some w->H c = some w:=fun c w hc=>r.stp.fr c w (u.mb c (by rw [hc];simp)).2.2 (ze7 hc)
 have dom:∀ c,upd M a (.lst ws) c ≠ none->M c ≠ none:=fun c hc=>by
  by_cases e:c = a
  ·subst e;exact ma
  ·rw [upd_ne e] at hc;exact hc
 have dm:Dm M (upd M a (.lst ws)):=fun c hc=>by
  by_cases e:c = a
  ·subst e;rw [zae];simp
  ·rw [upd_ne e];exact hc
 have ef:Eff b.β M (upd M a (.lst ws)) H G (upd H a (.lst ws)) G:=by
  refine ⟨Same.refl _,fun c w hc=>?_,fun c w n hc hw=>?_,fun c w hc=>?_,fun c hc=>.inl (dom c hc),fun c hc=>⟨r.apart c (dom c hc),(u.mb c (dom c hc)).2.2⟩,fun c hc=>.inl hc,?_,fun cc q s d hb=>⟨q,s,d,by rw [upd_ne (YAH ab)];exact hb⟩,dm⟩
  ·rw [upd_ne (fun z=>by rw [z,r.apart a ma] at hc;cases hc)];exact r.gh c w hc
  ·rw [upd_ne (fun z=>by rw [z] at hc;exact ma hc)];exact hw
  ·by_cases e:c = a
   ·subst e;rw [zae] at hc ⊢;exact hc
   ·rw [upd_ne e] at hc ⊢;exact hH c w hc
  ·obtain ⟨cc,q,s,d,ns,hb,z⟩:=r.bx.ex
   exact ⟨⟨cc,q,s,d,ns,by rw [upd_ne (YAH ab)];exact hb,z⟩,r.bx.still⟩
 have k':=(k.mono r.stp.gg r.apart).put h hf ha hm hy
 exact ⟨u.eff r ef,r.eff (fun c hc=>⟨(u.mb c hc).1,(u.mb c hc).2.2⟩) ef ⟨ad,k'⟩,k',dm⟩
theorem RelF.put {S:Sto} {M H G G1:Hp} {ad:Addr->List Addr} {ρ:Env} {σ:St} {p a:Addr} {o:Ob} {f:Str} {j:Nat} {xs ys:List D} {vs ws:List V} (u:Out b M G1) (r:Rel (reB b S M G1) ρ σ H G) (k:Kn b.K b.β G1 S M ad) (h:S p = some o) (hf:IsF o f j xs) (ha:(ad p)[j]? = some a) (hm:M a = some (.lst vs)) (hy:Reps (nub b.K b.β G) G ys ws):RelF b (upS S p (setF o j f ys)) (upd M a (.lst ws)) ρ σ (upd H a (.lst ws)) G/\Dm M (upd M a (.lst ws)):=
 let ⟨h1,h2,_,h4⟩:=RelF.put' u r k h hf ha hm hy
 ⟨⟨G,h1,h2⟩,h4⟩
end
section
variable {X:Cx} {b:Bo} {c:Bk} {e:Expr} {pos p fpos apos cpos:Pos}
theorem zoD {K:PySem.W.Frag} {β:Addr} {G G':Hp} {ds:List D} {vs:List V} (h:Reps (nub K β G) G ds vs) (s:Same G G'):Reps (nub K β G') G' ds vs:=Reps.back (c':=nub K β G) (c:=nub K β G') rfl rfl (fun _ e=>e) (h.mono s)
def appO (i:Nat) (f:Str) (C:Addr) (A:Sto->WE):WF:=fun E S ρ=>match ρ[i]? with
 | some (.val (.obj q))=>∃ o j xs,S q = some o/\o.C = C/\IsF o f j xs/\A S ρ fun d=>xs.length < 100000/\E.nx (upS S q (setF o j f (xs ++ [d.old]))) ρ
 | _=>False
theorem zoQ (i:Nat) {x f:Str} {C:Addr} {A:Sto->WE} (hA:∀ S M G1,DE X (reB b S M G1) e (A S)) (hc:Cls X.K C) (hn:NoAttr X.K C f) (hN:X.N[i]? = some x:=by rfl) (hv:Vis X.env.scope x:=by first | exact Or.inl rfl | exact Or.inr (Or.inl rfl) | exact Or.inr (Or.inr rfl))
  (hd:(x == ("__debug__" : Str)) = false:=by decide) (hcd:(x == ("__classdict__" : Str)) = false:=by decide)
  (hb0:attributeBase (.Name x p) f X.env (eval (.Name x p) X.env) = eval (.Name x p) X.env:=by rfl)
  (hbase:attributeBase (.Attribute (.Name x p) f fpos) "append" X.env (eval (.Attribute (.Name x p) f fpos) X.env) = eval (.Attribute (.Name x p) f fpos) X.env:=by rfl)
  (hfew:((backTo cpos (starEach [e] X.env)).all (fun x=>!x.1) && (backToKw cpos (keywordEach [] X.env)).all (fun x=>x.1.isSome)
   && decide (([e]:List Expr).length + ([]:List Keyword).length + (if ([]:List Keyword).isEmpty then 0 else 1) < 30)) = true:=by rfl)
  (hline:(apos.endLine == cpos.line) = true:=by rfl) (hs:starEach [e] X.env = (false,eval e X.env) :: starEach [] X.env:=by rfl)
  (hsw:swapsWith (.Call (.Attribute (.Attribute (.Name x p) f fpos) "append" apos) [e] [] cpos) none pos.line X.env = pure false:=by rfl) (hK:b.K = X.K:=by rfl):OS X b (.Expr (.Call (.Attribute (.Attribute (.Name x p) f fpos) "append" apos) [e] [] cpos) pos) (appO i f C A) where
 mono:=fun E E' S ρ l q=>by
  unfold appO at q ⊢
  split at q
  ·obtain ⟨o,j,xs,h1,h2,h3,q⟩:=q
   exact ⟨o,j,xs,h1,h2,h3,(hA S (fun _=>none) (fun _=>none)).mono ρ _ _ (fun d z=>⟨z.1,l.nx _ _ z.2⟩) q⟩
  ·exact q.elim
 ps:=fun pins s σ H D I ⟨ρ,G,S,M,⟨G1,u,r⟩,q⟩=>zmf (zn9 YBU PySem.F.slot_list_append PySem.F.type_list_append zfr (zlo (zbe hN hv hd hcd) hb0) (zav (hA S M G1).pe za1 hs) hbase hfew hline hs rfl) hsw pins s σ H D I (by
  unfold appO at q
  split at q
  ·rename_i a0 ei
   obtain ⟨o,j,xs,h1,h2,h3,q⟩:=q
   obtain ⟨ad,k⟩:=r.kn
   obtain ⟨dx,a,vs,k1,k2,k3,k4,k5⟩:=k.at h1 h3
   obtain ⟨v,ev,rv⟩:=r.slot i _ ei
   have rv':v = V.ref a0:=rv
   subst rv'
   have hM:∀ c w,M c = some w->H c = some w:=fun c w hc=>r.stp.fr c w (u.mb c (by rw [hc];simp)).2.2 (ze7 hc)
   refine ⟨.ref a0,ev,a0,o.C,dx,_,.ref a,rfl,hM _ _ k1,h2 ▸ hc,h2 ▸ hn,k2,.inl ⟨rfl,vs,SqL.of (hM _ _ k4)⟩,ρ,G,r,(hA S M G1).mono ρ _ _ (fun d z w H' G' t e=>?_) q⟩
   have r':=r.step t
   have ab:=(u.mb a (by rw [k4];simp)).2.2
   have hy:Reps (nub b.K b.β G') G' (xs ++ [d.old]) (vs ++ [w]):=(zoD k5 r'.stp.gg).append (.one (Rep.hand (c:=reB b S M G1) (c':=nub b.K b.β G') rfl rfl e))
   obtain ⟨r2,dm⟩:=RelF.put u r' k h1 h3 k3 k4 hy
   exact ⟨a,vs,w,rfl,rfl,t.fr a _ ab (hM _ _ k4),by rw [<- k5.length,YAO];have:=z.1;omega,z.2 σ _ G' _ r2 t.gg dm⟩
  ·exact q.elim)
def fixW (S:Sto) (i:Nat) (f:Str) (C:Addr) (B:WE):WE:=fun ρ Q=>match ρ[i]? with
 | some (.val (.obj q))=>∃ o j xs,S q = some o/\o.C = C/\IsF o f j xs/\B ρ fun y=>itD xs y fun d=>Q d.old
 | _=>False
def Knw (c:Bk) (S:Sto):Prop:=∃ M ad,Kn c.K c.β c.G0 S M ad/\∀ a o,M a = some o->c.H0 a = some o
theorem zlp {S:Sto} {M G1:Hp} (h:(reB b S M G1).P):Knw (reB b S M G1) S:=let ⟨ad,k⟩:=h;⟨M,ad,k,fun _ _ e=>ze7 e⟩
theorem Rel.obj {S:Sto} {ρ:Env} {σ:St} {H G:Hp} {q:Addr} {o:Ob} {f:Str} {j:Nat} {xs:List D} (r:Rel c ρ σ H G) (kw:Knw c S) (h:S q = some o) (hf:IsF o f j xs):∃ dx fs a vs,H q = some (.ins o.C dx fs)/\fs.lookup f = some (.ref a)/\H a = some (.lst vs)/\Reps (nub c.K c.β G) G xs vs/\a ≠ c.β/\G a = none:=by
 obtain ⟨M,ad,k,sub⟩:=kw
 obtain ⟨dx,a,vs,k1,k2,k3,k4,k5⟩:=k.at h hf
 have ma:M a ≠ none:=by rw [k4];simp
 refine ⟨dx,_,a,vs,r.stp.fr q _ (k.ap q (by rw [k1];simp)).2 (sub _ _ k1),k2,r.stp.fr a _ (k.ap a ma).2 (sub _ _ k4),zoD k5 r.stp.gg,(k.ap a ma).2,?_⟩
 cases e:G a with
 | none=>rfl
 | some w=>
  rcases r.stp.nw a (by rw [e];simp) with z | z | ⟨w',z,st⟩
  ·exact absurd (k.ap a ma).1 z
  ·rw [sub _ _ k4] at z;cases z
  ·rw [sub _ _ k4] at z;cases z;exact st.elim
end
section
variable {X:Cx} {b:Bo} {c:Bk} {e:Expr} {S:Sto} {C:Addr} {f:Str} {pos p fpos lp:Pos}
theorem zs2 (i:Nat) {x:Str} {B:WE} (hB:DE X c e B) (hk:c.P->Knw c S) (hc:Cls X.K C) (hn:NoAttr X.K C f) (hs:zje e:=by intro _ _;rfl) (hN:X.N[i]? = some x:=by rfl) (hv:Vis X.env.scope x:=by first | exact Or.inl rfl | exact Or.inr (Or.inl rfl) | exact Or.inr (Or.inr rfl))
  (hd:(x == ("__debug__" : Str)) = false:=by decide) (hcd:(x == ("__classdict__" : Str)) = false:=by decide) (hb0:attributeBase (.Name x p) f X.env (eval (.Name x p) X.env) = eval (.Name x p) X.env:=by rfl) (hK:c.K = X.K:=by rfl):DE X c (.Subscript (.Attribute (.Name x p) f fpos) e pos) (fixW S i f C B) where
 mono:=fun ρ Q Q' k q=>by
  unfold fixW at q ⊢
  split at q
  ·obtain ⟨o,j,xs,h1,h2,h3,q⟩:=q
   exact ⟨o,j,xs,h1,h2,h3,hB.mono ρ _ _ (fun y z=>zjX (fun d w=>k _ w) z) q⟩
  ·exact q.elim
 pe:=zan (zfP (hK ▸ zoI (X:=X)) (zlo (zbe hN hv hd hcd) hb0) hB.pe hs) fun σ H Q ⟨ρ,G,r,q⟩=>by
  unfold fixW at q
  split at q
  ·rename_i a0 ei
   obtain ⟨o,j,xs,h1,h2,h3,q⟩:=q
   obtain ⟨dx,fs,a,vs,g1,g2,g3,g4,g5,g6⟩:=r.obj (hk r.kn) h1 h3
   obtain ⟨v,ev,rv⟩:=r.slot i _ ei
   have rv':v = V.ref a0:=rv
   subst rv'
   refine ⟨.ref a0,ev,a0,o.C,dx,fs,.ref a,rfl,g1,h2 ▸ hc,h2 ▸ hn,g2,ρ,G,r,hB.mono ρ _ _ (fun y z w H1 G1 t1 e1=>?_) q⟩
   cases y with
   | int k=>
    cases e1
    have z:(match atI xs k with | some d=>_ | none=>False):=z
    split at z
    ·rename_i d' e'
     obtain ⟨w',f',rw'⟩:=zi2 g4 e'
     exact .inl ⟨a,vs,k,w',rfl,rfl,SqL.of (t1.fr a _ g5 g3),f',z w' H1 G1 t1 ((Rep.hand (c:=nub c.K c.β G) (c':=c) rfl rfl rw').mono t1.gg)⟩
    ·exact z.elim
   | _=>exact z.elim
  ·exact q.elim
def lstF (S:Sto) (i:Nat) (f:Str) (C:Addr):WL:=fun ρ Q=>match ρ[i]? with
 | some (.val (.obj q))=>∃ o j xs,S q = some o/\o.C = C/\IsF o f j xs/\Q (xs.map D.old)
 | _=>False
theorem zty (i:Nat) {x:Str} (hk:c.P->Knw c S) (hc:Cls X.K C) (hn:NoAttr X.K C f) (hN:X.N[i]? = some x:=by rfl) (hv:Vis X.env.scope x:=by first | exact Or.inl rfl | exact Or.inr (Or.inl rfl) | exact Or.inr (Or.inr rfl))
  (hd:(x == ("__debug__" : Str)) = false:=by decide) (hcd:(x == ("__classdict__" : Str)) = false:=by decide) (hb0:attributeBase (.Name x p) f X.env (eval (.Name x p) X.env) = eval (.Name x p) X.env:=by rfl) (hg:Gl X "list" := by rfl) (he:starEach [.Attribute (.Name x p) f fpos] X.env = (false,eval (.Attribute (.Name x p) f fpos) X.env) :: starEach [] X.env:=by rfl) (hK:c.K = X.K:=by rfl) (hm:X.mg "list" = none:=by decreasing_trivial):DF X c (.Call (.Name "list" lp) [.Attribute (.Name x p) f fpos] [] pos) (lstF S i f C) where
 mono:=fun ρ Q Q' k q=>by
  unfold lstF at q ⊢
  split at q
  ·obtain ⟨o,j,xs,h1,h2,h3,q⟩:=q
   exact ⟨o,j,xs,h1,h2,h3,k _ q⟩
  ·exact q.elim
 pe:=zan (zbX zc8 hg hm YBm (zav (zlo (zbe hN hv hd hcd) hb0) za1 he) (by decide) (by decide) he rfl) fun σ H Q ⟨ρ,G,r,q⟩=>by
  unfold lstF at q
  split at q
  ·rename_i a0 ei
   obtain ⟨o,j,xs,h1,h2,h3,q⟩:=q
   obtain ⟨dx,fs,a,vs,g1,g2,g3,g4,g5,g6⟩:=r.obj (hk r.kn) h1 h3
   obtain ⟨v,ev,rv⟩:=r.slot i _ ei
   have rv':v = V.ref a0:=rv
   subst rv'
   refine ⟨.ref a0,ev,a0,o.C,dx,fs,.ref a,rfl,g1,h2 ▸ hc,h2 ▸ hn,g2,a,vs,rfl,.inl (SqL.of g3),fun l hl=>q l vs _ _ (Stp.own r.gh r.bx hl) zae (zak r.gh hl) hl (Reps.hand (c:=nub c.K c.β G) (c':=c) rfl rfl g4)⟩
  ·exact q.elim
end
def spR (K:PySem.W.Frag) (n:Nat) (F:Sto->Fn):Sp:=fun vs H Q _=>∃ β G S ds,Same G H/\BoxD β H G/\(∃ M ad,Kn K β G S M ad/\∀ a o,M a = some o->H a = some o)/\Reps (nub K β G) G ds vs/\vs.length = n /\
 up (F S) ds fun d=>∀ v H' G',Stp β H G H' G'->Rep ⟨K,β,H,G,True⟩ G' d v->Q v H'
abbrev rdB (K:PySem.W.Frag) (β:Addr) (H G:Hp) (S:Sto):Bk:=⟨K,β,H,G,∃ M ad,Kn K β G S M ad/\∀ a o,M a = some o->H a = some o⟩
theorem zbC {K:PySem.W.Frag} {β:Addr} {H G:Hp} {S:Sto} (h:(rdB K β H G S).P):Knw (rdB K β H G S) S:=h
theorem zdi {P:Program} {w:World} {K:PySem.W.Frag} {mg:Str->Option Value} {base:Heap} {x qual:Str} {st:Stmt} {f:Addr} {fd:FuncData} {N ps:List Str} {k:Nat} {B:Sto->WS} (F:Fun K x qual st f fd)
  (hB:∀ {cdv:Value} {A:Around} {outer:List PySem.Env} {s:Shared} {H:Hp} {E:XK} {β:Addr} {G:Hp} (S:Sto),N.Nodup->Room k (A.deeper (PyProof.Rows.envOfC qual (zaj st) s.heap.objs.size f cdv)) ->
   DSs (cxOf CX0 P w K mg base N qual (zaj st) f cdv A outer s H E).nox (rdB K β H G S) (zaX st) (B S)) (S:FnScope N ps (zaj st):=by exact ⟨rfl,rfl,rfl,by decide +kernel,rfl,by decide +kernel,by decide +kernel⟩):FnOk P w K mg base CX0 (k + 1) f fd ps (spR K ps.length fun So=>fnW N.length (B So)):=by
 refine F.ok S (fun vs H Q E ⟨β,G,So,ds,_,_,_,_,h,_⟩=>h) (fun cdv A outer s H vs Q E hr ⟨β,G,So,ds,gh,bx,kn,hv,hl,P',q,hP⟩=>?_)
 have h:=@hB cdv A outer s H E β G So S.nd hr
 have r0:Rel (rdB K β H G So) (zaw N.length ds) (L2.zcV N vs) H G:=(zcN (N:=N) gh bx hv).hyp kn
 refine ⟨_,h.pss,zaw N.length ds,G,r0,h.mono { nx:=fun _=>P' .non,rt:=P',bk:=fun _=>False,ct:=fun _=>False } _ _ ⟨fun ρ z σ H' G' r s'=>hP _ z .non H' G' r.stp rfl,fun d z v H' G' t e=>hP _ z v H' G' t (Rep.reb (c:=⟨K,β,H,G,True⟩) (c':=rdB K β H G So) rfl rfl (fun _ _ w=>w) e),fun ρ z=>z.elim,fun ρ z=>z.elim⟩ q⟩
section
variable {X:Cx} {c:Bk} {e:Expr} {es:List Expr} {S:Sto} {pos p apos:Pos}
theorem Rel.know {ρ:Env} {σ:St} {H G:Hp} (r:Rel c ρ σ H G) (kw:Knw c S):∃ M ad,Kn c.K c.β G S M ad/\∀ a o,M a = some o->H a = some o:=by
 obtain ⟨M,ad,k,sub⟩:=kw
 refine ⟨M,ad,k.mono r.stp.gg fun a ma=>?_,fun a o h=>r.stp.fr a o (k.ap a (by rw [h];simp)).2 (sub a o h)⟩
 cases e:G a with
 | none=>rfl
 | some w=>
  cases y:M a with
  | none=>exact absurd y ma
  | some u=>
   rcases r.stp.nw a (by rw [e];simp) with z | z | ⟨w',z,st⟩
   ·exact absurd (k.ap a ma).1 z
   ·rw [sub _ _ y] at z;cases z
   ·rw [sub _ _ y] at z;cases z;exact absurd st (k.kin a _ y)
theorem Rel.read {n:Nat} {F:Sto->Fn} {ρ:Env} {σ:St} {H G:Hp} {ds:List D} {vs:List V} {Q:VK} {E:XK} (r:Rel c ρ σ H G) (kw:Knw c S) (hK:c.K = X.K) (e:Reps c G ds vs) (hn:ds.length = n) (q:up (F S) ds fun d=>∀ v H' G',Stp c.β H G H' G'->Rep c G' d v->Q v H'):spR X.K n F vs H Q E:=by
 obtain ⟨M,ad,k,sub⟩:=r.know kw
 exact ⟨c.β,G,S,ds,r.gh,r.bx,⟨M,ad,hK ▸ k,sub⟩,Reps.back (c':=c) (c:=nub X.K c.β G) hK rfl (fun _ _=>rfl) e,by rw [<- e.length];exact hn,
  zbt (F S) ds _ _ (fun d z v H2 G2 t2 e2=>z v H2 G2 t2 (Rep.back (c':=⟨X.K,c.β,H,G,True⟩) (c:=c) hK.symm rfl (fun a h=>r.new0 h) e2)) q⟩
@[reducible] def ziT (S:Sto) (n:Nat) (F:Sto->Fn) (R:WL):WE:=fun ρ Q=>R ρ fun ds=>ds.length = n/\up (F S) ds Q
theorem zjm {x:Str} {k n:Nat} {ps:List Str} {F:Sto->Fn} {R:WL} (C:Cal X.prog X.w X.K X.mg X.base x k ps (spR X.K n F)) (hR:DA X c (e :: es) R) (hk:c.P->Knw c S) (hg:Gl X x:=by rfl)
  (hdb:(x == ("__debug__" : Str)) = false:=by decide) (he:starEach (e :: es) X.env = (false,eval e X.env) :: starEach es X.env:=by rfl) (hpl:(backTo pos (starEach es X.env)).any (·.1) = false:=by rfl) (hK:c.K = X.K:=by rfl) (hr:Room k X.A:=by decreasing_trivial) :
  DE X c (.Call (.Name x p) (e :: es) [] pos) (ziT S n F R) where
 mono:=fun ρ Q Q' k q=>hR.mono ρ _ _ (fun ds z=>⟨z.1,zbt (F S) ds _ _ k z.2⟩) q
 pe:=by
  obtain ⟨f,fd,FO,hm,hkp,hb⟩:=C.ex
  refine zan (zda FO hr hg hm hkp hb .nil zjf hR.pa hdb he hpl) fun σ H Q ⟨ρ,G,r,q⟩=>⟨ρ,G,r,hR.mono ρ _ _ (fun ds z vs H' G' t e=>?_) q⟩
  show spR X.K n F (vs ++ []) H' Q E0
  rw [YAS]
  exact (r.step t).read (hk r.kn) hK e z.1 (zbt (F S) ds _ _ (fun d w v H2 G2 t2 e2=>w v H2 G2 (t.trans t2) e2) z.2)
def zbY (S:Sto) (i:Nat) (C:Addr) (m:Str) (n:Nat) (F:Sto->Fn) (R:WL):WE:=fun ρ Q=>match ρ[i]? with
 | some (.val (.obj a))=>(∃ o,S a = some o/\o.C = C/\∀ x ∈ o.fs,x.1 ≠ m)/\R ρ fun ds=>ds.length + 1 = n/\up (F S) (.obj a :: ds) Q
 | _=>False
theorem zkV {i:Nat} {C:Addr} {m:Str} {n:Nat} {F:Sto->Fn} {R:WL} (h:zeQ R):zbE (zbY S i C m n F R):=fun ρ Q Q' k q=>by
 unfold zbY at q ⊢
 split at q
 ·exact ⟨q.1,h ρ _ _ (fun ds z=>⟨z.1,zbt (F S) _ _ _ k z.2⟩) q.2⟩
 ·exact q.elim
theorem zkN {i:Nat} {C:Addr} {m:Str} {n:Nat} {F:Sto->Fn} {R:WL} {t:TA} {σ:St} {H:Hp} {Q:VK} (hk:c.P->Knw c S) (hK:c.K = X.K) (hR:zeQ R) (ht:∀ σ H Q,tDs c R σ H Q->t σ H Q) (q:tD c (zbY S i C m n F R) σ H Q) :
  zkO C m (spR X.K n F) [] E0 (fun σ H Q=>∃ v,σ[i]? = some (some v)/\Q v H) t σ H Q:=by
 obtain ⟨ρ,G,r,q⟩:=q
 unfold zbY at q
 split at q
 ·rename_i a ei
  obtain ⟨⟨o,h1,h2,h3⟩,q⟩:=q
  obtain ⟨v,ev,rv⟩:=r.slot i _ ei
  have rv':v = V.ref a:=rv
  subst rv'
  obtain ⟨M,ad,k,sub⟩:=r.know (hk r.kn)
  obtain ⟨dx,g1,_⟩:=k.obj a o h1
  refine ⟨.ref a,ev,a,dx,_,rfl,h2 ▸ sub _ _ g1,zeH h3,ht _ _ _ ⟨ρ,G,r,hR ρ _ _ (fun ds z vs H' G' t e=>?_) q⟩⟩
  show spR X.K n F (V.ref a :: (vs ++ [])) H' Q E0
  rw [YAS]
  exact (r.step t).read (hk r.kn) hK (ds:=.obj a :: ds) ⟨V.ref a,vs,rfl,rfl,e⟩ z.1 (zbt (F S) _ _ _ (fun d w v H2 G2 t2 e2=>w v H2 G2 (t.trans t2) e2) z.2)
 ·exact q.elim
theorem za9 {x m:Str} {i k n:Nat} {C:Addr} {ps:List Str} {F:Sto->Fn} {pl:Sem Bool} (T:Met X.prog X.w X.K X.mg X.base CX0 C m k ps (spR X.K n F)) (hk:c.P->Knw c S) (hN:X.N[i]? = some x:=by rfl) (hv:Vis X.env.scope x:=by first | exact Or.inl rfl | exact Or.inr (Or.inl rfl) | exact Or.inr (Or.inr rfl))
  (hd:(x == ("__debug__" : Str)) = false:=by decide) (hcd:(x == ("__classdict__" : Str)) = false:=by decide)
  (ht:eval (.Call (.Attribute (.Name x p) m apos) [] [] pos) X.env = (do
   let ov <- eval (.Name x p) X.env
   standAt apos.atName
   let (f,first) <- holding [ov] (getMethod ov m pl)
   callWith pos f first (backTo pos (starEach [] X.env)) (backToKw pos (keywordEach [] X.env))):=by rfl) (hK:c.K = X.K:=by rfl) (hr:Room k X.A:=by decreasing_trivial) :
  DE X c (.Call (.Attribute (.Name x p) m apos) [] [] pos) (zbY S i C m n F (fun _ Q=>Q [])) where
 mono:=zkV (fun _ Q Q' k q=>k _ q)
 pe:=by
  obtain ⟨f,fd,FO,hc,hm,hb⟩:=T.ex
  exact zan (znE (zbe hN hv hd hcd) hc hm FO hr hb .nil zjf ht) fun σ H Q q=>zkN hk hK (fun _ Q Q' k q=>k _ q) (fun σ H Q ⟨ρ,G,r,q⟩=>q [] H G r.refl rfl) q
end
def zax {α:Type}:List Str->List α->Str->Option α
 | k :: ks,x :: xs,z=>if k = z then some x else zax ks xs z
 | _,_,_=>none
theorem zdr:∀ {ks:List Str} {vs:List V} {z:Str},valV (kvD ks vs) (Sum.inr z) = zax ks vs z
 | [],_,_=>rfl
 | _ :: _,[],_=>rfl
 | k :: ks,v :: vs,z=>by
  show valV (((Sum.inr k:Key),v) :: kvD ks vs) (Sum.inr z) = if k = z then some v else zax ks vs z
  by_cases e:k = z
  ·rw [if_pos e,zd0 (p:=((Sum.inr k:Key),v)) (by rw [e])]
  ·rw [if_neg e,zel (p:=((Sum.inr k:Key),v)) (fun y=>e (Sum.inr.inj y)),zdr]
theorem zdY {c:Bk} {G:Hp}:∀ {ks:List Str} {xs:List D} {vs:List V} {z:Str} {d:D},Reps c G xs vs->zax ks xs z = some d->∃ v,zax ks vs z = some v/\Rep c G d v
 | [],_,_,_,_,_,h=>by simp [zax] at h
 | _ :: _,[],_,_,_,_,h=>by simp [zax] at h
 | k :: ks,x :: xs,vs,z,d,⟨v,ws,h1,h2,h3⟩,h=>by
  subst h1
  unfold zax at h ⊢
  by_cases e:k = z
  ·rw [if_pos e] at h ⊢
   cases h;exact ⟨v,rfl,h2⟩
  ·rw [if_neg e] at h ⊢
   exact zdY h3 h
def optD (o:Option D) (Q:D->Prop):Prop:=match o with | some d=>Q d | none=>False
theorem zf8 {o:Option D} {Q Q':D->Prop} (k:∀ d,Q d->Q' d) (q:optD o Q):optD o Q':=by
 cases o with
 | none=>exact q
 | some d=>exact k _ q
def zau:F2
 | .dct _ ks xs,.str z,Q=>optD (zax ks xs z) Q
 | .fdc ks xs,.str z,Q=>optD (zax ks xs z) Q
 | _,_,_=>False
theorem zlH:za5 zau:=fun x y Q Q' k q=>by
 unfold zau at q ⊢
 split at q
 ·exact zf8 k q
 ·exact zf8 k q
 ·exact q.elim
section
variable {X:Cx} {c:Bk} {a i:Expr} {pos p:Pos}
theorem zar {A B:WE} (hA:DE X c a A) (hB:DE X c i B) (hs:NoSl i:=by intro _ _;rfl) (hu:X.A.units + 1 < cLine:=by decreasing_trivial):DE X c (.Subscript a i pos) (binW zau A B) where
 mono:=zdq zlH hA.mono hB.mono
 pe:=zan (zmc hu hA.pe hB.pe hs) fun σ H Q ⟨ρ,G,r,q⟩=>⟨ρ,G,r,hA.mono ρ _ _ (fun x zx vx H1 G1 t1 e1=>⟨ρ,G1,r.step t1,hB.mono ρ _ _ (fun y zy vy H2 G2 t2 e2=>by
  unfold zau at zy
  split at zy
  ·rename_i n ks xs z
   obtain ⟨d0,vs,h1,h2,_,h4,h5⟩:=e1
   subst h1
   have ey:vy = V.str z:=e2
   subst ey
   cases e:zax ks xs z with
   | none=>rw [e] at zy;exact zy.elim
   | some d=>
    rw [e] at zy
    obtain ⟨v,f1,f2⟩:=zdY h5 e
    refine ⟨d0,v,rfl,?_,zy v H2 G2 (t1.trans t2) (f2.mono t2.gg)⟩
    have:=DGet.k (k:=Sum.inr z) (t2.gh _ _ (t2.gg _ _ h2))
    rw [zdr,f1] at this
    exact this
  ·rename_i ks xs z
   obtain ⟨d0,vs,o,h1,h2,h4,h5⟩:=e1
   subst h1
   have ey:vy = V.str z:=e2
   subst ey
   cases e:zax ks xs z with
   | none=>rw [e] at zy;exact zy.elim
   | some d=>
    rw [e] at zy
    obtain ⟨v,f1,f2⟩:=zdY h5 e
    refine ⟨d0,v,rfl,?_,zy v H2 G2 (t1.trans t2) (f2.mono t2.gg)⟩
    have:DGet H2 d0 (V.str z) (valV (kvD ks vs) (Sum.inr z)):=.inl ⟨_,.inr z,.inr ⟨o,t2.gh _ _ (t2.gg _ _ h2)⟩,rfl,rfl⟩
    rw [zdr,f1] at this
    exact this
  ·exact zy.elim) zx⟩) q⟩
theorem zdm:CallR X (.type "dict") (fun xs H Q=>∃ a kvs,xs = [.ref a]/\Rd H a (.dK kvs)/\∀ l,H l = none->Q (.ref l) (upd H l (.dK kvs))):=by
 intro pins s σ H xs us Q I r h
 obtain ⟨a,kvs,rfl,ha,q⟩:=h
 obtain ⟨u,rfl,rx⟩:=zeI r
 cases rx
 exact zm9 I ha fun p s' hp I'=>⟨.ref p,_,I',rfl,q p hp⟩
end
def putKs (ks:List Str) (z:Str):List Str:=if ks.contains z then ks else ks ++ [z]
def putVs {α:Type} (ks:List Str) (vs:List α) (z:Str) (w:α):List α:=if ks.contains z then List.zipWith (fun k x=>if k = z then w else x) ks vs else vs ++ [w]
theorem zmy {z:Str}:∀ {ks:List Str} {vs:List V},ks.length = vs.length->(kvD ks vs).any (fun kv=>decide (kv.1 = (Sum.inr z:Key))) = ks.contains z
 | [],[],_=>rfl
 | k :: ks,v :: vs,h=>by
  show (decide ((Sum.inr k:Key) = Sum.inr z) || (kvD ks vs).any _) = _
  rw [zmy (by simpa using h),List.contains_cons]
  congr 1
  by_cases e:k = z
  ·subst e;simp
  ·rw [YAv (fun y=>e (Sum.inr.inj y))];symm;rw [YAM];exact fun y=>e y.symm
theorem zlu {z:Str} {w:V}:∀ {ks:List Str} {vs:List V},ks.length = vs.length->(kvD ks vs).map (fun kv=>if kv.1 = (Sum.inr z:Key) then (kv.1,w) else kv) = kvD ks (List.zipWith (fun k x=>if k = z then w else x) ks vs)
 | [],[],_=>rfl
 | k :: ks,v :: vs,h=>by
  show (if (Sum.inr k:Key) = Sum.inr z then ((Sum.inr k:Key),w) else (Sum.inr k,v)) :: (kvD ks vs).map _ = (Sum.inr k,if k = z then w else v) :: kvD ks _
  rw [zlu (by simpa using h)]
  congr 1
  by_cases e:k = z
  ·subst e;simp
  ·rw [if_neg (fun y=>e (Sum.inr.inj y)),if_neg e]
theorem zhh {ks:List Str} {vs:List V} {z:Str} {w:V} (h:ks.length = vs.length):putK (kvD ks vs) (Sum.inr z) w = kvD (putKs ks z) (putVs ks vs z w):=by
 unfold putK putKs putVs
 rw [zmy h]
 by_cases e:ks.contains z = true
 ·rw [if_pos e,if_pos e,if_pos e,zlu h]
 ·rw [if_neg e,if_neg e,if_neg e]
  unfold kvD
  rw [List.zip_append h,YAT];rfl
theorem zjH {c:Bk} {G:Hp} {d:D} {w:V} {z:Str} (hd:Rep c G d w):∀ {ks:List Str} {xs:List D} {vs:List V},Reps c G xs vs->Reps c G (List.zipWith (fun k x=>if k = z then d else x) ks xs) (List.zipWith (fun k x=>if k = z then w else x) ks vs)
 | [],_,_,_=>rfl
 | _ :: _,[],_,h=>by cases h;rfl
 | k :: ks,x :: xs,_,⟨v,ws,h1,h2,h3⟩=>by
  subst h1
  refine ⟨if k = z then w else v,_,rfl,?_,zjH hd h3⟩
  show Rep c G (if k = z then d else x) (if k = z then w else v)
  by_cases e:k = z
  ·rw [if_pos e,if_pos e];exact hd
  ·rw [if_neg e,if_neg e];exact h2
theorem zd7 {c:Bk} {G:Hp} {d:D} {w:V} {z:Str} {ks:List Str} {xs:List D} {vs:List V} (hd:Rep c G d w) (h:Reps c G xs vs):Reps c G (putVs ks xs z d) (putVs ks vs z w):=by
 unfold putVs
 by_cases e:ks.contains z = true
 ·rw [if_pos e,if_pos e];exact zjH hd h
 ·rw [if_neg e,if_neg e];exact h.append (.one hd)
theorem zhi {ks:List Str} {vs:List V} {z:Str} {w:V} (h:ks.length = vs.length):(putKs ks z).length = (putVs ks vs z w).length:=by
 unfold putKs putVs
 by_cases e:ks.contains z = true
 ·rw [if_pos e,if_pos e,List.length_zipWith,<- h];simp
 ·rw [if_neg e,if_neg e,YAs,YAs,h];rfl
section
variable {X:Cx} {c:Bk} {p1 p2 p3 p4 p5 p6 p7 p8 p9 p10 p11 p12:Pos}
def znk (ib iw iv i:Nat):WS:=fun E ρ=>match ρ[ib]?,ρ[iw]?,ρ[iv]? with
 | some (.val (.dct _ ks xs)),some (.val (.str z)),some (.val d)=>i < ρ.length/\ks.length < 1000/\E.rt (.dct true (putKs ks z) (putVs ks xs z d))
 | _,_,_=>False
theorem zsj (ib iw iv i:Nat) {x nb nw nv:Str} (hi:X.N[i]? = some x:=by rfl) (hx:X.env.scope.names.lookup x = some .local:=by rfl) (hdx:(x == ("__debug__" : Str)) = false:=by decide) (hcx:(x == ("__classdict__" : Str)) = false:=by decide)
  (hb:PE X (.Name nb p3) (tVar ib)) (hw:PE X (.Name nw p6) (tVar iw)) (hv:PE X (.Name nv p7) (tVar iv)) (nb':i ≠ ib:=by decide) (nw':i ≠ iw:=by decide) (nv':i ≠ iv:=by decide)
  (hg:Gl X "dict" := by rfl) (he:starEach [.Name nb p3] X.env = (false,eval (.Name nb p3) X.env) :: starEach [] X.env:=by rfl) (hm:X.mg "dict" = none:=by decreasing_trivial)
  (hs1:swapsWith (.Call (.Name "dict" p2) [.Name nb p3] [] p4) (some (.Name x p1)) p5.line X.env = pure false:=by rfl) (hs2:swapsWith (.Name nv p7) (some (.Subscript (.Name x p8) (.Name nw p6) p9)) p10.line X.env = pure false:=by rfl)
  (hu:X.A.units + 1 < cLine:=by decreasing_trivial) (hN:X.N.Nodup:=by decreasing_trivial) :
  DSs X c [.Assign [.Name x p1] (.Call (.Name "dict" p2) [.Name nb p3] [] p4) p5,.Assign [.Subscript (.Name x p8) (.Name nw p6) p9] (.Name nv p7) p10,   .Return (some (.Name x p11)) p12] (znk ib iw iv i) where
 mono:=fun E E' ρ l q=>by
  unfold znk at q ⊢
  split at q
  ·exact ⟨q.1,q.2.1,l.rt _ q.2.2⟩
  ·exact q.elim
 pss:=by
  have pvx:∀ {p:Pos},PE X (.Name x p) (tVar i):=fun {p}=>zbe hi (.inl hx) hdx hcx
  refine zeG (zaJ (zc3 hN hi (.inl hx) (zbX zdm hg hm YBY (zav hb za1 he) (by decide) (by decide) he rfl) hs1 (.inr hx)) (zaJ (ziC hu pvx hw hv hs2) (zdc (ze2 pvx)))) fun D σ H ⟨ρ,G,r,q⟩=>?_
  unfold znk at q
  split at q
  ·rename_i n ks xs z d e1 e2 e3
   obtain ⟨hl,q⟩:=q
   rw [r.len] at hl
   obtain ⟨v1,s1,a,vs,h1,h2,_,h4,h5⟩:=r.slot ib _ e1
   obtain ⟨v2,s2,r2⟩:=r.slot iw _ e2
   obtain ⟨v3,s3,r3⟩:=r.slot iv _ e3
   subst h1
   have e:v2 = V.str z:=r2
   subst e
   have other:∀ {j:Nat} {l:Addr},i ≠ j->(σ.set i (some (.ref l)))[j]? = σ[j]?:=fun h=>YAi h
   refine ⟨.ref a,s1,a,_,rfl,.inl (r.gh _ _ h2),fun l hl0=>?_⟩
   have at_:(σ.set i (some (.ref l)))[i]? = some (some (.ref l)):=YAh hl
   have len:(kvD ks vs).length < sizeLine:=by
    unfold kvD
    rw [YAd,YBd,<- h4,YBx,YAO];have:=q.1;omega
   refine ⟨v3,(other nv').trans s3,.ref l,at_,.str z,(other nw').trans s2,l,_,rfl,DPut.k (k:=.inr z) zae len,?_⟩
   rw [zjc,zhh h4]
   refine ⟨.ref l,at_,?_⟩
   have gl:=zak r.gh hl0
   have sg:Same G (upd G l (.dK (kvD (putKs ks z) (putVs ks vs z v3)))):=zbU gl
   exact q.2 (.ref l) _ _ (r.stp.trans (Stp.new r.gh r.bx hl0)) ⟨l,_,rfl,zae,fun _=>r.new0 hl0,zhi h4,(zd7 r3 h5).mono sg⟩
  ·exact q.elim
end
theorem Stp.wrS {β p:Addr} {H G H2 G2:Hp} {o:HO} (s:Stp β H G H2 G2) (h0:H p = none) (hb:p ≠ β) (g2:G2 p = none):Stp β H G (upd H2 p o) (upd G2 p o):=
 ⟨s.gg.trans (zbU g2),fun a u e=>by
  by_cases z:a = p
  ·subst z;rw [zae] at e ⊢;exact e
  ·rw [upd_ne z] at e ⊢;exact s.gh a u e,
 fun a u n e=>by
  have z:a ≠ p:=fun z=>by rw [z,h0] at e;cases e
  rw [upd_ne z];exact s.fr a u n e,
 fun a e=>by
  by_cases z:a = p
  ·subst z;exact .inr (.inl h0)
  ·rw [upd_ne z] at e;exact s.nw a e,
 ⟨by
   obtain ⟨cc,q,r,d,ns,h,p1,p2,p3,p4,hc,w⟩:=s.bx.ex
   exact ⟨cc,q,r,d,ns,by rw [upd_ne (YAH hb)];exact h,p1,p2,p3,p4,by rw [upd_ne (zam hc g2)];exact hc,w⟩,by rw [upd_ne (YAH hb)];exact s.bx.still⟩,
 s.b0,fun cc q r d h=>by
  obtain ⟨q1,r1,d1,h1⟩:=s.bc cc q r d h
  exact ⟨q1,r1,d1,by rw [upd_ne (YAH hb)];exact h1⟩⟩
structure DP (X:Cx) (c:Bk) (pos:Pos) (keys:List (Option Expr)) (values:List Expr) (ks:List Str) (R:WL):Prop where
 mono:zeQ R
 ex:∃ trs,PPs X pos keys values trs/\∀ σ H (Q:List (V × V)->Hp->Prop),(∃ ρ G,Rel c ρ σ H G/\R ρ fun ds=>∀ vs H' G',Stp c.β H G H' G'->Reps c G' ds vs->Q ((ks.zip vs).map fun p=>(V.str p.1,p.2)) H')->zju trs σ H Q
section
variable {X:Cx} {c:Bk} {pos kpos:Pos} {keys:List (Option Expr)} {values:List Expr} {e:Expr} {ks:List Str} {R:WL}
theorem zo0:DP X c pos [] [] [] (fun _ Q=>Q []):=⟨fun ρ Q Q' k q=>k _ q,[],zpE,fun σ H Q ⟨ρ,G,r,q⟩=>q [] H G r.refl rfl⟩
theorem zbZ {k:Str} {n:Nat} {A:WE} (hA:DE X c e A) (hR:DP X c pos keys values ks R):DP X c pos (some (.Constant (.str k) n kpos) :: keys) (e :: values) (k :: ks) (fun ρ Q=>A ρ fun d=>R ρ fun ds=>Q (d :: ds)):=by
 obtain ⟨m,trs,h1,h2⟩:=hR
 refine ⟨fun ρ Q Q' k q=>hA.mono ρ _ _ (fun d z=>m ρ _ _ (fun ds y=>k _ y) z) q,_,znm zoT hA.pe h1,fun σ H Q ⟨ρ,G,r,q⟩=>?_⟩
 exact ⟨ρ,G,r,hA.mono ρ _ _ (fun d z v H1 G1 t1 e1=>h2 σ H1 _ ⟨ρ,G1,r.step t1,m ρ _ _ (fun ds y vs H2 G2 t2 e2=>y (v :: vs) H2 G2 (t1.trans t2) ⟨v,vs,rfl,e1.mono t2.gg,e2⟩) z⟩) q⟩
theorem zj6:∀ {ks:List Str} {vs:List V},ks.length = vs.length->(kvD ks vs).map (·.1) = ks.map (Sum.inr:Str->Key)
 | [],[],_=>rfl
 | k :: ks,v :: vs,h=>by
  show (Sum.inr k:Key) :: (kvD ks vs).map (·.1) = _
  rw [zj6 (by simpa using h)];rfl
theorem zig:∀ {ks:List Str},ks.Nodup->(ks.map (Sum.inr:Str->Key)).Nodup
 | [],_=>YCX
 | k :: ks,h=>by
  rw [YBk] at h
  rw [YAm,YBk]
  refine ⟨fun m=>?_,zig h.2⟩
  obtain ⟨x,hx,e⟩:=YBc.mp m
  exact h.1 (Sum.inr.inj e ▸ hx)
@[reducible] def zqE (ks:List Str) (R:WL):WE:=fun ρ Q=>R ρ fun xs=>xs.length = ks.length/\Q (.dct true ks xs)
theorem zoM (hR:DP X c pos keys values ks R) (hn:ks.Nodup:=by decide +kernel) (hl:ks.length <= 15:=by decide) (ha:keys.all (·.isSome) = true:=by rfl) (hkl:keys.length = values.length:=by rfl) (h0:keys ≠ []:=by intro z;cases z) (h15:keys.length <= 15:=by decide):DE X c (.Dict keys values pos) (zqE ks R) where
 mono:=fun ρ Q Q' k q=>hR.mono ρ _ _ (fun ds z=>⟨z.1,k _ z.2⟩) q
 pe:=by
  obtain ⟨m,trs,h1,h2⟩:=hR
  refine zan (zqw h1 ha hkl h0 h15) fun σ H Q ⟨ρ,G,r,q⟩=>fun p hp=>?_
  have st:=Stp.own (o:=.dK []) r.gh r.bx hp
  have pb:=r.neβ hp
  refine h2 σ _ _ ⟨ρ,G,r.step st,m ρ _ _ (fun xs z vs H2 G2 t2 e2=>?_) q⟩
  have hlen:ks.length = vs.length:=z.1.symm.trans e2.length
  have g2:G2 p = none:=by
   cases w:G2 p with
   | none=>rfl
   | some o=>
    rcases t2.nw p (by rw [w];simp) with y | y | ⟨u,y,su⟩
    ·exact absurd (zak r.gh hp) y
    ·rw [zae] at y;cases y
    ·rw [zae] at y;cases y;exact su.elim
  refine ⟨t2.fr p _ pb zae,kvD ks vs,by unfold kvD;rw [YBG];rfl,by unfold kvD;rw [YAd,YBd,<- hlen,YBx];exact hl,?_⟩
  rw [zes (kvD ks vs) [] (fun k _=>by simp) (by rw [zj6 hlen];exact zig hn),YCO]
  exact z.2 (.ref p) _ _ ((st.trans t2).wrS hp pb g2) ⟨p,vs,rfl,zae,fun _=>r.new0 hp,hlen,e2.mono (zbU g2)⟩
end
def adS (ad:Addr->List Addr) (p:Addr) (as:List Addr):Addr->List Addr:=fun q=>if q = p then as else ad q
theorem zcZ {ad:Addr->List Addr} {p:Addr} {as:List Addr}:adS ad p as p = as:=by unfold adS;rw [if_pos rfl]
theorem zf4 {ad:Addr->List Addr} {p q:Addr} {as:List Addr} (h:q ≠ p):adS ad p as q = ad q:=by unfold adS;rw [if_neg h]
structure Gets (fs fs':List (Str × List D)) (as as':List Addr) (j:Nat) (f:Str) (xs:List D) (l:Addr):Prop where
 len:as'.length = fs'.length
 new:fs'[j]? = some (f,xs)
 at_:∀ (i:Nat) a,as'[i]? = some a->(i = j/\a = l)\/(i ≠ j/\as[i]? = some a/\fs'[i]? = fs[i]?)
theorem Kn.newL {K:PySem.W.Frag} {β:Addr} {G:Hp} {S:Sto} {M:Hp} {ad:Addr->List Addr} {p l dx:Addr} {o:Ob} {f:Str} {j:Nat} {xs:List D} {ws:List V} {fs':List (Str × List D)} {as':List Addr} (k:Kn K β G S M ad) (h:S p = some o) (hl:M l = none) (gl:G l = none) (lb:l ≠ β) (g:Gets o.fs fs' (ad p) as' j f xs l) (hw:Reps (nub K β G) G xs ws) :
  Kn K β G (upS S p ⟨o.C,fs'⟩) (upd (upd M l (.lst ws)) p (.ins o.C dx (kvF fs' as'))) (adS ad p as'):=by
 have mp:∀ q u,S q = some u->M q ≠ none:=fun q u hq=>by obtain ⟨_,h1,_⟩:=k.obj q u hq;rw [h1];simp
 have pl:p ≠ l:=fun z=>mp p o h (z ▸ hl)
 have mlst:∀ q u (i:Nat) a x,S q = some u->(ad q)[i]? = some a->u.fs[i]? = some x->a ≠ p/\a ≠ l:=fun q u i a x hq ha hx=>by
  obtain ⟨vs,h1,_⟩:=k.lst q u i a x hq ha hx
  refine ⟨fun z=>?_,fun z=>?_⟩
  ·obtain ⟨_,h2,_⟩:=k.obj p o h
   rw [z,h2] at h1;cases h1
  ·rw [z,hl] at h1;cases h1
 have inFs:∀ q u (i:Nat) a,S q = some u->(ad q)[i]? = some a->∃ x,u.fs[i]? = some x:=fun q u i a hq ha=>by
  obtain ⟨_,_,h2⟩:=k.obj q u hq
  have:=(YAe.mp ha).1
  exact ⟨_,YAn (by rw [<- h2];exact this)⟩
 have some':∀ q,upS S p ⟨o.C,fs'⟩ q ≠ none->∃ u,S q = some u:=fun q hq=>by
  by_cases e:q = p
  ·exact ⟨o,e ▸ h⟩
  ·rw [zcS e] at hq
   cases z:S q with
   | none=>exact absurd z hq
   | some u=>exact ⟨u,rfl⟩
 refine ⟨fun q u hq=>?_,fun q u i a x hq ha hx=>?_,fun q r i n a hq hr ha hb=>?_,fun a u ha=>?_,fun a ha=>?_⟩
 ·by_cases e:q = p
  ·subst e
   rw [zaZ] at hq;cases hq
   exact ⟨dx,by rw [zae,zcZ],by rw [zcZ];exact g.len⟩
  ·rw [zcS e] at hq
   obtain ⟨d,h1,h2⟩:=k.obj q u hq
   have ql:q ≠ l:=fun z=>mp q u hq (z ▸ hl)
   exact ⟨d,by rw [upd_ne e,upd_ne ql,zf4 e];exact h1,by rw [zf4 e];exact h2⟩
 ·by_cases e:q = p
  ·subst e
   rw [zaZ] at hq;cases hq
   rw [zcZ] at ha
   rcases g.at_ i a ha with ⟨z1,z2⟩ | ⟨z1,z2,z3⟩
   ·subst z1 z2
    have hx':fs'[i]? = some x:=hx
    rw [g.new] at hx';cases hx'
    exact ⟨ws,by rw [upd_ne (YAH pl),zae],hw⟩
   ·have hx':fs'[i]? = some x:=hx
    rw [z3] at hx'
    obtain ⟨vs,h1,h2⟩:=k.lst q o i a x h z2 hx'
    obtain ⟨n1,n2⟩:=mlst q o i a x h z2 hx'
    exact ⟨vs,by rw [upd_ne n1,upd_ne n2];exact h1,h2⟩
  ·rw [zcS e] at hq
   rw [zf4 e] at ha
   obtain ⟨vs,h1,h2⟩:=k.lst q u i a x hq ha hx
   obtain ⟨n1,n2⟩:=mlst q u i a x hq ha hx
   exact ⟨vs,by rw [upd_ne n1,upd_ne n2];exact h1,h2⟩
 ·have old:∀ q (i:Nat),upS S p ⟨o.C,fs'⟩ q ≠ none->(adS ad p as' q)[i]? = some a->(q = p/\i = j/\a = l)\/((q = p->i ≠ j)/\(ad q)[i]? = some a/\a ≠ l):=fun q i hq ha=>by
   obtain ⟨u,hu⟩:=some' q hq
   by_cases e:q = p
   ·subst e
    rw [zcZ] at ha
    rcases g.at_ i a ha with ⟨z1,z2⟩ | ⟨z1,z2,z3⟩
    ·exact .inl ⟨rfl,z1,z2⟩
    ·obtain ⟨x,hx⟩:=inFs q u i a hu z2
     exact .inr ⟨fun _=>z1,z2,(mlst q u i a x hu z2 hx).2⟩
   ·rw [zf4 e] at ha
    obtain ⟨x,hx⟩:=inFs q u i a hu ha
    exact .inr ⟨fun z=>absurd z e,ha,(mlst q u i a x hu ha hx).2⟩
  rcases old q i hq ha with ⟨a1,a2,a3⟩ | ⟨a1,a2,a3⟩
  ·rcases old r n hr hb with ⟨b1,b2,b3⟩ | ⟨b1,b2,b3⟩
   ·exact ⟨a1.trans b1.symm,a2.trans b2.symm⟩
   ·exact absurd a3 b3
  ·rcases old r n hr hb with ⟨b1,b2,b3⟩ | ⟨b1,b2,b3⟩
   ·exact absurd b3 a3
   ·obtain ⟨u,hu⟩:=some' q hq
    obtain ⟨w,hw'⟩:=some' r hr
    exact k.dis q r i n a (by rw [hu];simp) (by rw [hw'];simp) a2 b2
 ·by_cases e:a = p
  ·subst e;rw [zae] at ha;cases ha;exact fun z=>z
  ·rw [upd_ne e] at ha
   by_cases e':a = l
   ·subst e';rw [zae] at ha;cases ha;exact fun z=>z
   ·rw [upd_ne e'] at ha;exact k.kin a u ha
 ·by_cases e:a = p
  ·subst e;exact k.ap a (mp a o h)
  ·rw [upd_ne e] at ha
   by_cases e':a = l
   ·subst e';exact ⟨gl,lb⟩
   ·rw [upd_ne e'] at ha;exact k.ap a ha
def putO (f:Str) (xs:List D):List (Str × List D)->List (Str × List D)
 | []=>[(f,xs)]
 | (g,y) :: r=>if g = f then (g,xs) :: r else (g,y) :: putO f xs r
def putA (f:Str) (l:Addr):List (Str × List D)->List Addr->List Addr
 | [],_=>[l]
 | (g,_) :: r,a :: as=>if g = f then l :: as else a :: putA f l r as
 | _ :: _,[]=>[]
theorem zlD {f:Str} {xs:List D} {l:Addr}:∀ {fs:List (Str × List D)} {as:List Addr},as.length = fs.length->putF f (.ref l) (kvF fs as) = kvF (putO f xs fs) (putA f l fs as)
 | [],[],_=>rfl
 | (g,y) :: fs,a :: as,h=>by
  show (if g = f then (g,V.ref l) :: kvF fs as else (g,V.ref a) :: putF f (.ref l) (kvF fs as)) = kvF (if g = f then (g,xs) :: fs else (g,y) :: putO f xs fs) (if g = f then l :: as else a :: putA f l fs as)
  by_cases e:g = f
  ·rw [if_pos e,if_pos e,if_pos e];rfl
  ·rw [if_neg e,if_neg e,if_neg e,zlD (xs:=xs) (by simpa using h)];rfl
theorem puts {f:Str} {xs:List D} {l:Addr}:∀ {fs:List (Str × List D)} {as:List Addr},as.length = fs.length->∃ j,Gets fs (putO f xs fs) as (putA f l fs as) j f xs l
 | [],[],_=>⟨0,rfl,rfl,fun i a h=>by
  cases i with
  | zero=>exact .inl ⟨rfl,by simpa [putA] using h.symm⟩
  | succ i=>simp [putA] at h⟩
 | (g,y) :: fs,a :: as,h=>by
  unfold putO putA
  by_cases e:g = f
  ·rw [if_pos e,if_pos e]
   subst e
   refine ⟨0,by simpa using h,rfl,fun i c hc=>?_⟩
   cases i with
   | zero=>exact .inl ⟨rfl,by simpa using hc.symm⟩
   | succ i=>exact .inr ⟨by omega,by simpa using hc,rfl⟩
  ·rw [if_neg e,if_neg e]
   obtain ⟨j,g1,g2,g3⟩:=puts (f:=f) (xs:=xs) (l:=l) (fs:=fs) (as:=as) (by simpa using h)
   refine ⟨j + 1,by simpa using g1,by simpa using g2,fun i c hc=>?_⟩
   cases i with
   | zero=>exact .inr ⟨by omega,by simpa using hc,rfl⟩
   | succ i=>
    rcases g3 i c (by simpa using hc) with ⟨z1,z2⟩ | ⟨z1,z2,z3⟩
    ·exact .inl ⟨by omega,z2⟩
    ·exact .inr ⟨by omega,by simpa using z2,by simpa using z3⟩
section
variable {X:Cx} {b:Bo} {e:Expr} {pos p fpos:Pos}
def setO (i:Nat) (f:Str) (C:Addr) (F:Sto->WL):WF:=fun E S ρ=>match ρ[i]? with
 | some (.val (.obj q))=>F S ρ fun xs=>∃ o,S q = some o/\o.C = C/\o.fs.length < 100/\E.nx (upS S q ⟨o.C,putO f (xs.map D.old) o.fs⟩) ρ
 | _=>False
theorem zgI (i:Nat) {x f:Str} {C:Addr} {F:Sto->WL} (hF:∀ S M G1,DF X (reB b S M G1) e (F S)) (hc:Cls X.K C) (hn:NoAttr X.K C f) (hN:X.N[i]? = some x:=by rfl) (hv:Vis X.env.scope x:=by first | exact Or.inl rfl | exact Or.inr (Or.inl rfl) | exact Or.inr (Or.inr rfl))
  (hd:(x == ("__debug__" : Str)) = false:=by decide) (hcd:(x == ("__classdict__" : Str)) = false:=by decide) (hs:swapsWith e (some (.Attribute (.Name x p) f fpos)) pos.line X.env = pure false:=by rfl):OS X b (.Assign [.Attribute (.Name x p) f fpos] e pos) (setO i f C F) where
 mono:=fun E E' S ρ l q=>by
  unfold setO at q ⊢
  split at q
  ·exact (hF S (fun _=>none) (fun _=>none)).mono ρ _ _ (fun xs ⟨o,h1,h2,h3,h4⟩=>⟨o,h1,h2,h3,l.nx _ _ h4⟩) q
  ·exact q.elim
 ps:=fun pins s σ H Ds I ⟨ρ,G,S,M,⟨G1,u,r⟩,q⟩=>zqR (zbe hN hv hd hcd) (hF S M G1).pe hs pins s σ H Ds I (by
  unfold setO at q
  split at q
  ·rename_i a0 ei
   refine ⟨ρ,G,r,(hF S M G1).mono ρ _ _ (fun xs ⟨o,h1,h2,h3,h4⟩ l vs H1 G' t hl gl hl0 hv=>?_) q⟩
   obtain ⟨v,ev,rv⟩:=r.slot i _ ei
   have rv':v = V.ref a0:=rv
   subst rv'
   have r1:=r.step t
   obtain ⟨ad,k⟩:=r.kn
   have k1:Kn b.K b.β G' S M ad:=k.mono r1.stp.gg r1.apart
   obtain ⟨dx,g1,g2⟩:=k1.obj a0 o h1
   have qm:M a0 ≠ none:=by rw [g1];simp
   have qb:=(u.mb a0 qm).2.2
   have lb:l ≠ b.β:=r.neβ hl0
   have hM:∀ c w,M c = some w->H c = some w:=fun c w hc=>r.stp.fr c w (u.mb c (by rw [hc];simp)).2.2 (ze7 hc)
   have hM1:∀ c w,M c = some w->H1 c = some w:=fun c w hc=>t.fr c w (u.mb c (by rw [hc];simp)).2.2 (hM c w hc)
   have ml:M l = none:=by
    cases z:M l with
    | none=>rfl
    | some w=>rw [hM l w z] at hl0;cases hl0
   have ql:a0 ≠ l:=fun z=>qm (z ▸ ml)
   obtain ⟨j,g⟩:=puts (f:=f) (xs:=xs.map D.old) (l:=l) g2
   have hw:Reps (nub b.K b.β G') G' (xs.map D.old) vs:=Reps.hand (c:=reB b S M G1) (c':=nub b.K b.β G') rfl rfl hv
   have k2:=k1.newL (dx:=dx) h1 ml gl lb g hw
   refine ⟨.ref a0,ev,a0,o.C,dx,_,rfl,hM1 _ _ g1,h2 ▸ hc,h2 ▸ hn,by unfold kvF;rw [YAd,YBd,g2,YBx];omega,?_⟩
   rw [zlD (xs:=xs.map D.old) g2]
   have dm:Dm M (upd (upd M l (.lst vs)) a0 (.ins o.C dx (kvF (putO f (xs.map D.old) o.fs) (putA f l o.fs (ad a0))))):=fun c hc=>by
    by_cases e:c = a0
    ·subst e;rw [zae];simp
    ·rw [upd_ne e]
     by_cases e':c = l
     ·subst e';rw [zae];simp
     ·rw [upd_ne e'];exact hc
   have ef:Eff b.β M (upd (upd M l (.lst vs)) a0 (.ins o.C dx (kvF (putO f (xs.map D.old) o.fs) (putA f l o.fs (ad a0))))) H G (upd H1 a0 (.ins o.C dx (kvF (putO f (xs.map D.old) o.fs) (putA f l o.fs (ad a0))))) G':=by
    refine ⟨t.gg,fun c w hc=>?_,fun c w n hc hw=>?_,fun c w hc=>?_,fun c hc=>?_,fun c hc=>k2.ap c hc,t.nw,?_,fun cc q1 r1 d1 hb=>?_,dm⟩
    ·rw [upd_ne (fun z=>by rw [z,r1.apart a0 qm] at hc;cases hc)];exact t.gh c w hc
    ·rw [upd_ne (fun z=>by rw [z] at hc;exact qm hc)];exact t.fr c w n hw
    ·by_cases e:c = a0
     ·subst e;rw [zae] at hc ⊢;exact hc
     ·rw [upd_ne e] at hc ⊢
      by_cases e':c = l
      ·subst e';rw [zae] at hc;cases hc;exact hl
      ·rw [upd_ne e'] at hc;exact hM1 c w hc
    ·by_cases e:c = a0
     ·subst e;exact .inl qm
     ·rw [upd_ne e] at hc
      by_cases e':c = l
      ·subst e';exact .inr hl0
      ·rw [upd_ne e'] at hc;exact .inl hc
    ·obtain ⟨cc,q1,r2,d1,ns,hb,z⟩:=t.bx.ex
     exact ⟨⟨cc,q1,r2,d1,ns,by rw [upd_ne (YAH qb)];exact hb,z⟩,t.bx.still⟩
    ·obtain ⟨q2,r2,d2,hb'⟩:=t.bc cc q1 r1 d1 hb
     exact ⟨q2,r2,d2,by rw [upd_ne (YAH qb)];exact hb'⟩
   exact h4 σ _ G' _ ⟨G',u.eff r ef,r.eff (fun c hc=>⟨(u.mb c hc).1,(u.mb c hc).2.2⟩) ef ⟨_,k2⟩⟩ t.gg dm
  ·exact q.elim)
end
section
variable {X:Cx} {b:Bo} {pos p:Pos} {y:Str->Sto->Prop}
@[reducible] def zpx (C:Addr) (F:FnF) (y:Str->Sto->Prop):WOE:=fun _ S Q=>∀ a,S a = none->upF F [.obj a] (upS S a ⟨C,[]⟩) (fun d S2=>d = .non/\Q (.obj a) S2) y
theorem Kn.new {K:PySem.W.Frag} {β:Addr} {G:Hp} {S:Sto} {M:Hp} {ad:Addr->List Addr} {a dx C:Addr} (k:Kn K β G S M ad) (hm:M a = none) (ga:G a = none) (ab:a ≠ β):Kn K β G (upS S a ⟨C,[]⟩) (upd M a (.ins C dx [])) (adS ad a []):=by
 have mp:∀ q u,S q = some u->M q ≠ none:=fun q u hq=>by obtain ⟨_,h1,_⟩:=k.obj q u hq;rw [h1];simp
 have nl:∀ {q:Addr} {i:Nat} {c:Addr},(adS ad a [] q)[i]? = some c->q ≠ a/\(ad q)[i]? = some c:=fun {q i c} h=>by
  by_cases e:q = a
  ·subst e;rw [zcZ] at h;simp at h
  ·rw [zf4 e] at h;exact ⟨e,h⟩
 refine ⟨fun q u hq=>?_,fun q u i c x hq hc hx=>?_,fun q r i n c hq hr hc hd=>?_,fun c u hc=>?_,fun c hc=>?_⟩
 ·by_cases e:q = a
  ·subst e;rw [zaZ] at hq;cases hq
   exact ⟨dx,by rw [zae,zcZ];rfl,by rw [zcZ];rfl⟩
  ·rw [zcS e] at hq
   obtain ⟨d,h1,h2⟩:=k.obj q u hq
   exact ⟨d,by rw [upd_ne e,zf4 e];exact h1,by rw [zf4 e];exact h2⟩
 ·obtain ⟨e,hc'⟩:=nl hc
  rw [zcS e] at hq
  obtain ⟨vs,h1,h2⟩:=k.lst q u i c x hq hc' hx
  exact ⟨vs,by rw [upd_ne (fun z=>by rw [z,hm] at h1;cases h1)];exact h1,h2⟩
 ·obtain ⟨e1,c1⟩:=nl hc
  obtain ⟨e2,c2⟩:=nl hd
  rw [zcS e1] at hq
  rw [zcS e2] at hr
  exact k.dis q r i n c hq hr c1 c2
 ·by_cases e:c = a
  ·subst e;rw [zae] at hc;cases hc;exact fun z=>z
  ·rw [upd_ne e] at hc;exact k.kin c u hc
 ·by_cases e:c = a
  ·subst e;exact ⟨ga,ab⟩
  ·rw [upd_ne e] at hc;exact k.ap c hc
theorem zq3 {x:Str} {C f:Addr} {fd:FuncData} {k:Nat} {ps:List Str} {F:FnF} (T:Mk X.K C f) (FO:FnOk X.prog X.w X.K X.mg X.base (CXN X.prog X.w) k f fd ps (spO X.K X.mg 1 F)) (hm:X.mg x = some (.ref C)) (hb:Binds X.K fd ps []) (hx:zbs (CXN X.prog X.w) X (XO b X.mg y)) (hg:Gl X x:=by rfl)
  (hdb:(x == ("__debug__" : Str)) = false:=by decide) (hK:b.K = X.K:=by rfl) (hr:Room (k + 1) X.A:=by decreasing_trivial):OE X b (.Call (.Name x p) [] [] pos) (zpx C F y) where
 mono:=fun ρ S Q Q' l q a ha=>zc2 F (fun d S2 z=>⟨z.1,l _ _ z.2⟩) (fun _ _ z=>z) (q a ha)
 pe:=zan (zn2 T FO hr hg hm hb .nil hx hdb) fun σ H Q ⟨ρ,G,S,M,⟨G1,u,r⟩,q⟩=>by
  intro a dx ha hdx ne
  obtain ⟨ad,kn⟩:=r.kn
  have k1:Kn b.K b.β G S M ad:=kn.mono r.stp.gg r.apart
  have hM:∀ c w,M c = some w->H c = some w:=fun c w hc=>r.stp.fr c w (u.mb c (by rw [hc];simp)).2.2 (ze7 hc)
  have free:∀ {c},H c = none->M c = none:=fun {c} h=>by
   cases z:M c with
   | none=>rfl
   | some w=>rw [hM c w z] at h;cases h
  have ma:=free ha
  have sa:S a = none:=by
   cases z:S a with
   | none=>rfl
   | some o=>obtain ⟨_,h1,_⟩:=k1.obj a o z;rw [ma] at h1;cases h1
  have ab:a ≠ b.β:=r.neβ ha
  have db:dx ≠ b.β:=r.neβ hdx
  have k2:=k1.new (a:=a) (dx:=dx) (C:=C) ma (zak r.gh ha) ab
  have ha':upd H dx (.own a) a = none:=by rw [upd_ne (YAH ne)];exact ha
  have dm:Dm M (upd M a (.ins C dx [])):=fun c hc=>by
   by_cases e:c = a
   ·subst e;rw [zae];simp
   ·rw [upd_ne e];exact hc
  have keep:∀ c w,H c = some w->upd (upd H dx (.own a)) a (.ins C dx []) c = some w:=fun c w hc=>by
   rw [upd_ne (fun z=>by rw [z,ha] at hc;cases hc),upd_ne (fun z=>by rw [z,hdx] at hc;cases hc)];exact hc
  have ef:Eff b.β M (upd M a (.ins C dx [])) H G (upd (upd H dx (.own a)) a (.ins C dx [])) G:=by
   refine ⟨Same.refl _,fun c w hc=>keep c w (r.gh c w hc),fun c w _ _ hc=>keep c w hc,fun c w hc=>?_,fun c hc=>?_,fun c hc=>k2.ap c hc,fun c hc=>.inl hc,(r.bx.new hdx).new ha',fun cc q1 r1 d1 hb=>⟨q1,r1,d1,keep _ _ hb⟩,dm⟩
   ·by_cases e:c = a
    ·subst e;rw [zae] at hc ⊢;exact hc
    ·rw [upd_ne e] at hc;exact keep c w (hM c w hc)
   ·by_cases e:c = a
    ·subst e;exact .inr ha
    ·rw [upd_ne e] at hc;exact .inl hc
  have rs:RepsF b (upS S a ⟨C,[]⟩) (upd M a (.ins C dx [])) ρ σ (upd (upd H dx (.own a)) a (.ins C dx [])) G [.obj a] [.ref a]:=
   ⟨G,u.eff r ef,r.eff (fun c hc=>⟨(u.mb c hc).1,(u.mb c hc).2.2⟩) ef ⟨_,k2⟩,.ref a,[],rfl,rfl,rfl⟩
  refine RelF.give hK rs rfl (zc2 F (fun d S2 z v H2 G2 M2 r2 s2 m2=>?_) (fun nm S2 z C2 H2 G2 M2 hc r2 s2 m2=>⟨nm,C2,S2,M2,ρ,σ,G2,rfl,z,hc,r2⟩) (q a sa))
  obtain ⟨z1,z2⟩:=z
  subst z1
  obtain ⟨Ga,oa,ra,ea⟩:=r2
  have ev:v = V.non:=ea
  exact ⟨ev,z2 (.ref a) H2 G2 M2 ⟨Ga,oa,ra,rfl⟩ s2 (dm.trans m2)⟩
end
section
variable {X:Cx} {b:Bo} {pos p fpos apos cpos:Pos}
end
section
variable {X:Cx} {b:Bo} {e:Expr} {es:List Expr} {pos p npos:Pos}
@[reducible] def zpN (n:Nat) (F:Fn) (R:WOA):WOE:=fun ρ S Q=>R ρ S fun ds S1=>ds.length = n/\up F ds fun d=>Q d S1
theorem zoY {x:Str} {k n:Nat} {ps:List Str} {F:Fn} {R:WOA} (C:Cal X.prog X.w X.K X.mg X.base x k ps (spD X.K n F)) (hR:OA X b (e :: es) R) (hg:Gl X x:=by rfl)
  (hdb:(x == ("__debug__" : Str)) = false:=by decide) (he:starEach (e :: es) X.env = (false,eval e X.env) :: starEach es X.env:=by rfl) (hpl:(backTo pos (starEach es X.env)).any (·.1) = false:=by rfl) (hK:b.K = X.K:=by rfl) (hr:Room k X.A:=by decreasing_trivial) :
  OE X b (.Call (.Name x p) (e :: es) [] pos) (zpN n F R) where
 mono:=fun ρ S Q Q' l q=>hR.mono ρ S _ _ (fun ds S1 z=>⟨z.1,zbt F ds _ _ (fun d w=>l d S1 w) z.2⟩) q
 pe:=by
  obtain ⟨f,fd,FO,hm,hk,hb⟩:=C.ex
  refine zan (zda FO hr hg hm hk hb .nil zjf hR.pa hdb he hpl) fun σ H Q ⟨ρ,G,S,M,r,q⟩=>⟨ρ,G,S,M,r,hR.mono ρ S _ _ (fun ds S1 z vs H' G' M' r' s' m'=>?_) q⟩
  show spD X.K n F (vs ++ []) H' Q E0
  rw [YAS]
  obtain ⟨Ga,oa,ra,ea⟩:=r'
  exact ⟨b.β,G',ds,ra.gh,ra.bx,Reps.back (c':=reB b S1 M' Ga) (c:=⟨X.K,b.β,fun _=>none,G',True⟩) hK rfl (fun _ _=>rfl) ea,by rw [<- ea.length];exact z.1,
   zbt F ds _ _ (fun d w v H2 G2 t2 e2=>w v H2 G2 M' ⟨Ga,oa,ra.step t2,Rep.back (c':=⟨X.K,b.β,H',G',True⟩) (c:=reB b S1 M' Ga) hK.symm rfl (fun a h=>ra.new0 h) e2⟩ (s'.trans t2.gg) m') z.2⟩
@[reducible] def ifNO (A:WOE) (U V:WF):WF:=fun E S ρ=>A ρ S fun d S1=>truD d fun t=>if t = true then V E S1 ρ else U E S1 ρ
theorem zoF {A:WOE} {U V:WF} {x y:List Stmt} (hA:OE X b e A) (hU:OSs X b x U) (hV:OSs X b y V) (he:∀ whole,isTrue e X.env whole = (do let v <- whole;standAt e.pos;holding [v] (truthy v)):=by intro _;rfl) (hK:b.K = X.K:=by rfl):OS X b (.If (.UnaryOp .Not e npos) x y pos) (ifNO A U V) where
 mono:=fun E E' S ρ l q=>hA.mono ρ S _ _ (fun d S1 z=>zhW d (fun t z=>by
  cases t
  ·exact hU.mono _ _ S1 ρ l z
  ·exact hV.mono _ _ S1 ρ l z) z) q
 ps:=zbp (zkw (zoO (zjD hA.pe he)) hU.pss hV.pss) fun D σ H ⟨ρ,G,S,M,r,q⟩=>⟨ρ,G,S,M,r,hA.mono ρ S _ _ (fun d S1 z v H' G' M' r' s' m'=>by
  obtain ⟨Ga,oa,ra,ea⟩:=r'
  unfold truD at z
  split at z
  ·rename_i k hk
   refine ⟨k,hK ▸ zm2 ra.gh ea hk,?_⟩
   cases k
   ·exact ⟨ρ,G',S1,M',⟨Ga,oa,ra⟩,hU.mono _ _ S1 ρ (zdZ s' m') z⟩
   ·exact ⟨ρ,G',S1,M',⟨Ga,oa,ra⟩,hV.mono _ _ S1 ρ (zdZ s' m') z⟩
  ·exact z.elim) q⟩
end
section
variable {X:Cx} {b:Bo} {c:Bk} {e:Expr} {es:List Expr} {pos cpos p np:Pos}
@[reducible] def zpa (n:Nat) (F:FnX) (y:Str->Sto->Prop) (R:WOA):WOE:=fun ρ S Q=>R ρ S fun ds S1=>ds.length = n/\upX F ds (fun d=>Q d S1) fun nm=>y nm S1
theorem zp2 {x:Str} {k n:Nat} {ps:List Str} {F:FnX} {R:WOA} {y:Str->Sto->Prop} (C:CalX X.prog X.w X.K X.mg X.base x k ps (spDX X.K X.mg n F)) (hR:OA X b (e :: es) R) (hx:zbs (CXN X.prog X.w) X (XO b X.mg y)) (hg:Gl X x:=by rfl)
  (hdb:(x == ("__debug__" : Str)) = false:=by decide) (he:starEach (e :: es) X.env = (false,eval e X.env) :: starEach es X.env:=by rfl) (hpl:(backTo pos (starEach es X.env)).any (·.1) = false:=by rfl) (hK:b.K = X.K:=by rfl) (hr:Room k X.A:=by decreasing_trivial) :
  OE X b (.Call (.Name x p) (e :: es) [] pos) (zpa n F y R) where
 mono:=fun ρ S Q Q' l q=>hR.mono ρ S _ _ (fun ds S1 z=>⟨z.1,zds F (fun d w=>l d S1 w) (fun _ w=>w) z.2⟩) q
 pe:=by
  obtain ⟨f,fd,FO,hm,hk,hb⟩:=C.ex
  refine zan (zda FO hr hg hm hk hb .nil hx hR.pa hdb he hpl) fun σ H Q ⟨ρ,G,S,M,r,q⟩=>⟨ρ,G,S,M,r,hR.mono ρ S _ _ (fun ds S1 z vs H' G' M' r' s' m'=>?_) q⟩
  show spDX X.K X.mg n F (vs ++ []) H' Q _
  rw [YAS]
  obtain ⟨Ga,oa,ra,ea⟩:=r'
  exact ⟨b.β,G',ds,ra.gh,ra.bx,Reps.back (c':=reB b S1 M' Ga) (c:=⟨X.K,b.β,fun _=>none,G',True⟩) hK rfl (fun _ _=>rfl) ea,by rw [<- ea.length];exact z.1,
   zds F (fun d w v H2 G2 t2 e2=>w v H2 G2 M' ⟨Ga,oa,ra.step t2,Rep.back (c':=⟨X.K,b.β,H',G',True⟩) (c:=reB b S1 M' Ga) hK.symm rfl (fun a h=>ra.new0 h) e2⟩ (s'.trans t2.gg) m') (fun nm w C H2 G2 hc t2=>⟨nm,C,S1,M',ρ,σ,G2,rfl,w,hc,Ga,oa,ra.step t2⟩) z.2⟩
def XD (c:Bk) (mg:Str->Option Value) (y:Str->Prop):XK:=fun v _ H'=>∃ nm C G',v = .ref C/\y nm/\mg nm = some (.ref C)/\Stp c.β c.H0 c.G0 H' G'
@[reducible] def zgh (n:Nat) (F:FnX) (y:Str->Prop) (R:WL):WE:=fun ρ Q=>R ρ fun ds=>ds.length = n/\upX F ds Q y
theorem zjd {x:Str} {k n:Nat} {ps:List Str} {F:FnX} {R:WL} {y:Str->Prop} (C:CalX X.prog X.w X.K X.mg X.base x k ps (spDX X.K X.mg n F)) (hR:DA X c (e :: es) R) (hx:zbs (CXN X.prog X.w) X (XD c X.mg y)) (hg:Gl X x:=by rfl)
  (hdb:(x == ("__debug__" : Str)) = false:=by decide) (he:starEach (e :: es) X.env = (false,eval e X.env) :: starEach es X.env:=by rfl) (hpl:(backTo pos (starEach es X.env)).any (·.1) = false:=by rfl) (hK:c.K = X.K:=by rfl) (hr:Room k X.A:=by decreasing_trivial) :
  DE X c (.Call (.Name x p) (e :: es) [] pos) (zgh n F y R) where
 mono:=fun ρ Q Q' l q=>hR.mono ρ _ _ (fun ds z=>⟨z.1,zds F l (fun _ w=>w) z.2⟩) q
 pe:=by
  obtain ⟨f,fd,FO,hm,hk,hb⟩:=C.ex
  refine zan (zda FO hr hg hm hk hb .nil hx hR.pa hdb he hpl) fun σ H Q ⟨ρ,G,r,q⟩=>⟨ρ,G,r,hR.mono ρ _ _ (fun ds z vs H' G' t ea=>?_) q⟩
  show spDX X.K X.mg n F (vs ++ []) H' Q _
  rw [YAS]
  have ra:=r.step t
  exact ⟨c.β,G',ds,t.gh,t.bx,Reps.back (c':=c) (c:=⟨X.K,c.β,fun _=>none,G',True⟩) hK rfl (fun _ _=>rfl) ea,by rw [<- ea.length];exact z.1,
   zds F (fun d w v H2 G2 t2 e2=>w v H2 G2 (t.trans t2) (Rep.back (c':=⟨X.K,c.β,H',G',True⟩) (c:=c) hK.symm rfl (fun a h=>ra.new0 h) e2)) (fun nm w C H2 G2 hc t2=>⟨nm,C,G2,rfl,w,hc,ra.stp.trans t2⟩) z.2⟩
end
end Fd
namespace L2
open PySem PySem.Spec PyProof.Rows PySem.W
section
variable {X:Cx} {CX:CXT} {E:XK} {x:Str} {i:Nat} {p pos:Pos} {e:Expr} {es:List Expr} {t:TA}
def zqL (X:Cx) (CX:CXT) (i:Nat) (E:XK) (t:TA):TE:=fun σ H Q=>∃ f fd k ps sp,σ[i]? = some (some (V.ref f))/\FnOk X.prog X.w X.K X.mg X.base CX k f fd ps sp/\Room k X.A/\PySem.W.keepIn X.K (.ref f) = true/\Binds X.K fd ps []/\t σ H fun vs H1=>sp (vs ++ []) H1 Q E
theorem znw (hN:X.N[i]? = some x) (hv:Vis X.env.scope x) (hx:zbs CX X E) (ha:PA X (e :: es) t) (hd:(x == ("__debug__" : Str)) = false:=by decide) (hcd:(x == ("__classdict__" : Str)) = false:=by decide)
  (he:starEach (e :: es) X.env = (false,eval e X.env) :: starEach es X.env:=by rfl) (hpl:(backTo pos (starEach es X.env)).any (·.1) = false:=by rfl):PE X (.Call (.Name x p) (e :: es) [] pos) (zqL X CX i E t):=by
 intro pins s σ H Q I ⟨f,fd,k,ps,sp,ev,F,hr,hk,hb,h⟩
 obtain ⟨m,hn,hl⟩:=id I.loc
 obtain ⟨u,r,l⟩:=hl i x _ hN ev hv
 obtain rfl:u = Value.ref f:=r
 have go:wpAny (model X.prog X.w) X.A (callWith pos (.ref f) [] (backTo pos (starEach (e :: es) X.env)) (backToKw pos (keywordEach [] X.env))) (EP X pins σ Q) X.xe s:=
  YBB (h₀:=X.base) I.ok.mod.kin hk (thn (ha pos pins s σ H _ I h) fun us s1 ⟨vs,H1,I1,r,q⟩=>⟨I1.kIn,zhO F hr hb .nil hx I1 r q⟩) he hpl
 rcases l with ⟨hk,hm⟩ | ⟨hk,c,hc,hcell⟩
 ·exact YAX (YCv (wpAny_loadName_local I.ok.kind hk hn hm go) hd)
 ·rcases hk with hk | hk
  ·exact YAX (YCv (wpAny_loadName_cell I.ok.kind hk hc hcell go) hd)
  ·exact YAX (YCv (wpAny_loadName_free I.ok.kind hk hc hcell go hcd) hd)
end
end L2
namespace Fd
open PySem L2
structure Tab (X:Cx) (n:Nat) (T:List (Addr × FnX)):Prop where
 ex:∀ q ∈ T,∃ fd k ps,FnOk X.prog X.w X.K X.mg X.base (CXN X.prog X.w) k q.1 fd ps (spDX X.K X.mg n q.2)/\Room k X.A/\PySem.W.keepIn X.K (.ref q.1) = true/\Binds X.K fd ps []
section
variable {X:Cx} {c:Bk} {e:Expr} {es:List Expr} {pos p:Pos} {y:Str->Prop}
def zki (i n:Nat) (T:List (Addr × FnX)) (y:Str->Prop) (R:WL):WE:=fun ρ Q=>match ρ[i]? with
 | some (.val (.obj f))=>∃ F,(f,F) ∈ T/\R ρ fun ds=>ds.length = n/\upX F ds Q y
 | _=>False
theorem zp1 {x:Str} {i n:Nat} {T:List (Addr × FnX)} {R:WL} (hT:Tab X n T) (hR:DA X c (e :: es) R) (hx:zbs (CXN X.prog X.w) X (XD c X.mg y)) (hN:X.N[i]? = some x:=by rfl) (hv:Vis X.env.scope x:=by first | exact Or.inl rfl | exact Or.inr (Or.inl rfl) | exact Or.inr (Or.inr rfl))
  (hd:(x == ("__debug__" : Str)) = false:=by decide) (hcd:(x == ("__classdict__" : Str)) = false:=by decide) (he:starEach (e :: es) X.env = (false,eval e X.env) :: starEach es X.env:=by rfl) (hpl:(backTo pos (starEach es X.env)).any (·.1) = false:=by rfl) (hK:c.K = X.K:=by rfl) :
  DE X c (.Call (.Name x p) (e :: es) [] pos) (zki i n T y R) where
 mono:=fun ρ Q Q' l q=>by
  unfold zki at q ⊢
  split at q
  ·obtain ⟨F,h1,q⟩:=q
   exact ⟨F,h1,hR.mono ρ _ _ (fun ds z=>⟨z.1,zds F l (fun _ w=>w) z.2⟩) q⟩
  ·exact q.elim
 pe:=zan (znw hN hv hx hR.pa hd hcd he hpl) fun σ H Q ⟨ρ,G,r,q⟩=>by
  unfold zki at q
  split at q
  ·rename_i f ei
   obtain ⟨F,h1,q⟩:=q
   obtain ⟨fd,k,ps,FO,hr,hk,hb⟩:=hT.ex _ h1
   obtain ⟨v,ev,rv⟩:=r.slot i _ ei
   have rv':v = V.ref f:=rv
   subst rv'
   refine ⟨f,fd,k,ps,_,ev,FO,hr,hk,hb,ρ,G,r,hR.mono ρ _ _ (fun ds z vs H' G' t ea=>?_) q⟩
   show spDX X.K X.mg n F (vs ++ []) H' Q _
   rw [YAS]
   have ra:=r.step t
   exact ⟨c.β,G',ds,t.gh,t.bx,Reps.back (c':=c) (c:=⟨X.K,c.β,fun _=>none,G',True⟩) hK rfl (fun _ _=>rfl) ea,by rw [<- ea.length];exact z.1,
    zds F (fun d w v H2 G2 t2 e2=>w v H2 G2 (t.trans t2) (Rep.back (c':=⟨X.K,c.β,H',G',True⟩) (c:=c) hK.symm rfl (fun a h=>ra.new0 h) e2)) (fun nm w C H2 G2 hc t2=>⟨nm,C,G2,rfl,w,hc,ra.stp.trans t2⟩) z.2⟩
  ·exact q.elim
end
section
variable {X:Cx} {b:Bo} {es:List Expr} {pos:Pos}
end
end Fd
namespace L2
open PySem PySem.Spec
section
variable {prog:Program} {w:World} {A:Around} {E:Value->Shared->Prop} {s:Shared}
end
end L2
namespace L2
open PySem PySem.Spec PyProof.Rows
section
variable {X:Cx} {pins:List (Addr × Obj)} {σ:St} {H:Hp} {s:Shared}
end
def EnAt (d:Addr) (es:Array DictEntry) (ep:Nat) (h:Heap):Prop:=∃ o,h.get? d = some o/\o.data = .dict es ep
theorem EnAt.keep {d:Addr} {es:Array DictEntry} {ep:Nat} {h h':Heap} (x:EnAt d es ep h) (k:∀ o,h.get? d = some o->h'.get? d = some o):EnAt d es ep h':=let ⟨o,e,z⟩:=x;⟨o,k _ e,z⟩
section
variable {prog:Program} {w:World} {A:Around} {E:Value->Shared->Prop} {s:Shared} {it d v:Addr} {i ep:Nat} {es:Array DictEntry}
end
section
variable {prog:Program} {w:World} {A:Around} {E:Value->Shared->Prop} {s:Shared} {it d v:Addr} {i ep:Nat} {es:Array DictEntry}
theorem zmq:Builtin.Dict_items.ownsTuple "dict_keyiterator" = false:=by decide
theorem zjY {Q:Option Value->Shared->Prop} (hit:s.heap.IsKeyIter it d i es.size ep) (hm:EnAt d es ep s.heap) (hi:i < es.size)
  (q:∀ h',h'.IsKeyIter it d (i + 1) es.size ep->Heap.SameBut it s.heap h'->Q (some es[i].key) { s with heap:=h' }):wpAny (model prog w) A (pyNext (.ref it)) Q E s:=by
 obtain ⟨o,ho,hc,hd⟩:=id hit
 obtain ⟨od,h1,h2⟩:=hm
 unfold pyNext
 refine YAa (YBz (YAA (name:=Str.ofString "__next__") hit.typeIs YA2 (YAU YA2 hit.typeIs F.entry_dict_keyiterator_next ?_ (F.args_dict_keyiterator_next_1 _))))
 refine YAa (YAc (YAa (YAa (YAa (YBf hit.typeIs (YAc (YAa (wpAny_fieldsOf ho hd ?_))))))))
 simp only [zmq,YBt,YB2]
 show wpAny _ _ (if (Value.ref d == Value.none) = true then _ else _) _ _ s
 refine zfS YA4 (YAa (YAc (YAa (YCE h1 h2 ?_))))
 refine zfS (by simp) (YAa (YAc (YAa (YCS h1 h2 ?_))))
 refine zfS (by simp) (YAc ?_)
 simp only [show ¬ ((i:Int) < 0) from by omega,YB2,YBI,YBb hi]
 refine YAa (YAa (YBf hit.typeIs (YAc (YAa (wpAny_isOneOf_keyiter hit.typeIs ?_)))))
 show wpAny _ _ (setField (.ref it) 1 (rawInt ((i:Int) + 1)) >>= _) _ _ s
 refine YAa (YBv ho hd (by simp) ?_)
 have hit':(s.heap.update it (Obj.mapFields (·.setIfInBounds 1 (rawInt ((i:Int) + 1))))).IsKeyIter it d (i + 1) es.size ep:=
  ⟨_,YAK _ ho (YBE (YBu hd _)),(YB0 ..).trans hc,by rw [YBu hd];simp [rawInt]⟩
 generalize s.heap.update it (Obj.mapFields (·.setIfInBounds 1 (rawInt ((i:Int) + 1)))) = h3,(YBM s.heap it (Obj.mapFields (·.setIfInBounds 1 (rawInt ((i:Int) + 1)))):Heap.SameBut it s.heap _) = sb at hit' ⊢
 refine YAa (YAN (YAa (wpAny_isOneOf_keyiter (s:={ s with heap:=h3 }) hit'.typeIs ?_)))
 show wpAny _ _ (pure es[i].key) _ _ _
 exact YAc (YAc ⟨_,rfl,YAc (q _ hit' sb)⟩)
theorem zlj {Q:Option Value->Shared->Prop} (hh:A.handled = none) (hit:s.heap.IsKeyIter it d es.size es.size ep) (hm:EnAt d es ep s.heap)
  (q:∀ h',Heap.ExtBut it s.heap h'->Q none { s with heap:=h' }):wpAny (model prog w) A (pyNext (.ref it)) Q E s:=by
 obtain ⟨o,ho,hc,hd⟩:=id hit
 obtain ⟨od,h1,h2⟩:=hm
 unfold pyNext
 refine YAa (YBz (YAA (name:=Str.ofString "__next__") hit.typeIs YA2 (YAU YA2 hit.typeIs F.entry_dict_keyiterator_next ?_ (F.args_dict_keyiterator_next_1 _))))
 refine YAa (YAc (YAa (YAa (YAa (YBf hit.typeIs (YAc (YAa (wpAny_fieldsOf ho hd ?_))))))))
 simp only [zmq,YBt,YB2]
 show wpAny _ _ (if (Value.ref d == Value.none) = true then _ else _) _ _ s
 refine zfS YA4 (YAa (YAc (YAa (YCE h1 h2 ?_))))
 refine zfS (by simp) (YAa (YAc (YAa (YCS h1 h2 ?_))))
 refine zfS (by simp) (YAc ?_)
 simp only [show ¬ ((es.size:Int) < 0) from by omega,YB2,YBI,Array.getElem?_eq_none (YAk _)]
 refine YAa (YAa (YBf hit.typeIs (YAc ?_)))
 show wpAny _ _ (setField (.ref it) 0 .none >>= _) _ _ s
 refine YAa (YBv ho hd (by simp) ?_)
 show wpAny _ _ (newExc (.type "StopIteration") [] >>= _) _ _ _
 refine YAa ?_
 simp only [newExc,newTuple]
 refine YAa (YAD ?_ (by size_fits))
 refine YAa (m:=firstArgMember _ _) (wpAny_of_eq (a:=Value.none) (by first | rfl | (simp only [firstArgMember];rfl)) ?_)
 refine YAD ?_ (by size_fits)
 simp only [raiseNew]
 refine YAa (wpAny_handled ?_)
 rw [show A.in1.handled = none from hh]
 refine YAa (YAc (wpAny_throw ?_))
 refine YAa (YBL (T := "StopIteration") (b:=true) ⟨_,YAj _ rfl,rfl⟩ YCt ?_)
 exact YAc (q _ (((YBM ..).extBut.push _).push _))
theorem zmV (hh:A.handled = none) (I d:Addr) (hne:d ≠ I) (es:Array DictEntry) (ep:Nat):Walks prog w A I [I,d] [I] es.size (fun i v=>(es.map (·.key))[i]? = some v) (fun i h=>h.IsKeyIter I d i es.size ep/\EnAt d es ep h) where
 sub:=fun b hb=>by simp at hb;simp [hb]
 frame:=fun _ _ _ st hk=>⟨st.1.at fun o e=>hk I (by simp) o e,st.2.keep fun o e=>hk d (by simp) o e⟩
 item:=fun i s Q E hi st q=>zjY st.1 st.2 hi fun h' a b=>q _ h' s.toks (by simp [hi]) ⟨a,st.2.keep fun o e=>b.extBut d o hne e⟩ fun b' o hb e=>b.extBut b' o (fun h=>hb (by simp [h])) e
 done:=fun s Q E st q=>zlj hh st.1 st.2 fun h' a=>q h' s.toks fun b o hb e=>a b o (fun h=>hb (by simp [h])) e
 self:=fun _ _ _ _ st q=>wpAny_pyIter_keyiter st.1 q
theorem zjM {Q:Value->Shared->Prop} (hd:(d == sysModules) = false) (hT:s.TypeIs (.ref d) "dict") (hm:EnAt d es ep s.heap)
  (q:Q (.ref s.heap.objs.size) { s with heap:=s.heap.push { cls:=.type "dict_keyiterator",data:=.fields #[.ref d,.int 0 0,.int es.size 0,.int ep 0] } }):wpAny (model prog w) A (pyIter (.ref d)) Q E s:=by
 obtain ⟨o,e1,e2⟩:=hm
 refine wpAny_pyIter_slot hT F.slot_dict_iter (YAU F.slot_dict_iter hT F.entry_dict_iter ?_ (F.args_dict_iter_1 _))
 unfold Builtin.«dict.__iter__»
 refine YAa ?_
 unfold Builtin.Dict.dictSlotNone
 refine YAa (wpAny_notOrdered_dict hT ?_)
 show wpAny _ _ (pure (Value.ref d)) _ _ s
 refine YAc ?_
 show wpAny _ _ (Builtin.Dict.showsAll d >>= _) _ _ s
 unfold Builtin.Dict.showsAll
 rw [if_neg (by rw [hd];exact YA4)]
 refine YAa (YAc (YAa (YCE e1 e2 (YAa (YCS e1 e2 ?_)))))
 refine YAa (YAD (YAc ⟨_,rfl,"dict_keyiterator",_,⟨_,YAj _ rfl,rfl⟩,YA2.lookup,?_⟩))
 simpa [rawInt] using q
theorem zmK {Q:Value->Shared->Prop} (hh:A.handled = none) (hd:(d == sysModules) = false) (hT:∀ h,(∀ o,s.heap.get? d = some o->h.get? d = some o)->Shared.TypeIs { s with heap:=h } (.ref d) "dict") (hm:EnAt d es ep s.heap) (hz:es.size <= 1000)
  (q:∀ h' tk c,(∀ b o,s.heap.get? b = some o->h'.get? b = some o)->h'.get? s.heap.objs.size = some { cls:=.type "list",dict:=none,data:=.seq (es.map (·.key)) c,slots:=#[] }->Q (.ref s.heap.objs.size) { s with heap:=h',toks:=tk }) :
  wpAny (model prog w) A (call (.type "list") [.ref d]) Q E s:=by
 refine callType_codes (Q₁:=fun obj s₁=>obj = .ref s.heap.objs.size/\s₁ = { s with heap:=s.heap.push { cls:=.type "list",data:=.seq #[] } }) F.called_list (F.typeCall_list_1 _) F.entry_list_init (code_list_new _ ⟨rfl,rfl⟩) fun obj s₁ h₁=>?_
 obtain ⟨rfl,rfl⟩:=h₁
 have hS:(s.heap.push { cls:=.type "list",data:=.seq #[] }).get? s.heap.objs.size = some { cls:=.type "list",data:=.seq #[] }:=YAj _ rfl
 have dlt:d < s.heap.objs.size:=let ⟨o,e,_⟩:=hm;YAg e
 have k1:∀ b o,s.heap.get? b = some o->(s.heap.push { cls:=.type "list",data:=.seq #[] }).get? b = some o:=fun b o e=>YAb _ e
 have z1:(s.heap.push { cls:=.type "list",data:=.seq #[] }).objs.size = s.heap.objs.size + 1:=YBh ..
 refine ⟨⟨_,hS,rfl⟩,F.args_list_init_2 _ _,?_⟩
 generalize s.heap.push { cls:=.type "list",data:=.seq #[] } = h1 at *
 show wpAny _ _ (do let old <- Builtin.List.listItems (.ref s.heap.objs.size);Builtin.List.listUpdate (.ref s.heap.objs.size) (fun _=>#[]);letGo old.toList.reverse;Builtin.List.listExtendWith (.ref s.heap.objs.size) (.ref d) .none) _ _ { s with heap:=h1 }
 refine YAa ?_
 unfold Builtin.List.listItems
 refine YAa (YBa hS rfl (YAc ?_))
 show wpAny _ _ (updateSeq s.heap.objs.size (fun _=>#[]) >>= fun _=>letGo (#[]:Array Value).toList.reverse >>= fun _=>Builtin.List.listExtendWith (.ref s.heap.objs.size) (.ref d) .none) _ _ { s with heap:=h1 }
 refine YAa (YCT (s:={ s with heap:=h1 }) hS rfl ?_)
 have hS2:=YAK (Obj.mapSeq (fun _=>(#[]:Array Value))) hS rfl
 have o2:∀ b o,b ≠ s.heap.objs.size->h1.get? b = some o->(h1.update s.heap.objs.size (Obj.mapSeq (fun _=>(#[]:Array Value)))).get? b = some o:=fun b o hb e=>(YAC _ _ (YAH hb)).trans e
 have z2:(h1.update s.heap.objs.size (Obj.mapSeq (fun _=>(#[]:Array Value)))).objs.size = s.heap.objs.size + 1:=by rw [Heap.size_update];exact z1
 refine YAa (YCZ ?_)
 generalize h1.update s.heap.objs.size (Obj.mapSeq (fun _=>(#[]:Array Value))) = h2 at *
 have low:∀ b o,s.heap.get? b = some o->h2.get? b = some o:=fun b o e=>o2 b o (YAp (YAg e)) (k1 b o e)
 have hm2:EnAt d es ep h2:=hm.keep fun o e=>low _ _ e
 have ty:Shared.TypeIs { s with heap:=h2 } (.ref d) "dict" := hT h2 fun o e=>low _ _ e
 unfold Builtin.List.listExtendWith
 refine YAa (YCq ty ?_)
 simp only [show Builtin.List.listSameRef (.ref s.heap.objs.size) (.ref d) = false by simp [Builtin.List.listSameRef,YBr dlt],show (Value.type "dict" == Value.type "list") = false by decide,show (Value.type "dict" == Value.type "tuple") = false by decide,Bool.or_false,YBt,YB2]
 refine YAa (zjM (s:={ s with heap:=h2 }) hd ty hm2 ?_)
 rw [show ({ s with heap:=h2 }:Shared).heap.objs.size = s.heap.objs.size + 1 from z2]
 have hI:(h2.push { cls:=.type "dict_keyiterator",data:=.fields #[.ref d,.int 0 0,.int es.size 0,.int ep 0] }).IsKeyIter (s.heap.objs.size + 1) d 0 es.size ep:=⟨_,by rw [<- z2];exact YAj _ rfl,rfl,rfl⟩
 have k3:∀ b o,h2.get? b = some o->(h2.push { cls:=.type "dict_keyiterator",data:=.fields #[.ref d,.int 0 0,.int es.size 0,.int ep 0] }).get? b = some o:=fun b o e=>YAb _ e
 generalize h2.push { cls:=.type "dict_keyiterator",data:=.fields #[.ref d,.int 0 0,.int es.size 0,.int ep 0] } = h3 at *
 have ty3:Shared.TypeIs { s with heap:=h3 } (.ref d) "dict" := hT h3 fun o e=>k3 _ _ (low _ _ e)
 refine YAa (YAN ?_)
 unfold Builtin.List.listLengthHint
 refine YAa (YCP ty3 PySem.F.slot_dict_len.lookup ?_)
 dsimp only
 rw [zg0]
 dsimp only
 refine YAa (YBL ty3 isSubtype_dict_dict ?_)
 refine zfS (by decide) (zo7 (by decide +kernel) (YAa (YCq ty3 (YAc ?_))))
 refine zo7 (by decide +kernel) (YAa (YCi (YAa ?_)))
 show wpAny _ _ (updateSeq s.heap.objs.size (·.push .none) >>= fun _=>updateSeq s.heap.objs.size (·.pop)) _ _ _
 have hS3:=k3 _ _ hS2
 refine YAa (YCT (s:={ s with heap:=h3 }) hS3 rfl ?_)
 have hS4:=YAK (Obj.mapSeq (·.push Value.none)) hS3 rfl
 refine YCT (hz:=by seq_fits) hS4 rfl ?_
 have hS5:=YAK (Obj.mapSeq (·.pop)) hS4 rfl
 have o4:∀ b o,b ≠ s.heap.objs.size->h3.get? b = some o->((h3.update s.heap.objs.size (Obj.mapSeq (·.push Value.none))).update s.heap.objs.size (Obj.mapSeq (·.pop))).get? b = some o:=fun b o hb e=>
  (YAC _ _ (YAH hb)).trans ((YAC _ _ (YAH hb)).trans e)
 have nS:s.heap.objs.size ∉ [s.heap.objs.size + 1,d]:=by
  simp only [YAr,YAw,YB3,not_or]
  exact ⟨YAp (YB9 _),YBr dlt⟩
 have W:=(zmV (prog:=prog) (w:=w) (A:=A.in1.in1) hh (s.heap.objs.size + 1) d (YAp (YB1 dlt)) es ep).toS
 refine YAc ⟨plainId_quiet PySem.F.plain_extend_loop _,codeAny_extend_loopS W (by rw [YAO];omega) _ nS _ es.size 0 _ _ _ rfl (YBy _) ⟨hI.at fun o e=>o4 _ _ (YBr (YB9 _)) e,(hm2.keep fun o e=>k3 _ _ e).keep fun o e=>o4 _ _ (YAp dlt) e⟩ hS5 (ItemsOf.nil _) fun s' acc' c' hm' hS' hacc=>?_⟩
 have ev:acc' = es.map (·.key):=by
  apply Array.ext
  ·rw [hacc.1,Array.size_map]
  ·intro j j1 j2
   have:(es.map (·.key))[j]? = some acc'[j]:=hacc.2 j acc'[j] (by simp [j1])
   rw [YBb j2] at this
   exact (Option.some.inj this).symm
 subst ev
 obtain ⟨hh',g',d',tk',o'⟩:=s'
 have eg:g' = s.gens:=hm'.gens
 have ed:d' = s.drawn:=hm'.drawn
 have eo:o' = s.os:=hm'.os
 subst eg ed eo
 exact ⟨rfl,q hh' tk' c' (fun b o e=>hm'.heap b o (by
  have hb1:=YAg e
  simp only [YAr,YAw,YB3,not_or]
  exact ⟨YAp hb1,YAp (YB1 hb1)⟩) (o4 b o (YAp (YAg e)) (k3 b o (low b o e)))) hS'⟩
end
section
variable {X:Cx} {e:Expr} {st:Stmt}
theorem zsv {t:TE} (h:PE X e t):PE X e (fun σ H Q=>t σ H fun v H1=>∃ a kvs,v = .ref a/\H1 a = some (.dK kvs)/\∀ o,Q v (upd H1 a (.frz o (.dK kvs)))):=fun pins s σ H Q I q=>
 thn (h pins s σ H _ I q) fun u s1 ⟨v,H1,I1,r,a,kvs,ev,ha,q1⟩=>by
  obtain ⟨o,ho⟩:=(I1.hok a _ ha).ex
  exact ⟨v,_,I1.freeze ha ho,r,q1 o⟩
theorem zse {t:TS} (h:PS X st t):PS X st (fun D σ H=>t { D with nx:=fun σ1 H1=>∃ a kvs,H1 a = some (.dK kvs)/\∀ o,D.nx σ1 (upd H1 a (.frz o (.dK kvs))) } σ H):=fun pins s σ H D I q=>
 thn (h pins s σ H _ I q) fun f s1 z=>by
  cases f with
  | next=>
   obtain ⟨σ1,H1,I1,a,kvs,ha,q1⟩:=z
   obtain ⟨o,ho⟩:=(I1.hok a _ ha).ex
   exact ⟨σ1,_,I1.freeze ha ho,q1 o⟩
  | brk=>exact z
  | cont=>exact z
  | ret u=>exact z
end
theorem zfg {P:Program} {w:World}:∀ {es:List DictEntry} {vs:List (Key × Value)},Pairs (zaL P w) es vs->es.length = vs.length/\∀ (i:Nat) e,es[i]? = some e->∃ p,vs[i]? = some p/\RelV (kV p.1) e.key
 | _,_,.nil=>⟨rfl,fun i e h=>by simp at h⟩
 | _,_,.cons h1 _ h3=>by
  obtain ⟨l,f⟩:=zfg h3
  refine ⟨by simp [l],fun i e h=>?_⟩
  cases i with
  | zero=>simp at h;subst h;exact ⟨_,rfl,zr7 h1⟩
  | succ i=>rw [YAu] at h ⊢;exact f i e h
def Itk (d:Addr) (o:Obj) (kvs:List (Key × V)):It:=
 ⟨fun i H=>i < kvs.length/\H d = some (.frz o (.dK kvs)),fun i H v H'=>H' = H/\∃ p,kvs[i]? = some p/\v = kV p.1,fun i H=>i = kvs.length/\H d = some (.frz o (.dK kvs))⟩
theorem zmO {P:Program} {w:World} {K:PySem.W.Frag} {tg:Expr} {it d:Addr} {o:Obj} {kvs:List (Key × V)} {ents:Array DictEntry} {ep:Nat} (ho:o.data = .dict ents ep) :
  Turn P w K tg (Itk d o kvs) [it] it (fun i h=>h.IsKeyIter it d i ents.size ep) where
 mem:=by simp
 obj:=fun k h st c hc=>by
  rw [YAB.mp hc]
  obtain ⟨u,e,_,z⟩:=st
  exact ⟨u,e,fun v q=>by rw [z] at q;cases q⟩
 keep:=fun k h h' ⟨u,e,r⟩ q=>⟨u,q it (by simp) u e,r⟩
 item:=by
  intro X hP hw hK hc k pins s σ H E I hf st hg
  subst hP hw hK
  obtain ⟨hk,hd⟩:=hg
  obtain ⟨eo,z,hS,vs,rel,o',es',ep',e',xd,dd,kk,pp,nn⟩:=I.hok d _ hd
  rw [eo] at e'
  cases e'
  rw [ho] at dd
  cases dd
  have hlen:kvs.length = vs.length:=rel.length
  obtain ⟨l,f⟩:=zfg pp
  have hke:k < ents.size:=by rw [<- YA8,l,<- hlen];exact hk
  refine zjY st ⟨o,eo,ho⟩ hke fun h' a b=>⟨_,rfl,?_⟩
  obtain ⟨f0,f1,f2,f3,f4,f5⟩:=hf it (by simp)
  have I1:Inv X pins σ H { s with heap:=h',toks:=s.toks }:=I.turned (t':=s.toks) (fun c u hb e=>b.extBut c u hb e) f0 f1 f3 f4 f5
  obtain ⟨p,hp,rk⟩:=f k ents[k] (by rw [YB6,YBb hke])
  obtain ⟨q,hq⟩:∃ q,kvs[k]? = some q:=⟨_,YAn hk⟩
  have e1:q.1 = p.1:=(zim rel hq hp).1
  obtain ⟨u,g1,g2,g3⟩:=id a
  exact zkI (s:={ s with heap:=h' }) g1 g2 g3 (by decide) ⟨kV p.1,H,I1,rk,⟨rfl,q,hq,by rw [e1]⟩,a,fun c hc=>(hf c hc).1⟩
 done:=by
  intro X hP hw hK hc k pins s σ H E I hf st hg
  subst hP hw hK
  obtain ⟨hk,hd⟩:=hg
  obtain ⟨eo,z,hS,vs,rel,o',es',ep',e',xd,dd,kk,pp,nn⟩:=I.hok d _ hd
  rw [eo] at e'
  cases e'
  rw [ho] at dd
  cases dd
  have hlen:kvs.length = vs.length:=rel.length
  obtain ⟨l,f⟩:=zfg pp
  have hke:k = ents.size:=by rw [<- YA8,l,<- hlen];exact hk
  subst hke
  refine zlj (I.ok.hd hc) st ⟨o,eo,ho⟩ fun h' eb=>⟨rfl,?_⟩
  obtain ⟨f0,f1,f2,f3,f4,f5⟩:=hf it (by simp)
  exact I.turned (t':=s.toks) (fun b u hb e=>eb b u hb e) f0 f1 f3 f4 f5
 self:=fun _ _ _ _ _ st h=>wpAny_pyIter_keyiter st h
def zts (td:TE):TI:=fun σ H R=>td σ H fun x H1=>∃ d o kvs,x = .ref d/\H1 d = some (.frz o (.dK kvs))/\R (Itk d o kvs) H1
theorem zpe {X:Cx} {tg e:Expr} {td:TE} (ho:PE X e td):PI X tg e (zts td):=by
 intro pins s σ H R I h
 refine thn (ho pins s σ H _ I h) fun u s1 ⟨x,H1,I1,rx,d,o,kvs,ex,hd,q⟩=>?_
 subst ex
 obtain rfl:u = Value.ref d:=rx
 obtain ⟨eo,z,hS,vs,rel,o',es',ep',e',xd,dd,kk,pp,nn⟩:=I1.hok d _ hd
 rw [eo] at e'
 cases e'
 refine zjM hS ⟨o,eo,xd.1⟩ ⟨o,eo,dd⟩ ?_
 refine ⟨s1.heap.objs.size,[s1.heap.objs.size],_,_,H1,rfl,I1.kept (t':=s1.toks) fun b u e=>YAb _ e,zmO dd,⟨_,YAj _ rfl,rfl,rfl⟩,fun b hb=>?_,q⟩
 rw [YAB.mp hb]
 exact I1.fpOk (YAk _) (I1.hok.fresh (YAk _))
theorem zhx {X:Cx} (hc:X.calm = true):CallR X (.type "list") (fun vs H Q=>∃ d kvs,vs = [.ref d]/\Rd H d (.dK kvs)/\kvs.length <= 1000/\∀ l,H l = none->Q (.ref l) (upd H l (.lst (kvs.map fun p=>kV p.1)))):=by
 intro pins s σ H vs us Q I r h
 obtain ⟨d,kvs,rfl,hd,hz,q⟩:=h
 obtain ⟨u,rfl,rx⟩:=zeI r
 cases rx
 obtain ⟨z,sy,xs,rel,o,es,ep,h1,h2,h3,h4,h5,h6⟩:=zie I.hok hd
 obtain ⟨l,f⟩:=zfg h5
 have lx:xs.length = kvs.length:=rel.length.symm
 have hsz:es.size = kvs.length:=by rw [<- YA8,l,lx]
 refine zmK (I.ok.hd hc) sy (fun h' k=>⟨o,k _ h1,h2.1⟩) ⟨o,h1,h3⟩ (by omega) fun h' tk c' k g=>?_
 refine ⟨.ref s.heap.objs.size,upd H s.heap.objs.size (.lst (kvs.map fun p=>kV p.1)),I.laid (t':=tk) k (YAk _) ⟨by rw [YAd,YAO];omega,es.toList.map (·.key),c',?_,by rw [g,<- Array.toList_map,Array.toArray_toList]⟩,rfl,q _ (I.hok.fresh (YAk _))⟩
 have go:∀ {es:List DictEntry} {xs:List (Key × Value)} {kvs:List (Key × V)},Pairs (zaL X.prog X.w) es xs->KV kvs xs->Vals (kvs.map fun p=>kV p.1) (es.map (·.key)):=by
  intro es xs kvs hp
  induction hp generalizing kvs with
  | nil=>intro h;cases h;exact .nil
  | cons a _ _ ih=>intro h;cases h with | cons b t=>exact .cons (by show RelV (kV _) _;rw [b.1];exact zr7 a) (ih t)
 exact go h5 rel
end L2
set_option maxHeartbeats 200000
namespace Fd
open PySem L2
def noD:Env->Bool
 | []=>true
 | .dic _ _ :: _=>false
 | _ :: r=>noD r
def zkL:Nat->Env->Bool
 | _,[]=>true
 | 0,_ :: r=>noD r
 | _ + 1,.dic _ _ :: _=>false
 | i + 1,_ :: r=>zkL i r
theorem zjW:∀ {ρ:Env},noD ρ = true->∀ (j:Nat) ks xs,ρ[j]? ≠ some (.dic ks xs)
 | [],_,j,ks,xs=>by simp
 | .dic _ _ :: _,h,_,_,_=>by cases h
 | .un :: r,h,0,ks,xs=>by simp
 | .val _ :: r,h,0,ks,xs=>by simp
 | .own _ :: r,h,0,ks,xs=>by simp
 | .un :: r,h,j + 1,ks,xs=>by rw [YAu];exact zjW (ρ:=r) h j ks xs
 | .val _ :: r,h,j + 1,ks,xs=>by rw [YAu];exact zjW (ρ:=r) h j ks xs
 | .own _ :: r,h,j + 1,ks,xs=>by rw [YAu];exact zjW (ρ:=r) h j ks xs
theorem zhk:∀ {i:Nat} {ρ:Env},zkL i ρ = true->∀ (j:Nat) ks xs,ρ[j]? = some (.dic ks xs)->j = i
 | _,[],_,j,ks,xs,e=>by simp at e
 | 0,s :: r,h,0,ks,xs,e=>rfl
 | 0,s :: r,h,j + 1,ks,xs,e=>absurd (by rw [YAu] at e;exact e) (zjW (ρ:=r) h j ks xs)
 | _ + 1,.dic _ _ :: _,h,_,_,_,_=>by cases h
 | i + 1,.un :: r,h,0,ks,xs,e=>by simp at e
 | i + 1,.val _ :: r,h,0,ks,xs,e=>by simp at e
 | i + 1,.own _ :: r,h,0,ks,xs,e=>by simp at e
 | i + 1,.un :: r,h,j + 1,ks,xs,e=>by rw [zhk (i:=i) (ρ:=r) h j ks xs (by rw [YAu] at e;exact e)]
 | i + 1,.val _ :: r,h,j + 1,ks,xs,e=>by rw [zhk (i:=i) (ρ:=r) h j ks xs (by rw [YAu] at e;exact e)]
 | i + 1,.own _ :: r,h,j + 1,ks,xs,e=>by rw [zhk (i:=i) (ρ:=r) h j ks xs (by rw [YAu] at e;exact e)]
section
variable {c:Bk} {ρ:Env} {σ:St} {H G:Hp} {i:Nat}
theorem Rel.putDic {ks:List Str} {xs:List D} {vs:List V} {l:Addr} (r:Rel c ρ σ H G) (hl:H l = some (.dK (kvD ks vs))) (hg:G l = none) (h0:c.H0 l = none) (hb:l ≠ c.β) (h:Reps c G xs vs) (hn:ks.length = vs.length):Rel c (ρ.set i (.dic ks xs)) (σ.set i (some (.ref l))) H G:=by
 refine ⟨by simp [r.len],r.stp,fun j s e=>?_,fun j k a xs' ys e1 e2 e3 e4=>?_,r.kn⟩
 ·by_cases z:i = j
  ·subst z
   have hi:i < ρ.length:=by have:=(YAe.mp e).1;simpa using this
   rw [YAh hi] at e
   cases e
   exact ⟨l,vs,by rw [YAh (by rw [<- r.len];exact hi)],hl,hg,h0,hb,h,hn⟩
  ·rw [YAi z] at e ⊢
   exact r.slot j s e
 ·have nn:∀ {j:Nat} {xs},(ρ.set i (.dic ks xs'))[j]? = some (.own xs)->True:=fun _=>trivial
  have nj:i ≠ j:=fun z=>by
   subst z
   have hi:i < ρ.length:=by have:=(YAe.mp e1).1;simpa using this
   rw [YAh hi] at e1;cases e1
  have nk:i ≠ k:=fun z=>by
   subst z
   have hi:i < ρ.length:=by have:=(YAe.mp e2).1;simpa using this
   rw [YAh hi] at e2;cases e2
  rw [YAi nj] at e1 e3
  rw [YAi nk] at e2 e4
  exact r.dis j k a xs' ys e1 e2 e3 e4
theorem Rel.writeD {ks ks':List Str} {xs ys:List D} {ws:List V} {l:Addr} (r:Rel c ρ σ H G) (hi:ρ[i]? = some (.dic ks xs)) (hs:σ[i]? = some (some (.ref l))) (h:Reps c G ys ws) (hn:ks'.length = ws.length) (ho:zkL i ρ = true) :
  Rel c (ρ.set i (.dic ks' ys)) σ (upd H l (.dK (kvD ks' ws))) G:=by
 obtain ⟨a,vs,h1,h2,h3,h4,h5,h6,h7⟩:=r.slot i _ hi
 rw [hs] at h1
 cases h1
 have hil:i < ρ.length:=(YAe.mp hi).1
 refine ⟨by simp [r.len],⟨r.stp.gg,fun b u e=>?_,fun b u n e=>?_,r.stp.nw,?_,r.stp.b0,fun cc p q d e=>by
  obtain ⟨p',q',d',e'⟩:=r.stp.bc cc p q d e
  exact ⟨p',q',d',by rw [upd_ne (YAH h5)];exact e'⟩⟩,fun j s e=>?_,fun j k b xs' ys' e1 e2 e3 e4=>?_,r.kn⟩
 ·rw [upd_ne (fun z=>by rw [z,h3] at e;cases e)];exact r.gh b u e
 ·rw [upd_ne (fun z=>by rw [z,h4] at e;cases e)];exact r.stp.fr b u n e
 ·obtain ⟨cc,p,q,d,ns,e,z⟩:=r.bx.ex
  exact ⟨⟨cc,p,q,d,ns,by rw [upd_ne (YAH h5)];exact e,z⟩,r.bx.still⟩
 ·by_cases z:i = j
  ·subst z
   rw [YAh hil] at e
   cases e
   exact ⟨l,ws,hs,zae,h3,h4,h5,h,hn⟩
  ·rw [YAi z] at e
   have q:=r.slot j s e
   cases s with
   | un=>trivial
   | val d=>exact q
   | own zs=>
    obtain ⟨b,us,g1,g2,g3⟩:=q
    have nb:b ≠ l:=fun y=>by rw [y,h2] at g2;cases g2
    exact ⟨b,us,g1,by rw [upd_ne nb];exact g2,g3⟩
   | dic k2 zs=>exact absurd (zhk ho j k2 zs e).symm z
 ·have f:∀ (m:Nat) zs,(ρ.set i (.dic ks' ys))[m]? = some (.own zs)->ρ[m]? = some (.own zs):=fun m zs e=>by
   by_cases z:i = m
   ·subst z;rw [YAh hil] at e;cases e
   ·rw [YAi z] at e;exact e
  exact r.dis j k b _ _ (f j _ e1) (f k _ e2) e3 e4
end
def dcV:D->Option (List Str × List D)
 | .dct _ ks xs=>some (ks,xs)
 | .fdc ks xs=>some (ks,xs)
 | _=>none
theorem zfp {c:Bk} {G:Hp} {d:D} {v:V} {ks:List Str} {xs:List D} (h:Rep c G d v) (e:dcV d = some (ks,xs)):∃ a vs,v = .ref a/\Rd G a (.dK (kvD ks vs))/\ks.length = vs.length/\Reps c G xs vs:=by
 cases d with
 | dct n ks' xs'=>cases e;obtain ⟨a,vs,h1,h2,_,h4,h5⟩:=h;exact ⟨a,vs,h1,.inl h2,h4,h5⟩
 | fdc ks' xs'=>cases e;obtain ⟨a,vs,o,h1,h2,h4,h5⟩:=h;exact ⟨a,vs,h1,.inr ⟨o,h2⟩,h4,h5⟩
 | _=>cases e
theorem zfW {G H:Hp} {a:Addr} {u:HO} (s:Same G H):Rd G a u->Rd H a u
 | .inl h=>.inl (s _ _ h)
 | .inr ⟨o,h⟩=>.inr ⟨o,s _ _ h⟩
def dcD (d:D) (Q:List Str->List D->Prop):Prop:=match dcV d with | some p=>Q p.1 p.2 | none=>False
theorem zec {d:D} {Q Q':List Str->List D->Prop} (k:∀ a b,Q a b->Q' a b) (q:dcD d Q):dcD d Q':=by
 unfold dcD at q ⊢
 split at q
 ·exact k _ _ q
 ·exact q.elim
section
variable {X:Cx} {c:Bk} {e ie ve:Expr} {es:List Expr} {rest:List Stmt} {pos p p2 cp tp pos2:Pos}
@[reducible] def dcpW (i:Nat) (A:WE):WS:=fun E ρ=>A ρ fun d=>dcD d fun ks xs=>E.nx (ρ.set i (.dic ks xs))
theorem zsG (i:Nat) {x:Str} {A:WE} (hA:DE X c e A) (hi:X.N[i]? = some x:=by rfl) (hx:Loc X.env.scope x:=by first | exact Or.inl rfl | exact Or.inr rfl) (hg:Gl X "dict" := by rfl) (he:starEach [e] X.env = (false,eval e X.env) :: starEach [] X.env:=by rfl)
  (hs:swapsWith (.Call (.Name "dict" p2) [e] [] cp) (some (.Name x p)) pos.line X.env = pure false:=by rfl) (hf:X.fn x = true\/X.env.scope.names.lookup x = some .local:=by first | exact .inl rfl | exact .inr rfl | assumption) (hm:X.mg "dict" = none:=by decreasing_trivial) (hN:X.N.Nodup:=by decreasing_trivial):DS X c (.Assign [.Name x p] (.Call (.Name "dict" p2) [e] [] cp) pos) (dcpW i A) where
 mono:=fun E E' ρ l q=>hA.mono ρ _ _ (fun d z=>zec (fun a b y=>l.nx _ y) z) q
 ps:=zbp (zc3 hN hi hx (zbX zdm hg hm YBY (zav hA.pe za1 he) (by decide) (by decide) he rfl) hs hf) fun D σ H ⟨ρ,G,r,q⟩=>⟨ρ,G,r,hA.mono ρ _ _ (fun d z v H' G' t e=>by
  unfold dcD at z
  split at z
  ·rename_i pr ed
   obtain ⟨a,vs,h1,h2,h3,h4⟩:=zfp e ed
   subst h1
   refine ⟨a,_,rfl,zfW t.gh h2,fun l hl=>?_⟩
   have r1:=r.step t
   have r2:=r1.step (Stp.own (o:=.dK (kvD pr.1 vs)) r1.gh r1.bx hl)
   exact z _ _ G' (r2.putDic zae (zak r1.gh hl) (r1.new0 hl) (r1.neβ hl) h4 h3) t.gg
  ·exact z.elim) q⟩
def dstW (i:Nat) (I A:WE):WS:=fun E ρ=>match ρ[i]? with
 | some (.dic ks xs)=>zkL i ρ = true/\ks.length < 1000/\A ρ fun d=>I ρ fun k=>(match k with | .str z=>E.nx (ρ.set i (.dic (putKs ks z) (putVs ks xs z d))) | _=>False)
 | _=>False
theorem ziF (i:Nat) {x:Str} {I A:WE} (hA:DE X c e A) (hI:DE X c ie I) (hN:X.N[i]? = some x:=by rfl) (hv:Vis X.env.scope x:=by first | exact Or.inl rfl | exact Or.inr (Or.inl rfl) | exact Or.inr (Or.inr rfl))
  (hd:(x == ("__debug__" : Str)) = false:=by decide) (hcd:(x == ("__classdict__" : Str)) = false:=by decide) (hs:swapsWith e (some (.Subscript (.Name x p) ie tp)) pos.line X.env = pure false:=by rfl) (hu:X.A.units + 1 < cLine:=by decreasing_trivial):DS X c (.Assign [.Subscript (.Name x p) ie tp] e pos) (dstW i I A) where
 mono:=fun E E' ρ l q=>by
  unfold dstW at q ⊢
  split at q
  ·exact ⟨q.1,q.2.1,hA.mono ρ _ _ (fun d z=>hI.mono ρ _ _ (fun k y=>by
    cases k <;> first | exact l.nx _ y | exact y) z) q.2.2⟩
  ·exact q.elim
 ps:=zbp (ziC hu (zbe hN hv hd hcd) hI.pe hA.pe hs) fun D σ H ⟨ρ,G,r,q⟩=>by
  unfold dstW at q
  split at q
  ·rename_i ks xs ek
   obtain ⟨ho,hk,q⟩:=q
   refine ⟨ρ,G,r,hA.mono ρ _ _ (fun d z v H1 G1 t1 e1=>?_) q⟩
   obtain ⟨a,vs,h1,h2,h3,h4,h5,h6,h7⟩:=(r.step t1).slot i _ ek
   refine ⟨.ref a,h1,ρ,G1,r.step t1,hI.mono ρ _ _ (fun k y w H2 G2 t2 e2=>?_) z⟩
   cases k with
   | str z=>
    have ew:w = V.str z:=e2
    subst ew
    have len:(kvD ks vs).length < sizeLine:=by
     unfold kvD
     rw [YAd,YBd,<- h7,YBx,YAO];omega
    refine ⟨a,_,rfl,DPut.k (k:=.inr z) (t2.fr a _ h5 h2) len,?_⟩
    rw [zhh h7]
    exact y σ _ G2 (((r.step t1).step t2).writeD ek h1 (zd7 (e1.mono t2.gg) (h6.mono t2.gg)) (zhi h7) ho) (t1.gg.trans t2.gg)
   | _=>exact y.elim
  ·exact q.elim
def zny (i:Nat) (I A:WE):WS:=fun E ρ=>match ρ[i]? with
 | some (.dic ks xs)=>zkL i ρ = true/\ks.length < 1000/\I ρ fun k=>(match k with
  | .str z=>(match zax ks xs z with
   | some (.int a)=>A ρ fun d=>intD d fun b=>E.nx (ρ.set i (.dic (putKs ks z) (putVs ks xs z (.int (a + b)))))
   | _=>False)
  | _=>False)
 | _=>False
theorem zqS (i:Nat) {x:Str} {I A:WE} (hI:DE X c ie I) (hA:DE X c e A) (hN:X.N[i]? = some x:=by rfl) (hv:Vis X.env.scope x:=by first | exact Or.inl rfl | exact Or.inr (Or.inl rfl) | exact Or.inr (Or.inr rfl))
  (hd:(x == ("__debug__" : Str)) = false:=by decide) (hcd:(x == ("__classdict__" : Str)) = false:=by decide)
  (ha:∀ ov iv new,augStore ie ov iv new = (do holding [new,ov,iv] (setItem ov iv new);release [new,ov,iv] [];pure .next):=by intros;rfl) (hu:X.A.units + 1 < cLine:=by decreasing_trivial):DS X c (.AugAssign (.Subscript (.Name x p) ie tp) .Add e pos) (zny i I A) where
 mono:=fun E E' ρ l q=>by
  unfold zny at q ⊢
  split at q
  ·refine ⟨q.1,q.2.1,hI.mono ρ _ _ (fun k y=>?_) q.2.2⟩
   split at y
   ·split at y
    ·exact hA.mono ρ _ _ (fun d w=>zmR (fun b=>l.nx _) w) y
    ·exact y.elim
   ·exact y.elim
  ·exact q.elim
 ps:=zbp (zqr hu (zbe hN hv hd hcd) hI.pe hA.pe zrX ha) fun D σ H ⟨ρ,G,r,q⟩=>by
  unfold zny at q
  split at q
  ·rename_i ks xs ek
   obtain ⟨ho,hk,q⟩:=q
   obtain ⟨a,vs,h1,h2,h3,h4,h5,h6,h7⟩:=r.slot i _ ek
   refine ⟨.ref a,h1,ρ,G,r,hI.mono ρ _ _ (fun k y w H1 G1 t1 e1=>?_) q⟩
   split at y
   ·rename_i z
    have ew:w = V.str z:=e1
    subst ew
    split at y
    ·rename_i n en
     obtain ⟨v,f1,f2⟩:=zdY h6 en
     have ev:v = V.int n:=f2
     subst ev
     have g0:=DGet.k (k:=Sum.inr z) (t1.fr a _ h5 h2)
     rw [zdr,f1] at g0
     refine ⟨a,_,rfl,g0,ρ,G1,r.step t1,hA.mono ρ _ _ (fun d z2 u H2 G2 t2 e2=>?_) y⟩
     cases d with
     | int b=>
      have eu:u = V.int b:=e2
      subst eu
      have len:(kvD ks vs).length < sizeLine:=by
       unfold kvD
       rw [YAd,YBd,<- h7,YBx,YAO];omega
      refine ⟨n,b,rfl,rfl,_,DPut.k (k:=.inr z) (t2.fr a _ h5 (t1.fr a _ h5 h2)) len,?_⟩
      rw [zhh h7]
      exact z2 σ _ G2 (((r.step t1).step t2).writeD ek h1 (zd7 (d:=.int (n + b)) rfl (h6.mono (t1.gg.trans t2.gg))) (zhi h7) ho) (t1.gg.trans t2.gg)
     | _=>exact z2.elim
    ·exact y.elim
   ·exact y.elim
  ·exact q.elim
def ogW (i:Nat) (B:WE):WE:=fun ρ Q=>match ρ[i]? with
 | some (.dic ks xs)=>B ρ fun y=>(match y with | .str z=>optD (zax ks xs z) Q | _=>False)
 | _=>False
theorem d_og (i:Nat) {x:Str} {B:WE} (hB:DE X c e B) (hs:NoSl e:=by intro _ _;rfl) (hN:X.N[i]? = some x:=by rfl) (hv:Vis X.env.scope x:=by first | exact Or.inl rfl | exact Or.inr (Or.inl rfl) | exact Or.inr (Or.inr rfl))
  (hd:(x == ("__debug__" : Str)) = false:=by decide) (hcd:(x == ("__classdict__" : Str)) = false:=by decide) (hu:X.A.units + 1 < cLine:=by decreasing_trivial):DE X c (.Subscript (.Name x p) e pos) (ogW i B) where
 mono:=fun ρ Q Q' k q=>by
  unfold ogW at q ⊢
  split at q
  ·exact hB.mono ρ _ _ (fun y z=>by
    cases y <;> first | exact zf8 k z | exact z) q
  ·exact q.elim
 pe:=zan (zmc hu (zbe hN hv hd hcd) hB.pe hs) fun σ H Q ⟨ρ,G,r,q⟩=>by
  unfold ogW at q
  split at q
  ·rename_i ks xs ek
   obtain ⟨a,vs,h1,h2,h3,h4,h5,h6,h7⟩:=r.slot i _ ek
   refine ⟨.ref a,h1,ρ,G,r,hB.mono ρ _ _ (fun y z w H1 G1 t1 e1=>?_) q⟩
   cases y with
   | str z0=>
    have ew:w = V.str z0:=e1
    subst ew
    have z:optD (zax ks xs z0) _:=z
    cases e0:zax ks xs z0 with
    | none=>rw [e0] at z;exact z.elim
    | some d=>
     rw [e0] at z
     obtain ⟨v,f1,f2⟩:=zdY h6 e0
     have g0:=DGet.k (k:=Sum.inr z0) (t1.fr a _ h5 h2)
     rw [zdr,f1] at g0
     exact ⟨a,v,rfl,g0,z v H1 G1 t1 (f2.mono t1.gg)⟩
   | _=>exact z.elim
  ·exact q.elim
end
end Fd
set_option maxHeartbeats 400000
namespace Fd
open PySem L2
def del (G:Hp) (a:Addr):Hp:=fun b=>if b = a then none else G b
theorem zjL {G:Hp} {a b:Addr} (h:b ≠ a):del G a b = G b:=by unfold del;rw [if_neg h]
theorem zjq {G:Hp} {a:Addr}:del G a a = none:=by unfold del;rw [if_pos rfl]
theorem Stp.lend {β a:Addr} {H G H2 G3:Hp} {o:HO} (s:Stp β H (upd G a o) H2 G3) (ga:G a = none) (bx:BoxD β H G):Stp β H G H2 (del G3 a):=by
 have na:∀ b u,G b = some u->b ≠ a:=fun b u e z=>by rw [z,ga] at e;cases e
 refine ⟨fun b u e=>?_,fun b u e=>?_,s.fr,fun b e=>?_,⟨?_,?_⟩,s.b0,s.bc⟩
 ·rw [zjL (na b u e)];exact s.gg b u (by rw [upd_ne (na b u e)];exact e)
 ·by_cases z:b = a
  ·rw [z,zjq] at e;cases e
  ·rw [zjL z] at e;exact s.gh b u e
 ·have z:b ≠ a:=fun z=>e (by rw [z,zjq])
  rw [zjL z] at e
  rcases s.nw b e with y | y
  ·rw [upd_ne z] at y;exact .inl y
  ·exact .inr y
 ·obtain ⟨cc,p,r,d,ns,h,p1,p2,p3,p4,hc,q⟩:=s.bx.ex
  obtain ⟨c0,p',r',d',ns',h',_,_,_,_,hc',_⟩:=bx.ex
  obtain ⟨x1,x2,x3,h2⟩:=s.bc c0 p' r' d' h'
  rw [h] at h2
  have e:cc = c0:=by unfold boxO at h2;injection h2 with h2;injection h2 with h2;injection h2 with h2;injection h2
  subst e
  exact ⟨cc,p,r,d,ns,h,p1,p2,p3,p4,by rw [zjL (na cc _ hc')];exact hc,q⟩
 ·unfold del
  split
  ·rfl
  ·exact s.bx.still
def zpI:D->Prop
 | .non=>True
 | .bl _=>True
 | .int _=>True
 | .str _=>True
 | _=>False
theorem zoq {c c':Bk} {G G':Hp} {d:D} {v:V} (f:zpI d) (h:Rep c' G' d v):Rep c G d v:=by
 cases d <;> first | exact h | exact f.elim
section
variable {X:Cx} {c:Bk} {e ie ve:Expr} {es:List Expr} {rest:List Stmt} {pos p p1 p2 p3 cp tp pos2:Pos}
def zhd (i n:Nat) (F:Fn) (R:WL):WE:=fun ρ Q=>match ρ[i]? with
 | some (.dic ks xs)=>R ρ fun ds=>ds.length + 1 = n/\up F (.dct true ks xs :: ds) fun d=>zpI d/\Q d
 | _=>False
theorem zlq (i:Nat) {x f:Str} {k n:Nat} {ps:List Str} {F:Fn} {R:WL} (C:Cal X.prog X.w X.K X.mg X.base f k ps (spD X.K n F)) (hR:DA X c (e :: es) R) (hN:X.N[i]? = some x:=by rfl) (hv:Vis X.env.scope x:=by first | exact Or.inl rfl | exact Or.inr (Or.inl rfl) | exact Or.inr (Or.inr rfl))
  (hd:(x == ("__debug__" : Str)) = false:=by decide) (hcd:(x == ("__classdict__" : Str)) = false:=by decide) (hg:Gl X f:=by rfl)
  (hdb:(f == ("__debug__" : Str)) = false:=by decide) (he:starEach (.Name x p2 :: e :: es) X.env = (false,eval (.Name x p2) X.env) :: starEach (e :: es) X.env:=by rfl) (hpl:(backTo pos (starEach (e :: es) X.env)).any (·.1) = false:=by rfl) (hK:c.K = X.K:=by rfl) (hr:Room k X.A:=by decreasing_trivial) :
  DE X c (.Call (.Name f p) (.Name x p2 :: e :: es) [] pos) (zhd i n F R) where
 mono:=fun ρ Q Q' k q=>by
  unfold zhd at q ⊢
  split at q
  ·exact hR.mono ρ _ _ (fun ds z=>⟨z.1,zbt F _ _ _ (fun d w=>⟨w.1,k d w.2⟩) z.2⟩) q
  ·exact q.elim
 pe:=by
  obtain ⟨fa,fd,FO,hm,hk,hb⟩:=C.ex
  refine zan (zda FO hr hg hm hk hb .nil zjf (zav (zbe hN hv hd hcd) hR.pa he) hdb he hpl) fun σ H Q ⟨ρ,G,r,q⟩=>?_
  unfold zhd at q
  split at q
  ·rename_i ks xs ek
   obtain ⟨a,vs,h1,h2,h3,h4,h5,h6,h7⟩:=r.slot i _ ek
   refine ⟨.ref a,h1,ρ,G,r,hR.mono ρ _ _ (fun ds z us H' G' t ea=>?_) q⟩
   show spD X.K n F (.ref a :: us ++ []) H' Q E0
   rw [YAS]
   have r1:=r.step t
   obtain ⟨a',vs',g1,g2,g3,g4,g5,g6,g7⟩:=r1.slot i _ ek
   rw [h1] at g1;cases g1
   have sg:Same G' (upd G' a (.dK (kvD ks vs'))):=zbU g3
   have bx':BoxD c.β H' (upd G' a (.dK (kvD ks vs'))):=by
    obtain ⟨cc,p,r,d,ns,h,p1,p2,p3,p4,hc,q⟩:=t.bx.ex
    exact ⟨⟨cc,p,r,d,ns,h,p1,p2,p3,p4,sg _ _ hc,q⟩,by rw [upd_ne (YAH g5)];exact t.bx.still⟩
   refine ⟨c.β,upd G' a (.dK (kvD ks vs')),.dct true ks xs :: ds,fun b u e=>?_,bx',⟨.ref a,us,rfl,⟨a,vs',rfl,zae,fun _=>rfl,g7,?_⟩,?_⟩,by rw [YAP,<- ea.length];exact z.1,zbt F _ _ _ (fun d w v H2 G2 t2 e2=>?_) z.2⟩
   ·by_cases y:b = a
    ·subst y;rw [zae] at e;cases e;exact g2
    ·rw [upd_ne y] at e;exact t.gh b u e
   ·exact (Reps.back (c':=c) (c:=⟨X.K,c.β,fun _=>none,upd G' a (.dK (kvD ks vs')),True⟩) hK rfl (fun _ _=>rfl) g6).mono sg
   ·exact (Reps.back (c':=c) (c:=⟨X.K,c.β,fun _=>none,upd G' a (.dK (kvD ks vs')),True⟩) hK rfl (fun _ _=>rfl) ea).mono sg
   ·exact w.2 v H2 _ (t.trans (t2.lend g3 t.bx)) (zoq w.1 e2)
  ·exact q.elim
def zlw (i:Nat):WS:=fun E ρ=>match ρ[i]? with
 | some (.dic ks xs)=>E.rt (.dct true ks xs)
 | _=>False
theorem zsq (i:Nat) {x:Str} (hN:X.N[i]? = some x:=by rfl) (hv:Vis X.env.scope x:=by first | exact Or.inl rfl | exact Or.inr (Or.inl rfl) | exact Or.inr (Or.inr rfl))
  (hd:(x == ("__debug__" : Str)) = false:=by decide) (hcd:(x == ("__classdict__" : Str)) = false:=by decide):DS X c (.Return (some (.Name x p)) pos) (zlw i) where
 mono:=fun E E' ρ l q=>by
  unfold zlw at q ⊢
  split at q
  ·exact l.rt _ q
  ·exact q.elim
 ps:=zbp (ze2 (zbe hN hv hd hcd)) fun D σ H ⟨ρ,G,r,q⟩=>by
  unfold zlw at q
  split at q
  ·rename_i ks xs ek
   obtain ⟨a,vs,h1,h2,h3,h4,h5,h6,h7⟩:=r.slot i _ ek
   refine ⟨.ref a,h1,q (.ref a) H (upd G a (.dK (kvD ks vs))) (r.stp.still h2 h4 h5 h3) ⟨a,vs,rfl,zae,fun _=>h4,h7,h6.mono (zbU h3)⟩⟩
  ·exact q.elim
@[reducible] def dc2W (i:Nat) (A V I:WE) (B:WS):WS:=fun E ρ=>i < ρ.length/\A ρ fun d=>dcD d fun ks xs=>ks.length < 1000/\V (ρ.set i .un) fun v=>I (ρ.set i .un) fun k=>(match k with | .str z=>B E (ρ.set i (.val (.fdc (putKs ks z) (putVs ks xs z v)))) | _=>False)
theorem ztf (i:Nat) {x:Str} {A V I:WE} {B:WS} (hA:DE X c e A) (hV:DE X c ve V) (hI:DE X c ie I) (hB:DSs X c rest B) (hi:X.N[i]? = some x:=by rfl) (hx:Loc X.env.scope x:=by first | exact Or.inl rfl | exact Or.inr rfl) (hv:Vis X.env.scope x:=by first | exact Or.inl rfl | exact Or.inr (Or.inl rfl) | exact Or.inr (Or.inr rfl))
  (hd:(x == ("__debug__" : Str)) = false:=by decide) (hcd:(x == ("__classdict__" : Str)) = false:=by decide) (hg:Gl X "dict" := by rfl) (he:starEach [e] X.env = (false,eval e X.env) :: starEach [] X.env:=by rfl)
  (hs:swapsWith (.Call (.Name "dict" p2) [e] [] cp) (some (.Name x p)) pos.line X.env = pure false:=by rfl) (hs2:swapsWith ve (some (.Subscript (.Name x p3) ie tp)) pos2.line X.env = pure false:=by rfl) (hf:X.fn x = true\/X.env.scope.names.lookup x = some .local:=by first | exact .inl rfl | exact .inr rfl | assumption) (hm:X.mg "dict" = none:=by decreasing_trivial) (hu:X.A.units + 1 < cLine:=by decreasing_trivial) (hN:X.N.Nodup:=by decreasing_trivial) :
  DSs X c (.Assign [.Name x p] (.Call (.Name "dict" p2) [e] [] cp) pos :: .Assign [.Subscript (.Name x p3) ie tp] ve pos2 :: rest) (dc2W i A V I B) where
 mono:=fun E E' ρ l q=>⟨q.1,hA.mono ρ _ _ (fun d z=>zec (fun a b y=>⟨y.1,hV.mono _ _ _ (fun v w=>hI.mono _ _ _ (fun k u=>by
  cases k <;> first | exact hB.mono _ _ _ l u | exact u) w) y.2⟩) z) q.2⟩
 pss:=zeG (zaJ (zc3 hN hi hx (zbX zdm hg hm YBY (zav hA.pe za1 he) (by decide) (by decide) he rfl) hs hf) (zaJ (zse (ziC hu (zbe hi hv hd hcd) hI.pe hV.pe hs2)) hB.pss)) fun D σ H ⟨ρ,G,r,q⟩=>⟨ρ,G,r,hA.mono ρ _ _ (fun d z v H' G' t e=>by
  have hil:i < σ.length:=by rw [<- r.len];exact q.1
  unfold dcD at z
  split at z
  ·rename_i pr ed
   obtain ⟨a,vs,h1,h2,h3,h4⟩:=zfp e ed
   subst h1
   refine ⟨a,_,rfl,zfW t.gh h2,fun l hl=>?_⟩
   have r1:=r.step t
   have t1:Stp c.β H' G' (upd H' l (.dK (kvD pr.1 vs))) G':=Stp.own r1.gh r1.bx hl
   have r2:Rel c (ρ.set i .un) (σ.set i (some (.ref l))) (upd H' l (.dK (kvD pr.1 vs))) G':=(r1.step t1).unput
   have lb:l ≠ c.β:=r1.neβ hl
   refine ⟨_,_,r2,hV.mono _ _ _ (fun dv y w H2 G2 t2 e2=>?_) z.2⟩
   have r3:=r2.step t2
   have at_:(σ.set i (some (L2.V.ref l)))[i]? = some (some (.ref l)):=YAh hil
   refine ⟨.ref l,at_,_,_,r3,hI.mono _ _ _ (fun k u wk H3 G3 t3 e3=>?_) y⟩
   cases k with
   | str zz=>
    have ek:wk = L2.V.str zz:=e3
    subst ek
    have hl3:H3 l = some (.dK (kvD pr.1 vs)):=t3.fr l _ lb (t2.fr l _ lb zae)
    have len:(kvD pr.1 vs).length < sizeLine:=by
     unfold kvD
     rw [YAd,YBd,<- h3,YBx,YAO];have:=z.1;omega
    refine ⟨l,_,rfl,DPut.k (k:=.inr zz) hl3 len,l,_,zae,fun o=>?_⟩
    rw [zjc,zhh h3]
    have g3:G3 l = none:=by
     have nn:∀ {Ga Gb Ha Hb:Hp} {o:HO},Stp c.β Ha Ga Hb Gb->Ga l = none->Ha l = some o->¬ zef o->Gb l = none:=fun {Ga Gb Ha Hb o} tt g h ns=>by
      cases zz:Gb l with
      | none=>rfl
      | some u=>
       rcases tt.nw l (by rw [zz];simp) with y | y | ⟨u',y,su⟩
       ·exact absurd g y
       ·rw [h] at y;cases y
       ·rw [h] at y;cases y;exact absurd su ns
     exact nn t3 (nn t2 (zak r1.gh hl) zae (fun z=>z)) (t2.fr l _ lb zae) (fun z=>z)
    have tt:Stp c.β H' G' H3 G3:=(t1.trans t2).trans t3
    have tw:Stp c.β H' G' (upd H3 l (.frz o (.dK (kvD (putKs pr.1 zz) (putVs pr.1 vs zz w))))) (upd G3 l (.frz o (.dK (kvD (putKs pr.1 zz) (putVs pr.1 vs zz w))))):=tt.wrS hl lb g3
    have rp:Rep c (upd G3 l (.frz o (.dK (kvD (putKs pr.1 zz) (putVs pr.1 vs zz w))))) (.fdc (putKs pr.1 zz) (putVs pr.1 pr.2 zz dv)) (.ref l):=⟨l,_,o,rfl,zae,zhi h3,(zd7 (e2.mono t3.gg) (h4.mono tt.gg)).mono (zbU g3)⟩
    exact ⟨_,_,(r1.step tw).put rp,hB.mono _ _ _ (zf7 (t.gg.trans tw.gg)) u⟩
   | _=>exact u.elim
  ·exact z.elim) q.2⟩
@[reducible] def zrt:WE:=fun _ Q=>Q (.fdc [] [])
theorem zqv:DE X c (.Dict [] [] pos) zrt where
 mono:=fun ρ Q Q' k q=>k _ q
 pe:=zan (zsv zox) fun σ H Q ⟨ρ,G,r,q⟩=>fun l hl=>⟨l,[],rfl,zae,fun o=>by
  rw [zjc]
  exact q (.ref l) _ _ (Stp.new r.gh r.bx hl) ⟨l,[],o,rfl,zae,rfl,rfl⟩⟩
@[reducible] def znQ (A:WE):WL:=fun ρ Q=>A ρ fun d=>dcD d fun ks xs=>ks.length <= 1000/\Q (ks.map D.str)
theorem zmT:∀ {ks:List Str} {vs:List V},ks.length = vs.length->(kvD ks vs).map (fun p=>kV p.1) = ks.map V.str
 | [],[],_=>rfl
 | k :: ks,v :: vs,h=>by
  show kV (Sum.inr k) :: (kvD ks vs).map (fun p=>kV p.1) = _
  rw [zmT (by simpa using h)];rfl
theorem zo2 {A:WE} {lp:Pos} (hA:DE X c e A) (hg:Gl X "list" := by rfl) (he:starEach [e] X.env = (false,eval e X.env) :: starEach [] X.env:=by rfl) (hc:X.calm = true:=by rfl) (hm:X.mg "list" = none:=by decreasing_trivial):DF X c (.Call (.Name "list" lp) [e] [] pos) (znQ A) where
 mono:=fun ρ Q Q' k q=>hA.mono ρ _ _ (fun d z=>zec (fun a b y=>⟨y.1,k _ y.2⟩) z) q
 pe:=zan (zbX (zhx hc) hg hm YBm (zav hA.pe za1 he) (by decide) (by decide) he rfl) fun σ H Q ⟨ρ,G,r,q⟩=>⟨ρ,G,r,hA.mono ρ _ _ (fun d z v H' G' t e=>by
  unfold dcD at z
  split at z
  ·rename_i pr ed
   obtain ⟨a,vs,h1,h2,h3,h4⟩:=zfp e ed
   subst h1
   refine ⟨a,_,rfl,zfW t.gh h2,by unfold kvD;rw [YAd,YBd,<- h3,YBx];exact z.1,fun l hl=>?_⟩
   rw [zmT h3]
   exact z.2 l _ _ _ (t.trans (Stp.own t.gh t.bx hl)) zae (zak t.gh hl) (t.free hl) (reps_strs.mpr rfl)
  ·exact z.elim) q⟩
@[reducible] def zm7 (A:WE):WL:=fun ρ Q=>A ρ fun d=>(match d with | .fdc ks _=>Q (ks.map D.str) | _=>False)
theorem zpt {G:Hp} {a:Addr} {o:Obj} {ks:List Str} {vs:List V} (ha:G a = some (.frz o (.dK (kvD ks vs)))) (hl:ks.length = vs.length):ItOk c (Itk a o (kvD ks vs)) (ks.map D.str) G:=by
 intro i H2 G2 s1 s2 bx h0
 have hh:H2 a = some (.frz o (.dK (kvD ks vs))):=s2 _ _ (s1 _ _ ha)
 have hz:(kvD ks vs).length = ks.length:=by unfold kvD;rw [YAd,YBd,<- hl,YBx]
 refine ⟨fun e=>⟨by rw [e,hz,YAd],hh⟩,fun d e=>?_⟩
 have hi:i < ks.length:=by have:=(YAe.mp e).1;simpa using this
 refine ⟨⟨by rw [hz];exact hi,hh⟩,fun x H3 y=>?_⟩
 obtain ⟨rfl,p,hp,rfl⟩:=y
 have e1:((kvD ks vs).map (fun p=>kV p.1))[i]? = some (kV p.1):=by rw [YAt,hp];rfl
 rw [zmT hl,YAt] at e1
 rw [YAt] at e
 cases hk:ks[i]? with
 | none=>rw [hk] at e;cases e
 | some k=>
  rw [hk] at e e1
  cases e
  exact ⟨G2,Stp.refl s2 bx,(Option.some.inj e1).symm⟩
theorem zsf {A:WE} {tg:Expr} (hA:DE X c e A):DI X c tg e (zm7 A) where
 mono:=fun ρ Q Q' k q=>hA.mono ρ _ _ (fun d z=>by
  cases d <;> first | exact k _ z | exact z) q
 pi:=zjB (zpe hA.pe) fun σ H R ⟨ρ,G,r,q⟩=>⟨ρ,G,r,hA.mono ρ _ _ (fun d z v H' G' t e=>by
  cases d with
  | fdc ks xs=>
   obtain ⟨a,vs,o,h1,h2,h4,h5⟩:=e
   exact ⟨a,o,_,h1,t.gh _ _ h2,z _ H' G' t (zpt h2 h4)⟩
  | _=>exact z.elim) q⟩
end
end Fd
set_option maxHeartbeats 400000
namespace L2
open PySem PySem.Spec PyProof.Rows PySem.W
section
variable {X:Cx} {pins:List (Addr × Obj)} {σ:St} {H H':Hp} {s s':Shared} {ea C:Addr} {oe:Obj} {E:Value->Shared->Prop}
end
end L2
namespace Fd
open PySem L2
section
variable {X:Cx} {b:Bo} {st b₀:Stmt} {rest body suite:List Stmt} {pos hpos np:Pos}
end
end Fd
set_option maxHeartbeats 400000
namespace Fd
open PySem L2
theorem zfE {S:Sto} {p:Addr} {o u:Ob}:upS (upS S p o) p u = upS S p u:=by
 funext a
 by_cases e:a = p
 ·subst e;rw [zaZ,zaZ]
 ·rw [zcS e,zcS e,zcS e]
section
variable {X:Cx} {b:Bo} {pos p p2 p3 fp fp2 fp3 ap ap2 ap3 cp cp2 cp3 tp:Pos}
end
section
variable {X:Cx} {c:Bk} {o e:Expr} {A B:WE} {apos cpos:Pos}
def lstD (x:D) (Q:List D->Prop):Prop:=match x with | .lst _ xs=>Q xs | _=>False
theorem zs5 {x:D} {Q Q':List D->Prop} (k:∀ xs,Q xs->Q' xs) (q:lstD x Q):lstD x Q':=by
 cases x <;> first | exact k _ q | exact q
end
end Fd
set_option maxHeartbeats 400000
namespace Fd
open PySem L2
structure Bd (mg:Str->Option Value):Prop where
 dict:mg "dict" = none
 abs:mg "abs" = none
def lawF (n:Nat) (B:WF):Prop:=B { nx:=fun _ _=>False,rt:=fun _ d=>d = .bl true,bk:=fun _ _=>False,ct:=fun _ _=>False } (fun _=>none) (.un :: .val .box :: List.replicate n .un)
section
variable {X:Cx} {c:Bk} {b:Bo} {st:Stmt} {e a:Expr} {es:List Expr} {sts x y:List Stmt} {pos p npos bpos:Pos}
theorem zmI {x:Str} {k:Nat} {ps:List Str} {F:Fn} (C:Cal X.prog X.w X.K X.mg X.base x k ps (spD X.K 0 F)) (hg:Gl X x:=by rfl) (hdb:(x == ("__debug__" : Str)) = false:=by decide) (hK:c.K = X.K:=by rfl) (hr:Room k X.A:=by decreasing_trivial):DE X c (.Call (.Name x p) [] [] pos) (zas 0 F nilA) where
 mono:=fun ρ Q Q' k q=>⟨q.1,zbt F _ _ _ k q.2⟩
 pe:=by
  obtain ⟨f,fd,FO,hm,hk,hb⟩:=C.ex
  refine zan (zot FO hr hg hm hk hb .nil zjf hdb) fun σ H Q ⟨ρ,G,r,q⟩=>?_
  show spD X.K 0 F ([] ++ []) H Q E0
  exact ⟨c.β,G,[],r.gh,r.bx,rfl,rfl,zbt F _ _ _ (fun d z v H2 G2 t2 e2=>z v H2 G2 t2 (Rep.back (c':=⟨X.K,c.β,H,G,True⟩) (c:=c) hK.symm rfl (fun a h=>r.new0 h) e2)) q.2⟩
@[reducible] def zbS (A:Sto->WE):WOE:=fun ρ S Q=>A S ρ fun d=>Q d S
theorem oe_l {A:Sto->WE} (h:∀ S M G1,DE X (reB b S M G1) e (A S)):OE X b e (zbS A):=ziI h
theorem DA.nox {W:WL} (h:DA X.nox c es W):DA X c es W:=⟨h.mono,PA.nox h.pa⟩
theorem PSs.nox {t:TS} (h:PSs X.nox sts t):PSs X sts t:=fun pins s σ H D I hw=>YAL (h pins s σ H D (I.wish _) hw) (fun f s1 z=>by
 cases f with
 | next=>obtain ⟨σ1,H1,I1,z⟩:=z;exact ⟨σ1,H1,I1.unwish,z⟩
 | brk=>obtain ⟨σ1,H1,I1,z⟩:=z;exact ⟨σ1,H1,I1.unwish,z⟩
 | cont=>obtain ⟨σ1,H1,I1,z⟩:=z;exact ⟨σ1,H1,I1.unwish,z⟩
 | ret u=>obtain ⟨v,σ1,H1,I1,rv,z⟩:=z;exact ⟨v,σ1,H1,I1.unwish,rv,z⟩) fun _ _ z=>z.elim
theorem OSs.nox {W:WF} (h:OSs X.nox b sts W):OSs X b sts W:=⟨h.mono,PSs.nox h.pss⟩
end
theorem zrI {k:Nat} {A:Around} (r:Room k A):A.units + 1 < cLine:=by have:=Room.units r;omega
theorem zli {X:Cx} {b:Bo}:zbs (CXN X.prog X.w) X (XO b X.mg fun _ _=>False):=by
 rintro pins σ H s _ s' I ⟨ea,C,H',rfl,N,nm,C',S',M',ρ,σ',G',ec,y,r⟩
 exact y.elim
section
variable {P:Program} {w:World} {K:PySem.W.Frag} {mg:Str->Option Value} {base:Heap} {N:List Str} {qual:Str} {scope:Scope} {f:Addr} {cd:Value} {A:Around} {outer:List PySem.Env} {s0:Shared} {H0 H G M:Hp} {E:XK} {β:Addr}
theorem zoA {Y:Str->Prop} (hY:∀ nm C H' G',Y nm->mg nm = some (.ref C)->Stp β H G H' G'->E (.ref C) none H'):zbs (CXN P w) (cxOf (CXN P w) P w K mg base N qual scope f cd A outer s0 H0 E) (XD ⟨K,β,H,G,True⟩ mg Y):=
 zsl fun C H' ⟨nm,C',G',ec,y,hm,t⟩=>by cases ec;exact hY nm C H' G' y hm t
theorem ztA {Y:Str->Sto->Prop} (hY:∀ nm C H' G' S M' G1,Y nm S->mg nm = some (.ref C)->(∃ ad,Kn K β G1 S M' ad)->Out ⟨K,β,mi H M,G,M⟩ M' G1->Stp β (ov (mi H M) M') G1 H' G'->E (.ref C) none H'):zbs (CXN P w) (cxOf (CXN P w) P w K mg base N qual scope f cd A outer s0 H0 E) (XO ⟨K,β,mi H M,G,M⟩ mg Y):=
 zsl fun C H' ⟨nm,C',S',M',ρ,σ,G',ec,y,hm,G1,o,r⟩=>by cases ec;exact hY nm C H' G' S' M' G1 y hm r.kn o r.stp
end
structure TabP (P:Program) (w:World) (K:PySem.W.Frag) (mg:Str->Option Value) (base:Heap) (lv n:Nat) (T:List (Addr × FnX)):Prop where
 ex:∀ q ∈ T,∃ fd k ps,FnOk P w K mg base (CXN P w) k q.1 fd ps (spDX K mg n q.2)/\k <= lv/\PySem.W.keepIn K (.ref q.1) = true/\Binds K fd ps []
theorem TabP.at {X:Cx} {lv n:Nat} {T:List (Addr × FnX)} (h:TabP X.prog X.w X.K X.mg X.base lv n T) (hr:Room lv X.A):Tab X n T:=
 ⟨fun q hq=>by
  obtain ⟨fd,k,ps,h1,h2,h3,h4⟩:=h.ex q hq
  exact ⟨fd,k,ps,h1,hr.mono h2,h3,h4⟩⟩
theorem TabP.nil {P:Program} {w:World} {K:PySem.W.Frag} {mg:Str->Option Value} {base:Heap} {lv n:Nat}:TabP P w K mg base lv n []:=⟨fun q h=>by cases h⟩
theorem TabP.cons {P:Program} {w:World} {K:PySem.W.Frag} {mg:Str->Option Value} {base:Heap} {lv n k:Nat} {T:List (Addr × FnX)} {f:Addr} {fd:FuncData} {ps:List Str} {F:FnX} {x qual:Str} {st:Stmt} (Fu:Fun K x qual st f fd) (h:FnOk P w K mg base (CXN P w) k f fd ps (spDX K mg n F)) (hb:Binds K fd ps []) (r:TabP P w K mg base lv n T) (hk:k <= lv:=by decide):TabP P w K mg base lv n ((f,F) :: T):=
 ⟨fun q hq=>by
  rcases YAr.mp hq with rfl | hq
  ·exact ⟨fd,k,ps,h,hk,Fu.kp,hb⟩
  ·exact r.ex q hq⟩
theorem zb5 {K:PySem.W.Frag} {x:Str} {t:Tok} {f:Addr}:GRow K (x,t,.ref f) (x,.obj f):=⟨rfl,.ref f,rfl,fun c G hK=>rfl⟩
end Fd
set_option maxHeartbeats 400000
namespace Fd
open PySem L2
def zsH (K:PySem.W.Frag):V->List V->Hp->VK->Prop:=fun x vs H Q=>∃ (c:Bk) (G:Hp) (n:Bool) (ds:List D) (d:D) (v:V) (j:Nat) (e:D),c.K = K/\Same G H/\Rep c G (.lst n ds) x/\vs = [v]/\Rep c G d v/\inOk d ds/\ds.length <= 100000/\ds[j]? = some e/\eqB e d = true/\(∀ m,m < j->∀ y,ds[m]? = some y->eqB y d = false)/\Q (.int j) H
theorem zpg {X:Cx} (hu:X.A.units + 64 < cLine):MtR X "list.index" (zsH X.K):=by
 intro pins s σ H x vs v us Q I rx rv ⟨c,G,n,ds,d,v1,j,e,hK,gh,hx,e1,hv,⟨lx,ly,ld⟩,hl,hj,he,hno,q⟩
 subst e1
 obtain ⟨u,rfl,ru⟩:=rv.one
 obtain ⟨as,qa⟩:=hv.reads hK I gh d ru lx
 obtain ⟨bs,qb⟩:=hx.reads hK I gh (.lst n ds) rx (by unfold layD;exact ly)
 unfold toPy at qb
 have hxs:=zcy ds ly
 have hd:=zcF d lx
 obtain ⟨ra,_,er,_⟩:=id hx
 subst er
 obtain rfl:v = Value.ref ra:=rx
 cases qb with
 | @list _ o items n2 _ as2 h1 h2 h3 h4=>
  have ho:s.heap.get? ra = some { cls:=.type "list",dict:=o.dict,data:=.seq items n2,slots:=o.slots }:=by rw [h1,<- h2,<- h3]
  have mp:=SeqAt.readsAll_map _ _ _ hxs h4
  have hsz:items.size = ds.length:=by
   have:=congrArg List.length mp
   rw [zfK,YAd,YAd,YA8] at this
   exact this
  have at_:∀ (m:Nat) (hm:m < items.size) (y:D),ds[m]? = some y->SeqAt.readOf s.heap items[m] = toPy y:=fun m hm y hy=>by
   have:=congrArg (fun l=>l[m]?) mp
   simp only [zfK,YAt,hy,YB6,YBb hm,YCR,YCC] at this
   exact this
  have hjl:j < ds.length:=(YAe.mp hj).1
  refine YCh F.slot_list_index ⟨_,ho,rfl⟩ F.entry_list_index (F.args_list_index_2 _ _) (SeqAt.list_indexAt ra items n2 o.dict o.slots u (fun y=>PyData.eqv (SeqAt.readOf s.heap y) (toPy d)) j (by omega) (by omega) ?_ ?_) ⟨ho,?_,⟨.int j,H,I.tok _,⟨_,rfl⟩,q⟩⟩
  ·show PyData.eqv (SeqAt.readOf s.heap items[j]) (toPy d) = true
   rw [at_ j (by omega) e hj];exact he
  ·intro m hm hmj
   show PyData.eqv (SeqAt.readOf s.heap items[m]) (toPy d) = false
   rw [at_ m hm _ (YAn (by omega))]
   exact hno m hmj _ (YAn (by omega))
  ·exact SeqAt.items_eqAt h4 qa hxs hd (by omega)
def ztk (xs:List D) (y:D) (Q:D->Prop):Prop:=inOk y xs/\xs.length <= 100000/\∃ (j:Nat) (e:D),xs[j]? = some e/\eqB e y = true/\(∀ m,m < j->∀ z,xs[m]? = some z->eqB z y = false)/\Q (.int j)
@[reducible] def zqT (A B:WE):WE:=fun ρ Q=>A ρ fun x=>lstD x fun xs=>B ρ fun y=>ztk xs y Q
theorem zrb {X:Cx} {c:Bk} {o e:Expr} {A B:WE} {apos cpos:Pos} (hA:DE X c o A) (hB:DE X c e B) (hbase:attributeBase o "index" X.env (eval o X.env) = eval o X.env:=by rfl)
  (hfew:((backTo cpos (starEach [e] X.env)).all (fun x=>!x.1) && (backToKw cpos (keywordEach [] X.env)).all (fun x=>x.1.isSome)
   && decide (([e]:List Expr).length + ([]:List Keyword).length + (if ([]:List Keyword).isEmpty then 0 else 1) < 30)) = true:=by rfl)
  (hline:(apos.endLine == cpos.line) = true:=by rfl) (hs:starEach [e] X.env = (false,eval e X.env) :: starEach [] X.env:=by rfl) (hplain:(backTo cpos (starEach [] X.env)).any (·.1) = false:=by rfl) (hK:c.K = X.K:=by rfl) (hu:X.A.units + 64 < cLine:=by decreasing_trivial) :
  DE X c (.Call (.Attribute o "index" apos) [e] [] cpos) (zqT A B) where
 mono:=fun ρ Q Q' k q=>hA.mono ρ _ _ (fun x z=>zs5 (fun t y=>hB.mono ρ _ _ (fun y ⟨h1,h2,j,e,h3,h4,h5,h6⟩=>⟨h1,h2,j,e,h3,h4,h5,k _ h6⟩) y) z) q
 pe:=zan (zn9 YBU PySem.F.slot_list_index PySem.F.type_list_index (zpg hu) hA.pe (zav hB.pe za1 hs) hbase hfew hline hs hplain) fun σ H Q ⟨ρ,G,R,q⟩=>⟨ρ,G,R,hA.mono ρ _ _ (fun x z v H1 G1 t1 e1=>by
  cases x with
  | lst n xs=>
   obtain ⟨a,vs,ea,ha,hn,rv⟩:=id e1
   subst ea
   refine ⟨.inl ⟨rfl,vs,SqL.of (t1.gh _ _ ha)⟩,ρ,G1,R.step t1,hB.mono ρ _ _ (fun y ⟨h1,h2,j,e,h3,h4,h5,h6⟩ v H2 G2 t2 e2=>?_) z⟩
   exact ⟨c,G2,n,xs,y,v,j,e,hK,t2.gh,e1.mono t2.gg,rfl,e2,h1,h2,h3,h4,h5,h6 _ H2 G2 (t1.trans t2) rfl⟩
  | _=>exact z.elim) q⟩
end Fd
set_option maxHeartbeats 400000
namespace L2
open PySem PySem.Spec PyProof.Rows PySem.W
theorem zgZ:entryFor table "proto.unchain" = some Builtin.«proto.unchain»:=entryFor_of_fast (by kernel_rfl)
def NoCtx (h:Heap) (ea:Addr):Prop:=∃ oe vs,h.get? ea = some oe/\oe.data = .fields vs/\vs[2]? = some Value.none
section
variable {prog:Program} {w:World} {A:Around} {E:Value->Shared->Prop} {s:Shared} {ea a:Addr}
theorem zou {α:Type} {Q:α->Shared->Prop} {o:Obj} {vs:Array Value} (hh:A.handled = some (.ref ea)) (hc:NoCtx s.heap ea) (ho:s.heap.get? a = some o) (hd:o.data = .fields vs) (hz:2 < vs.size) (hne:ea ≠ a)
  (h:E (.ref a) { s with heap:=s.heap.update a (Obj.mapFields (·.setIfInBounds 2 (.ref ea))) }):wpAny (model prog w) A (raiseNew (.ref a):Sem α) Q E s:=by
 obtain ⟨oe,us,g1,g2,g3⟩:=hc
 unfold raiseNew
 refine YAa (wpAny_handled ?_)
 rw [hh]
 dsimp only
 rw [if_pos (show (Value.ref ea != Value.ref a) = true by simpa using hne)]
 refine YAa (YAN (wpAny_runValue (codeAny_builtin zgZ ?_)))
 unfold Builtin.«proto.unchain»
 dsimp only
 refine YAa (YAz g1 g2 g3 ?_)
 rw [if_pos (by rfl)]
 refine YAa (YAc (YAc ?_))
 exact YAa (YBv (x:=.ref ea) ho hd hz (wpAny_throw h))
theorem NoCtx.push {h:Heap} {o:Obj} (x:NoCtx h ea):NoCtx (h.push o) ea:=let ⟨oe,vs,g,r⟩:=x;⟨oe,vs,YAb _ g,r⟩
theorem NoCtx.lt {h:Heap} (x:NoCtx h ea):ea < h.objs.size:=let ⟨_,_,g,_⟩:=x;YAg g
theorem zhE {it:Addr} {x left step:Int} {Q:Option Value->Shared->Prop} (hh:A.handled = some (.ref ea)) (hc:NoCtx s.heap ea) (hit:IsRangeIter s.heap it x left step) (hleft:left <= 0) (hQ:∀ h',Heap.ExtBut it s.heap h'->Q none { s with heap:=h' }):wpAny (model prog w) A (pyNext (.ref it)) Q E s:=by
 have hT:s.TypeIs (.ref it) "range_iterator" := ⟨_,hit,rfl⟩
 unfold pyNext
 refine YAa (YBz (YAA (name:=Str.ofString "__next__") hT F.slot_range_iterator_next (YAU F.slot_range_iterator_next hT F.entry_range_iterator_next ?_ (F.args_range_iterator_next_1 _))))
 show wpAny _ _ (field (.ref it) 0 >>= _) _ _ s
 refine YAa (YAz hit rfl (x:=rawInt x) rfl ?_)
 show wpAny _ _ (field (.ref it) 1 >>= _) _ _ s
 refine YAa (YAz hit rfl (x:=rawInt left) rfl ?_)
 show wpAny _ _ (field (.ref it) 2 >>= _) _ _ s
 refine YAa (YAz hit rfl (x:=rawInt step) rfl ?_)
 show wpAny _ _ (if left <= 0 then _ else _) _ _ s
 rw [if_pos hleft]
 refine YAa (YCi (YAa ?_))
 show wpAny _ _ (newExc (.type "StopIteration") [] >>= _) _ _ _
 refine YAa ?_
 unfold newExc newTuple
 refine YAa (YAD ?_ (by size_fits))
 refine YAa (m:=firstArgMember _ _) (wpAny_of_eq (a:=Value.none) (by first | rfl | (simp only [firstArgMember];rfl)) ?_)
 refine YAD ?_ (by size_fits)
 have g:=YAj (s.heap.push { cls:=.type "tuple",data:=.seq ([]:List Value).toArray }) (o:={ cls:=.type "StopIteration",data:=.fields (#[.ref s.heap.objs.size,.none,.none,.none,.bool false,.none] ++ ownMembersOf (.type "StopIteration") []) }) rfl
 refine zou (ea:=ea) hh hc.push.push g rfl (by show 2 < (#[Value.ref _,.none,.none,.none,.bool false,.none] ++ #[]).size;simp) (YAp hc.push.lt) ?_
 refine YAa (YBL (T := "StopIteration") (b:=true) ⟨_,YAK _ g rfl,YB0 _ _⟩ YCt ?_)
 refine YAc (hQ _ fun b o n q=>?_)
 have l:=YAg q
 rw [YAC _ _ (by show (s.heap.push _).objs.size ≠ b;rw [YBh];exact YBr (YB1 l))]
 exact YAb _ (YAb _ q)
end
end L2
set_option maxHeartbeats 400000
namespace L2
open PySem PySem.Spec PyProof.Rows PySem.W
structure Han (X:Cx) (ea:Addr):Prop where
 hd:X.A.handled = some (.ref ea)
 at_:NoCtx X.s₀.heap ea
 un:X.H₀ ea = none
 fs:ea ∉ X.fs
 ex:ea ∉ X.ex
section
variable {X:Cx} {pins:List (Addr × Obj)} {σ:St} {H:Hp} {s:Shared} {ea:Addr} {tg iter elt a:Expr} {Nc:List Str} {scope:Scope} {sub:List (Option Nat)}
theorem Han.now (h:Han X ea) (I:Inv X pins σ H s):NoCtx s.heap ea:=by
 obtain ⟨oe,vs,g,r⟩:=h.at_
 exact ⟨oe,vs,I.base.keep ea oe g h.un h.fs h.ex,r⟩
theorem Han.turn {it:Addr} {lo:Int} {n:Nat} (h:Han X ea):zkg X tg (Itr lo n) [it] it (fun i h=>IsRangeIter h it (lo + (i:Nat) * 1) ((n:Int) - (i:Nat)) 1):=by
 intro i s σ H I hf st
 obtain ⟨f0,f1,f2,f3,f4,f5⟩:=hf it (by simp)
 refine ⟨fun go E=>?_,fun stop E=>?_⟩
 ·have go:i < n:=go
  refine wpAny_pyNext_range_item st (by omega) fun h' st' sb=>?_
  have I1:Inv X [] σ H { s with heap:=h',toks:=s.toks + 1 }:=I.turned (fun b o hb e=>(sb.2 b hb).trans e) f0 f1 f3 f4 f5
  have st2:IsRangeIter h' it (lo + ((i + 1:Nat):Int) * 1) ((n:Int) - ((i + 1:Nat):Int)) 1:=by
   have e1:lo + ((i + 1:Nat):Int) * 1 = lo + (i:Int) * 1 + 1:=by omega
   have e2:(n:Int) - ((i + 1:Nat):Int) = (n:Int) - (i:Int) - 1:=by omega
   rw [e1,e2];exact st'
  refine ⟨_,rfl,zkI (s:={ s with heap:=h',toks:=s.toks + 1 }) (n := "range_iterator") st2 rfl rfl (by decide) ⟨.int (lo + i),H,I1,⟨s.toks,?_⟩,⟨rfl,rfl⟩,st2,fun b hb=>(hf b hb).1⟩⟩
  rw [Int.mul_one]
 ·have stop:n <= i:=stop
  exact zhE h.hd (h.now I) st (by omega) fun h' eb=>⟨rfl,I.turned (t':=s.toks) (fun b o hb e=>eb b o hb e) f0 f1 f3 f4 f5⟩
theorem Han.comp {s0:Shared} {cl:List (Str × Addr)} {it l:Addr} {o:HO} (h:Han X ea) (I:Inv X pins σ H s) (hk:∀ b o,s.heap.get? b = some o->s0.heap.get? b = some o) (hl:s.heap.objs.size <= l) (hf:FpOk X pins H it):Han (zaz X Nc scope cl s0.heap.objs.size s0 (upd H l o) [it]) ea:=by
 obtain ⟨oe,vs,g,r⟩:=h.now I
 have lt:ea < X.s₀.heap.objs.size:=h.at_.lt
 refine ⟨h.hd,⟨oe,vs,hk _ _ g,r⟩,?_,fun z=>?_,fun z=>?_⟩
 ·show upd H l o ea = none
  rw [upd_ne (YAp (YAl (YAg g) hl))]
  obtain ⟨oe',_,g',_⟩:=h.at_
  exact I.base.free ea oe' g' h.un h.ex
 ·rcases YAr.mp (I.stkSub ea z) with e | e
  ·exact absurd lt (by have:=I.ok.above;rw [e];exact Nat.not_lt.mpr this)
  ·exact h.fs e
 ·have e:ea = it:=YAB.mp z
  subst e
  rcases hf.2.2.2.1 with z | z
  ·exact h.ex z
  ·exact absurd lt (Nat.not_lt.mpr z)
theorem Han.pit {ta:TA} {p pos:Pos} (h:Han X ea) (hg:Gl X "range") (hm:X.mg "range" = none) (ha:PA X [a] ta) (hs:starEach [a] X.env = [(false,eval a X.env)]:=by rfl):PIT X Nc scope tg (.Call (.Name "range" p) [a] [] pos) (zrs ta):=by
 intro pins s σ H R I q
 refine Call_ (zgo I hg hm boot_range (YBj (thn (ha pos pins s σ H _ I q) fun us s1 ⟨vs,H1,I1,r1,q1⟩=>?_) hs rfl))
 obtain ⟨j,e,q1,q2,q⟩:=q1
 subst e
 cases r1 with
 | cons r rr=>
  cases rr
  obtain ⟨t,rfl⟩:=r
  refine call_range_1 ?_
  refine wpAny_pyIter_range (IsRange.new ..) (small_one (by decide) (by decide) q1 q2) ?_
  generalize ho:({ cls:=.type "range",data:=.fields #[.int 0 s1.toks,.int j t,.int 1 (s1.toks + 1)] }:Obj) = ob
  have I2:Inv X pins σ H1 { s1 with heap:=s1.heap.push ob,toks:=s1.toks + 1 + 1 }:=I1.kept fun b o e=>YAb _ e
  generalize hs2:({ s1 with heap:=s1.heap.push ob,toks:=s1.toks + 1 + 1 }:Shared) = s2 at I2 ⊢
  generalize hit:({ cls:=.type "range_iterator",data:=.fields #[rawInt 0,rawInt (Builtin.Range.rangeSize 0 j 1),rawInt 1] }:Obj) = io
  have I3:Inv X pins σ H1 { s2 with heap:=s2.heap.push io }:=I2.kept (t':=s2.toks) fun b o e=>YAb _ e
  have fp:=I2.fpOk (H':=H1) (YAk _) (I2.hok.fresh (YAk _))
  refine ⟨s2.heap.objs.size,[s2.heap.objs.size],_,Itr 0 j.toNat,H1,rfl,I3,zgk _ 0 j.toNat,?_,fun b hb=>by rw [YAB.mp hb];exact fp,q,fun cl s0 hk=>(h.comp (pins:=pins) I3 hk (YAk _) fp).turn⟩
  show IsRangeIter _ _ (0 + ((0:Nat):Int) * 1) (((j.toNat:Nat):Int) - ((0:Nat):Int)) 1
  have e1:(0:Int) + ((0:Nat):Int) * 1 = 0:=by simp
  have e2:((j.toNat:Nat):Int) - ((0:Nat):Int) = Builtin.Range.rangeSize 0 j 1:=by rw [rangeSize_one];split <;> omega
  rw [e1,e2]
  exact hit ▸ YAj _ rfl
end
end L2
set_option maxHeartbeats 400000
namespace L2
open PySem PySem.Spec PyProof.Rows PySem.W
abbrev _root_.PySem.Around.calmed (A:Around):Around:={ A with handled:=none }
abbrev cxIn (CX:CXT) (P:Program) (w:World) (K:PySem.W.Frag) (mg:Str->Option Value) (base:Heap) (N:List Str) (qual:Str) (scope:Scope) (f:Addr) (cd:Value) (A:Around) (outer:List Env) (s:Shared) (H:Hp) (E:XK) (ea:Addr) (oe:Obj):Cx:=
 { cxOf CX P w K mg base N qual scope f cd A outer s H E with calm:=false,pn:=[(ea,oe)] }
section
variable {CX:CXT} {P:Program} {w:World} {K:PySem.W.Frag} {mg:Str->Option Value} {base:Heap} {N ps:List Str} {name qual:Str} {params:Arguments} {body:List Stmt} {scope:Scope} {f ea:Addr} {oe:Obj} {cd dV kV doc pm ct oc:Value} {an od:Option Addr} {osl:Array (Option Value)} {A:Around} {outer:List Env} {s s1:Shared} {H:Hp} {Q:VK} {E:XK} {us:List Value} {vs:List V} {fs:Array Value} {k:Nat}
theorem zr2 (hh:A.handled = some (.ref ea)) (ho:s.heap.get? ea = some oe) (hd:oe.data = .fields fs) (h2:fs[2]? = some Value.none) (hH:H ea = none) (hf:ea ∉ frs outer):Han (cxIn CX P w K mg base N qual scope f cd A outer s H E ea oe) ea:=
 ⟨hh,⟨oe,fs,ho,hd,h2⟩,hH,hf,fun z=>nomatch z⟩
theorem zre (I:Inv (cxOf CX P w K mg base N qual scope f cd A.calmed outer s H E) [] (zcV N vs) H s1) (hk:∀ b o,s.heap.get? b = some o->s1.heap.get? b = some o) (ho:s.heap.get? ea = some oe) (hd:oe.data = .fields fs) (hH:H ea = none) (hf:ea ∉ frs outer):Inv (cxIn CX P w K mg base N qual scope f cd A outer s H E ea oe) [] (zcV N vs) H s1:=
 ⟨⟨I.ok.mod,I.ok.kind,I.ok.glob,I.ok.blt,I.ok.above,I.ok.inj,I.ok.has,I.ok.cab,(fun z=>by cases z),I.ok.frames,I.ok.stk,I.ok.exf,I.ok.bs,I.ok.bsz,I.ok.noex,I.ok.exfs,I.ok.funs,I.ok.frf⟩,I.os,I.bare,I.base,I.loc,I.cell,I.free,I.freeC,fun p hp=>by
  have e:p = (ea,oe):=YAB.mp hp
  subst e
  exact ⟨hk _ _ ho,hH,YAp (YAg ho),hf,fun v z=>by rw [hd] at z;cases z⟩,I.hok,I.len⟩
theorem ztl (lk:K.lookup f = some ⟨oc,od,.func (PySem.W.fnOf name qual params body scope dV kV doc pm an cd ct),osl⟩) (hcd:PySem.W.codeIn K cd qual = true) (S:FnScope N ps scope) (hr:Room (k + 1) A.calmed)
  (ho:s.heap.get? ea = some oe) (hd:oe.data = .fields fs) (hH:H ea = none) (hf:ea ∉ frs outer) (e0:Env0 P w K mg base A outer s H) {args:Args} (hb:BindsTo s (PySem.W.fnOf name qual params body scope dV kV doc pm an cd ct) args (ps.zip us)) (r:Vals vs us) (hl:vs.length = ps.length)
  {t:TS} (ht:PSs (cxIn CX P w K mg base N qual scope f cd A outer s H E ea oe) body t) (hq:t { nx:=fun _ H'=>Q .non H',rt:=Q } (zcV N vs) H):codeAny (model P w) A (.call (.ref f) args) (CR CX outer P w H s Q E) s:=by
 have KX:K.In s.heap:=e0.mod.kin.keeps fun b o e=>(e0.bs b o e).1
 have lim:s.heap.NoLimit:=e0.mod.nolimit.keeps fun b o e=>(e0.bs b o e).1
 have hkind:∀ y ∈ ps.zip us,scope.names.lookup y.1 = some .local\/(scope.names.lookup y.1 = some .cell/\((cellsFrom (s.heap.objs.size + 1) scope.names []).lookup y.1).isSome = true):=fun y hy=>
  (S.par y.1 (YCl hy).1).elim .inl fun q=>.inr ⟨q,YBW _ _ _ (.inl q)⟩
 refine codeAny_call_function (show A.depth < _ from hr.depth) (KX _ _ lk) rfl S.co S.gen rfl (PySem.W.codeRec_of KX hcd) (hb _ _ _ _ ?_)
 refine wpAny_newFunctionEnv_cells S.kind hkind fun env he s1 x=>?_
 subst he
 refine ⟨lim.keeps x.toInCall.keep,codeAny_func ?_⟩
 have I0:Inv (cxOf CX P w K mg base N qual scope f cd A.calmed outer s H E) [] (zcV N vs) H s1:=zhS S rfl ⟨e0.frames,e0.mod,e0.bs,e0.bsz,e0.funs,e0.frf,e0.hok,e0.bare⟩ hl r x
 have I:=zre (A:=A) I0 x.toInCall.keep ho hd hH hf
 refine YAL (ht [] s1 (zcV N vs) H _ I hq) (fun fl s' hs=>?_) fun e s' hs=>hs
 cases fl with
 | ret u=>obtain ⟨v,σ',H',J,rv,q⟩:=hs;exact ⟨v,H',J.os,J.bare,J.base,J.hok,rv,q⟩
 | next=>obtain ⟨σ',H',J,q⟩:=hs;exact ⟨.non,H',J.os,J.bare,J.base,J.hok,rfl,q⟩
 | brk=>obtain ⟨_,_,_,q⟩:=hs;exact False.elim q
 | cont=>obtain ⟨_,_,_,q⟩:=hs;exact False.elim q
end
end L2
set_option maxHeartbeats 400000
namespace L2
open PySem PySem.Spec PyProof.Rows PySem.W
variable {X:Cx}
theorem znz {ea C:Addr} {oe:Obj} {v:V} {u:Value} {b:Bool} (hp:(ea,oe) ∈ X.pn) (hc:oe.cls = .ref C) (kC:ExK X.K C) (hu:∀ u',RelV v u'->u' = u) (he:kitOne X.K (.ref C) u = some b):CallR X (.builtin "isinstance") (fun xs H Q=>xs = [.ref ea,v]/\Q (.bl b) H):=by
 intro pins s σ H xs us Q I r h
 obtain ⟨rfl,q⟩:=h
 obtain ⟨u1,u2,rfl,r1,r2⟩:=zqb r
 cases r1
 cases hu _ r2
 obtain ⟨g,_⟩:=I.pin (ea,oe) (YCc _ hp)
 exact zpb kC I.kIn ⟨oe,g,hc⟩ he fun tk=>⟨.bl b,H,I.tok tk,rfl,q⟩
theorem zpP:bootBuiltins "ValueError" = some (.type "ValueError"):=by decide +kernel
end L2
namespace Fd
open PySem L2
section
variable {X:Cx} {c:Bk} {e a elt tg:Expr} {ifs:List Expr} {A E:WE} {C:WT} {ea Ca:Addr} {oe:Obj} {b:Bool} {x:Str} {p p' pos:Pos} {scope:Scope} {Nc:List Str} {sub:List (Option Nat)}
@[reducible] def isEW (A:WE) (ea:Addr) (b:Bool):WE:=fun ρ Q=>A ρ fun d=>d = .obj ea/\Q (.bl b)
theorem zrK {v:V} {u:Value} (hA:DE X c e A) (hp:(ea,oe) ∈ X.pn) (hc:oe.cls = .ref Ca) (kC:ExK X.K Ca) (hv:PE X (.Name x p') (tC v)) (hu:∀ u',RelV v u'->u' = u) (he:PySem.W.kitOne X.K (.ref Ca) u = some b) (hm:X.mg "isinstance" = none) (hg:Gl X "isinstance" := by rfl)
  (hs:starEach [e,.Name x p'] X.env = (false,eval e X.env) :: starEach [.Name x p'] X.env:=by rfl):DE X c (.Call (.Name "isinstance" p) [e,.Name x p'] [] pos) (isEW A ea b) where
 mono:=fun ρ Q Q' k q=>hA.mono ρ _ _ (fun d z=>⟨z.1,k _ z.2⟩) q
 pe:=zan (zdW (znz hp hc kC hu he) hg hm PyProof.Rows.boot_isinstance (zav hA.pe (zav hv za1) hs) (by decide) (by decide) hs rfl) fun σ H Q ⟨ρ,G,r,q⟩=>⟨ρ,G,r,hA.mono ρ _ _ (fun d z w H' G' t er=>by
  obtain ⟨rfl,z⟩:=z
  cases (show w = V.ref ea from er)
  exact ⟨rfl,z (.bl b) H' G' t rfl⟩) q⟩
theorem zpv {iter:Expr} {wi wi':TI} (h:PIT X Nc scope tg iter wi) (k:∀ σ H R,wi' σ H R->wi σ H R):PIT X Nc scope tg iter wi':=fun pins s σ H R I q=>h pins s σ H R I (k σ H R q)
theorem zk7 (t:Tg) (h:Han X ea) (hA:DE X c a A) (hg:∀ {cl L s0 H0 ex},PG (zaz X Nc scope cl L s0 H0 ex) tg (gOf c.K t)) (hC:∀ {cl L s0 H0 ex},DIf (zaz X Nc scope cl L s0 H0 ex) c ifs C) (hE:∀ {cl L s0 H0 ex},DE (zaz X Nc scope cl L s0 H0 ex) c elt E) (hm:X.mg "range" = none)
  (hS:zgz X.N X.env.scope scope Nc sub = true:=by kernel_rfl) (hok:okT sub t = true:=by decide +kernel) (hs:∀ y,foldedSetIterable (.Call (.Name "range" p) [a] [] p') X.env y = pure y:=by intro _;rfl) (hr:Gl X "range" := by rfl) (hs1:starEach [a] X.env = [(false,eval a X.env)]:=by rfl) :
  DF X c (.ListComp elt [⟨tg,.Call (.Name "range" p) [a] [] p',ifs,0⟩] scope pos) (zay sub (zfU A) t C E):=
 have mC:=(@hC [] 0 X.s₀ (fun _=>none) []).mono
 have mE:=(@hE [] 0 X.s₀ (fun _=>none) []).mono
 have mI:zeQ (zfU A):=fun ρ Q Q' k q=>hA.mono ρ _ _ (fun d z=>by cases d <;> first | exact ⟨z.1,k _ z.2⟩ | exact z) q
 have pit:PIT X Nc scope tg (.Call (.Name "range" p) [a] [] p') (tDI c (zfU A)):=zpv (h.pit hr hm (zav hA.pe za1 hs1) hs1) fun σ H R ⟨ρ,G,r,q⟩=>⟨ρ,G,r,hA.mono ρ _ _ (fun d z v H' G' t e=>by
  cases d with
  | int n=>exact ⟨n,by cases e;rfl,z.1.1,z.1.2,z.2 _ H' G' t (it_rng 0 _)⟩
  | _=>exact z.elim) q⟩
 ⟨zdn mI mC mE,zan (zhy (CompScope.of hS) pit (fun cl L s0 H0 ex=>@hg cl L s0 H0 ex) (zmJ c.K sub t hok) (zkK c.K t) (fun cl L s0 H0 ex=>(@hC cl L s0 H0 ex).pf) (fun cl L s0 H0 ex=>(@hE cl L s0 H0 ex).pe) hs) (zeg mI mC mE)⟩
end
structure InOk (P:Program) (w:World) (K:PySem.W.Frag) (mg:Str->Option Value) (base:Heap) (k:Nat) (x:Str) (NS:List Str) (W:Str->Addr->Fn):Prop where
 ex:∃ f fd y,mg x = some (.ref f)/\PySem.W.keepIn K (.ref f) = true/\Binds K fd [y] []/\∀ (A:Around) (outer:List PySem.Env) (s:Shared) (H:Hp) (nm:Str) (ea C:Addr) (oe:Obj) (fs:Array Value) (Q:VK) (β:Addr) (G:Hp),nm ∈ NS->mg nm = some (.ref C)->Room k A.calmed->A.handled = some (.ref ea)->s.heap.get? ea = some oe->oe.cls = .ref C->oe.data = .fields fs->fs[2]? = some Value.none->H ea = none->ea ∉ frs outer ->
  Env0 P w K mg base A outer s H->Same G H->BoxD β H G->up (W nm ea) [.obj ea] (fun d=>∀ v H' G',Stp β H G H' G'->Rep ⟨K,β,H,G,True⟩ G' d v->Q v H')->codeAny (model P w) A (.call (.ref f) ⟨[.ref ea],[]⟩) (CR CX0 outer P w H s Q (fun _ _ _=>False)) s
theorem zsC {P:Program} {w:World} {K:PySem.W.Frag} {mg:Str->Option Value} {base:Heap} {x qual y:Str} {st:Stmt} {f:Addr} {fd:FuncData} {N NS:List Str} {k:Nat} {B:Str->Addr->WS} (F:Fun K x qual st f fd) (hm:mg x = some (.ref f)) (hb:Binds K fd [y] [])
  (hB:∀ {cdv:Value} {A:Around} {outer:List PySem.Env} {s:Shared} {H:Hp} {β:Addr} {G:Hp} (nm:Str) (ea C:Addr) (oe:Obj),N.Nodup->nm ∈ NS->mg nm = some (.ref C)->oe.cls = .ref C->Han (cxIn CX0 P w K mg base N qual (zaj st) f cdv A outer s H (fun _ _ _=>False) ea oe) ea ->
   DSs (cxIn CX0 P w K mg base N qual (zaj st) f cdv A outer s H (fun _ _ _=>False) ea oe) ⟨K,β,H,G,True⟩ (zaX st) (B nm ea)) (S:FnScope N [y] (zaj st):=by exact ⟨rfl,rfl,rfl,by decide +kernel,rfl,by decide +kernel,by decide +kernel⟩):InOk P w K mg base (k + 1) x NS (fun nm ea=>fnW N.length (B nm ea)):=by
 obtain ⟨oc,od,kV,doc,pm,an,cdv,ct,osl,e,lk,hcd⟩:=F.ex
 refine ⟨f,fd,y,hm,F.kp,hb,fun A outer s H nm ea C oe fs Q β G hn hmn hr hh ho hc hd h2 hH hf e0 gh bx ⟨P',q,hP⟩=>?_⟩
 have h:=@hB cdv A outer s H β G nm ea C oe S.nd hn hmn hc (zr2 hh ho hd h2 hH hf)
 subst e
 have KX:K.In s.heap:=e0.mod.kin.keeps fun b o e=>(e0.bs b o e).1
 refine ztl (vs:=[.ref ea]) lk hcd S hr ho hd hH hf e0 (hb s [.ref ea] KX rfl) (.cons rfl .nil) rfl h.pss ⟨zaw N.length [.obj ea],G,zcN gh bx ⟨.ref ea,[],rfl,rfl,rfl⟩,h.mono { nx:=fun _=>P' .non,rt:=P',bk:=fun _=>False,ct:=fun _=>False } _ _ ⟨fun ρ z σ H' G' r s'=>hP _ z .non H' G' r.stp rfl,fun d z v H' G' t e=>hP _ z v H' G' t e,fun ρ z=>z.elim,fun ρ z=>z.elim⟩ q⟩
end Fd
set_option maxHeartbeats 400000
namespace L2
open PySem PySem.Spec PyProof.Rows PySem.W
section
variable {X:Cx} {CX:CXT} {k:Nat} {f C:Addr} {fd:FuncData} {ps:List Str} {sp:Sp} {E:XK} {m:Str} {p pos apos:Pos} {e o:Expr} {es:List Expr} {ta:TE} {t:TA} {pins:List (Addr × Obj)} {σ:St} {H:Hp} {s:Shared} {Q:VK}
theorem zpZ {pl:Sem Bool} (he:PE X.nox o ta) (c:Cls X.K C) (hm:Meth X.K C m f) (F:FnOk X.prog X.w X.K X.mg X.base CX k f fd ps sp) (hr:Room k X.A) (hb:Binds X.K fd ps []) (ha:PA X.nox (e :: es) t) (I:Inv X pins σ H s) (h:zkO C m sp [] E ta t σ H Q)
  (hst:starEach (e :: es) X.env = (false,eval e X.env) :: starEach es X.env:=by rfl) (hpl:(backTo pos (starEach es X.env)).any (·.1) = false:=by rfl)
  (ht:eval (.Call (.Attribute o m apos) (e :: es) [] pos) X.env = (do
   let ov <- eval o X.env
   standAt apos.atName
   let (f,first) <- holding [ov] (getMethod ov m pl)
   callWith pos f first (backTo pos (starEach (e :: es) X.env)) (backToKw pos (keywordEach [] X.env))):=by rfl) :
  wpAny (model X.prog X.w) X.A (eval (.Call (.Attribute o m apos) (e :: es) [] pos) X.env) (EP X pins σ Q) (fun x s'=>∃ H1 s1,Inv X pins σ H1 s1/\CX X.stack H1 s1 E x s') s:=by
 refine YB5 (pl:=pl) (YAL (he pins s σ H _ (I.wish _) h) (fun u s1 ⟨x,H1,I1,rx,a,dx,fs,ex,ea,l,q⟩=>?_) fun _ _ z=>z.elim) ht
 subst ex
 obtain rfl:u = Value.ref a:=rx
 refine zeW I1.unwish ea c hm l ?_
 refine YBB (first:=[.ref a]) (h₀:=X.base) I.ok.mod.kin hm.kp (YAL (ha pos pins s1 σ H1 _ I1 q) (fun us s2 ⟨vs,H2,I2,r,q2⟩=>⟨I2.kIn,?_⟩) fun _ _ z=>z.elim) hst hpl
 have I2:=I2.unwish
 have r2:Vals (.ref a :: (vs ++ [])) ((.ref a :: us) ++ []):=.cons rfl (r.append .nil)
 have hl:((Value.ref a :: us) ++ []).length = ps.length:=by rw [<- r2.length];exact F.len _ _ _ _ q2
 refine YCx (YB4 (F.run X.A X.stack s2 H2 ⟨.ref a :: us,[]⟩ ((Value.ref a :: us) ++ []) (.ref a :: (vs ++ [])) Q E hr I2.env0 (hb s2 (.ref a :: us) I2.kIn hl) r2 q2) fun r s' hq=>?_)
 cases r with
 | error e=>exact ⟨H2,s2,I2,hq⟩
 | ok fl=>
  cases fl with
  | ret u=>exact I2.after hq
  | next=>exact False.elim hq
  | brk=>exact False.elim hq
  | cont=>exact False.elim hq
end
end L2
namespace Fd
open PySem L2
section
variable {X:Cx} {b:Bo} {e:Expr} {es:List Expr} {pos p p1 p2 np q1 q2 fpos apos hpos cpos spos bpos:Pos}
@[reducible] def znM (i ie ib:Nat) (B:(Str->Sto->Prop)->WOE) (kd:Str->Option D):WF:=fun E S ρ=>∃ Y,B Y ρ S (fun d S'=>E.nx S' (ρ.set i (.val d)))/\∀ nm S',Y nm S'->∃ d,kd nm = some d/\E.nx S' ((ρ.set ie .un).set ib (.val d))
theorem zqf (i ie ib:Nat) {io k k2 m:Nat} {C:Addr} {mt x o n y xc fx:Str} {ps:List Str} {F:FnF} {R:WOA} {pl:Sem Bool} {kd:Str->Option D} {Dc:Addr} {NS:List Str} {W:Str->Addr->Fn} (T:Met X.prog X.w X.K X.mg X.base (CXN X.prog X.w) C mt k ps (spO X.K X.mg m F)) (L:InOk X.prog X.w X.K X.mg X.base k2 fx NS W)
  (hv:∀ S M G1,DE X.nox (reB b S M G1) (.Name o p) (vW io)) (hR:OA X.nox b (e :: es) R) (hmD:X.mg xc = some (.ref Dc))
  (hkd:∀ nm d,kd nm = some d->nm ∈ NS/\(∀ C,X.mg nm = some (.ref C)->PySem.W.exmOne X.K (.ref C) (.ref Dc) = some true)/\∀ ea,up (W nm ea) [.obj ea] (fun d'=>d' = d))
  (hi:X.N[i]? = some x:=by rfl) (hie:X.N[ie]? = some n:=by rfl) (hib:X.N[ib]? = some y:=by rfl) (hx:X.env.scope.names.lookup x = some .local:=by rfl) (hn:X.env.scope.names.lookup n = some .local:=by rfl) (hy:X.env.scope.names.lookup y = some .local:=by rfl) (hne:ie ≠ ib:=by decide) (hN:X.N.Nodup:=by decreasing_trivial) (hr:Room k X.A:=by decreasing_trivial) (hr2:Room k2 X.A:=by decreasing_trivial)
  (hst:X.stack = X.env :: X.outer:=by rfl) (hfr:X.env.frame = some X.env.locals:=by rfl) (hK:b.K = X.K:=by rfl) (hg:Gl X fx:=by rfl) (hgc:Gl X xc:=by rfl) (hdb:(fx == ("__debug__" : Str)) = false:=by decide) (hdc:(xc == ("__debug__" : Str)) = false:=by decide) (hdn:(n == ("__debug__" : Str)) = false:=by decide) (hdk:(n == ("__classdict__" : Str)) = false:=by decide)
  (hs1:swapsWith (.Call (.Attribute (.Name o p) mt apos) (e :: es) [] cpos) (some (.Name x p1)) spos.line X.env = pure false:=by rfl) (hs2:swapsWith (.Call (.Name fx q1) [.Name n q2] [] fpos) (some (.Name y p2)) bpos.line X.env = pure false:=by rfl)
  (he:starEach (e :: es) X.env = (false,eval e X.env) :: starEach es X.env:=by rfl) (hpl:(backTo cpos (starEach es X.env)).any (·.1) = false:=by rfl) (he2:starEach [.Name n q2] X.env = (false,eval (.Name n q2) X.env) :: starEach [] X.env:=by rfl)
  (ht:eval (.Call (.Attribute (.Name o p) mt apos) (e :: es) [] cpos) X.env = (do
   let ov <- eval (.Name o p) X.env
   standAt apos.atName
   let (f,first) <- holding [ov] (getMethod ov mt pl)
   callWith cpos f first (backTo cpos (starEach (e :: es) X.env)) (backToKw cpos (keywordEach [] X.env))):=by rfl) :
  OS X b (.Try [.Assign [.Name x p1] (.Call (.Attribute (.Name o p) mt apos) (e :: es) [] cpos) spos] [.ExceptHandler (some (.Name xc np)) (some n) [.Assign [.Name y p2] (.Call (.Name fx q1) [.Name n q2] [] fpos) bpos] hpos] [] [] pos) (znM i ie ib (fun Y=>zeh io C mt m F Y R) kd) where
 mono:=fun E E' S ρ l ⟨Y,q,h⟩=>⟨Y,zeu hR.mono ρ S _ _ (fun d S' z=>l.nx S' _ z) q,fun nm S' z=>let ⟨d,h1,h2⟩:=h nm S' z;⟨d,h1,l.nx S' _ h2⟩⟩
 ps:=by
  intro pins s σ H Ds I ⟨ρ,G,S,M,r,Y,q,hY⟩
  obtain ⟨f,fd,FO,hc,hm,hb⟩:=T.ex
  have h:=zgy (X:=X) (y:=Y) (x:=o) (Q:=fun v H'=>∃ d S' G' M',RepF b S' M' ρ σ H' G' d v/\Same G G'/\Dm M M'/\(zeL b G M Ds).nx S' (ρ.set i (.val d))) (E:=fun v _ H'=>∃ nm C S' M' G',v = .ref C/\Y nm S'/\X.mg nm = some (.ref C)/\RelF b S' M' ρ σ H' G'/\Same G G'/\Dm M M') hK hR.mono r
   (zeu hR.mono ρ S _ _ (fun d S' z v H' G' M' rp sg dm=>⟨d,S',G',M',rp,sg,dm,z⟩) q) (fun nm C S' M' H' G' w hc r2 sg dm=>⟨nm,C,S',M',G',rfl,w,hc,r2,sg,dm⟩) (fun _ _ _ z=>z)
  refine wpAny_Try_except (YB8 (YCw (YAL (zpZ (ziI (A:=fun _=>vW io) hv).pe hc hm FO hr hb hR.pa I h he hpl ht) (fun u s1 ⟨v,H1,I1,rv,d,S',G',M',⟨G1,o1,r1,rp⟩,sg,dm,nx⟩=>?_) fun x s' ⟨H1,s1,I1,ea,Cc,H2,ee,N,nm,Cc',S',M',G',e1,yy,hmn,r2,sg,dm⟩=>?_) hs1))
  ·exact zem I1 hN hi (.inl hx) rv (fun s3 I3=>YBC (YBC ⟨_,H1,I3,nx _ _ G' M' ⟨G1,o1,r1.put rp⟩ sg dm⟩)) (.inr hx)
  ·subst ee
   cases e1
   obtain ⟨d,hd,nx⟩:=hY nm S' yy
   obtain ⟨hns,hx1,hW⟩:=hkd nm d hd
   have hx1:=hx1 Cc hmn
   refine zsB I1 hst hfr N hgc hmD hx1 hN hie hn (fun oe s2 hoc hcx I2=>?_) hdc
   obtain ⟨fs,hfs,h2⟩:=hcx
   obtain ⟨f2,fd2,y2,hmf,hk2,hb2,run⟩:=L.ex
   obtain ⟨G1,o1,r1⟩:=r2
   have hσ:ie < σ.length:=by rw [I1.len];exact (YAe.mp hie).1
   refine YB8 (YCw (YAX (zdh I2 hg hmf ?_ hdb)) hs2)
   refine YBB (h₀:=X.base) I.ok.mod.kin hk2 (thn (zav (X:=X.sup ea oe fun _ _=>False) (zbe hie (.inl hn) hdn hdk) za1 he2 fpos pins s2 (σ.set ie (some (.ref ea))) H2 (fun vs H3=>vs = [.ref ea]/\H2 = H3) I2 ⟨.ref ea,YAh hσ,rfl,rfl⟩) fun us s3 ⟨vs,H3,I3,r3,e3,e4⟩=>⟨I3.kIn,?_⟩) he2 rfl
   subst e3
   cases e4
   obtain ⟨u1,e5,r5⟩:∃ u,us = [u]/\RelV (.ref ea) u:=by
    cases r3 with
    | cons a b=>cases b;exact ⟨_,rfl,a⟩
   cases r5
   subst e5
   obtain ⟨g1,g2,g3,g4,_⟩:=I3.pin (ea,oe) YAf
   refine YCx (YB4 (run (X.A.mark (some (.ref ea))) X.stack s3 H2 nm ea Cc oe fs (fun v H4=>∃ G3,Stp b.β H2 G' H4 G3/\Rep ⟨X.K,b.β,H2,G',True⟩ G3 d v) b.β G' hns hmn ⟨rfl,hr2.dp,hr2.un⟩ rfl g1 hoc hfs h2 g2 (fun z=>(YAr.mp (I3.stkSub ea z)).elim g3 g4) I3.env0 r1.gh r1.bx (zbt _ _ (fun d'=>d' = d) _ (fun d' z v H' G'' t rp=>⟨G'',t,z ▸ rp⟩) (hW ea))) fun rs s' hq=>?_)
   cases rs with
   | error er=>exact False.elim hq
   | ok fl=>
    cases fl with
    | next=>exact False.elim hq
    | brk=>exact False.elim hq
    | cont=>exact False.elim hq
    | ret u=>
     obtain ⟨v,H4,I4,rv,G3,t,rp⟩:=I3.after hq
     refine zem (X:=X.sup ea oe fun _ _=>False) I4 hN hib (.inl hy) rv (fun s5 I5=>YBC (zpm (I5.unsup I.ok) hN hie hn fun s6 I6=>⟨_,_,I6,?_⟩)) (.inr hy)
     rw [List.set_comm _ _ hne.symm,List.set_set]
     exact nx _ _ G3 M' ⟨G1,o1,((r1.step t).unput).put (Rep.back (c':=⟨X.K,b.β,H2,G',True⟩) (c:=reB b S' M' G1) hK.symm rfl (fun a h=>r1.new0 h) rp)⟩ (sg.trans t.gg) dm
end
end Fd
set_option maxHeartbeats 400000
namespace Fd
open PySem L2
structure ErrF (K:PySem.W.Frag) (mg:Str->Option Value) (xc:Str) (NT NS:List Str):Prop where
 cl:∀ x ∈ NT,∃ D,mg x = some (.ref D)/\∀ nm ∈ NS,∀ C,mg nm = some (.ref C)->PySem.W.kitOne K (.ref C) (.ref D) = some (decide (nm = x))
 ve:∀ nm ∈ NS,∀ C,mg nm = some (.ref C)->ExK K C/\PySem.W.kitOne K (.ref C) (.type "ValueError") = some true
 top:∃ D,mg xc = some (.ref D)/\∀ nm ∈ NS,∀ C,mg nm = some (.ref C)->PySem.W.exmOne K (.ref C) (.ref D) = some true
theorem zrg {K:PySem.W.Frag} {mg:Str->Option Value} {xc:Str} {fe:Addr} {NT NS:List Str} (ts ns:List (Str × Addr)) (e1:NT = ts.map (·.1)) (e2:NS = ns.map (·.1)) (m1:∀ p ∈ ts,mg p.1 = some (.ref p.2)) (m2:∀ p ∈ ns,mg p.1 = some (.ref p.2)) (m3:mg xc = some (.ref fe))
  (h1:∀ q ∈ ts,∀ p ∈ ns,PySem.W.kitOne K (.ref p.2) (.ref q.2) = some (decide (p.1 = q.1))) (h2:∀ p ∈ ns,ExK K p.2/\PySem.W.kitOne K (.ref p.2) (.type "ValueError") = some true/\PySem.W.exmOne K (.ref p.2) (.ref fe) = some true):ErrF K mg xc NT NS:=by
 subst e1 e2
 have at_:∀ nm ∈ ns.map (·.1),∀ C,mg nm = some (.ref C)->∃ p ∈ ns,p.1 = nm/\p.2 = C:=fun nm hn C hm=>by
  obtain ⟨p,hp,rfl⟩:=YBc.mp hn
  have:=(m2 p hp).symm.trans hm
  cases this
  exact ⟨p,hp,rfl,rfl⟩
 refine ⟨fun x hx=>?_,fun nm hn C hm=>?_,fe,m3,fun nm hn C hm=>?_⟩
 ·obtain ⟨q,hq,rfl⟩:=YBc.mp hx
  refine ⟨q.2,m1 q hq,fun nm hn C hm=>?_⟩
  obtain ⟨p,hp,rfl,rfl⟩:=at_ nm hn C hm
  exact h1 q hq p hp
 ·obtain ⟨p,hp,rfl,rfl⟩:=at_ nm hn C hm
  exact ⟨(h2 p hp).1,(h2 p hp).2.1⟩
 ·obtain ⟨p,hp,rfl,rfl⟩:=at_ nm hn C hm
  exact (h2 p hp).2.2
section
variable {X:Cx} {c:Bk} {e:Expr} {A:WE} {ea C:Addr} {oe:Obj} {nm x xc:Str} {NT NS:List Str} {p p' pos:Pos}
theorem zc5 (xk:ErrF X.K X.mg xc NT NS) (hA:DE X c e A) (hp:(ea,oe) ∈ X.pn) (hc:oe.cls = .ref C) (hn:nm ∈ NS) (hmn:X.mg nm = some (.ref C)) (hx:x ∈ NT:=by decide) (hm:X.mg "isinstance" = none:=by decreasing_trivial) (hg:Gl X "isinstance" := by rfl) (hg2:Gl X x:=by rfl) (hd:(x == ("__debug__" : Str)) = false:=by decide)
  (hs:starEach [e,.Name x p'] X.env = (false,eval e X.env) :: starEach [.Name x p'] X.env:=by rfl):DE X c (.Call (.Name "isinstance" p) [e,.Name x p'] [] pos) (isEW A ea (decide (nm = x))):=by
 obtain ⟨D,h1,h2⟩:=xk.cl x hx
 exact zrK (v:=.ref D) hA hp hc (xk.ve nm hn C hmn).1 (ziH hg2 h1 rfl hd) (fun _ z=>z) (h2 nm hn C hmn) hm hg hs
theorem zs8 (xk:ErrF X.K X.mg xc NT NS) (hA:DE X c e A) (hp:(ea,oe) ∈ X.pn) (hc:oe.cls = .ref C) (hn:nm ∈ NS) (hmn:X.mg nm = some (.ref C)) (hm2:X.mg "ValueError" = none) (hm:X.mg "isinstance" = none:=by decreasing_trivial) (hg:Gl X "isinstance" := by rfl) (hg2:Gl X "ValueError" := by rfl)
  (hs:starEach [e,.Name "ValueError" p'] X.env = (false,eval e X.env) :: starEach [.Name "ValueError" p'] X.env:=by rfl):DE X c (.Call (.Name "isinstance" p) [e,.Name "ValueError" p'] [] pos) (isEW A ea true):=
 zrK (v:=.ty "ValueError") hA hp hc (xk.ve nm hn C hmn).1 (zlf hg2 hm2 zpP rfl) (fun _ z=>z) (xk.ve nm hn C hmn).2 hm hg hs
end
def kdN (NS:List Str) (nm:Str):Option D:=if nm ∈ NS then some (.lst true [.str nm]) else none
section
variable {X:Cx} {b:Bo} {e:Expr} {es:List Expr} {pos p p1 p2 np q1 q2 fpos apos hpos cpos spos bpos:Pos}
theorem zpW (i ie ib:Nat) {io k k2 m:Nat} {C:Addr} {mt x o n y xc fx:Str} {ps NT NS:List Str} {F:FnF} {R:WOA} {pl:Sem Bool} {W:Str->Addr->Fn} (T:Met X.prog X.w X.K X.mg X.base (CXN X.prog X.w) C mt k ps (spO X.K X.mg m F)) (L:InOk X.prog X.w X.K X.mg X.base k2 fx NS W) (xk:ErrF X.K X.mg xc NT NS) (hW:∀ nm ∈ NS,∀ ea,up (W nm ea) [.obj ea] (fun d'=>d' = .lst true [.str nm]))
  (hv:∀ S M G1,DE X.nox (reB b S M G1) (.Name o p) (vW io)) (hR:OA X.nox b (e :: es) R)
  (hi:X.N[i]? = some x:=by rfl) (hie:X.N[ie]? = some n:=by rfl) (hib:X.N[ib]? = some y:=by rfl) (hx:X.env.scope.names.lookup x = some .local:=by rfl) (hn:X.env.scope.names.lookup n = some .local:=by rfl) (hy:X.env.scope.names.lookup y = some .local:=by rfl) (hne:ie ≠ ib:=by decide) (hN:X.N.Nodup:=by decreasing_trivial) (hr:Room k X.A:=by decreasing_trivial) (hr2:Room k2 X.A:=by decreasing_trivial)
  (hst:X.stack = X.env :: X.outer:=by rfl) (hfr:X.env.frame = some X.env.locals:=by rfl) (hK:b.K = X.K:=by rfl) (hg:Gl X fx:=by rfl) (hgc:Gl X xc:=by rfl) (hdb:(fx == ("__debug__" : Str)) = false:=by decide) (hdc:(xc == ("__debug__" : Str)) = false:=by decide) (hdn:(n == ("__debug__" : Str)) = false:=by decide) (hdk:(n == ("__classdict__" : Str)) = false:=by decide)
  (hs1:swapsWith (.Call (.Attribute (.Name o p) mt apos) (e :: es) [] cpos) (some (.Name x p1)) spos.line X.env = pure false:=by rfl) (hs2:swapsWith (.Call (.Name fx q1) [.Name n q2] [] fpos) (some (.Name y p2)) bpos.line X.env = pure false:=by rfl)
  (he:starEach (e :: es) X.env = (false,eval e X.env) :: starEach es X.env:=by rfl) (hpl:(backTo cpos (starEach es X.env)).any (·.1) = false:=by rfl) (he2:starEach [.Name n q2] X.env = (false,eval (.Name n q2) X.env) :: starEach [] X.env:=by rfl)
  (ht:eval (.Call (.Attribute (.Name o p) mt apos) (e :: es) [] cpos) X.env = (do
   let ov <- eval (.Name o p) X.env
   standAt apos.atName
   let (f,first) <- holding [ov] (getMethod ov mt pl)
   callWith cpos f first (backTo cpos (starEach (e :: es) X.env)) (backToKw cpos (keywordEach [] X.env))):=by rfl) :
  OS X b (.Try [.Assign [.Name x p1] (.Call (.Attribute (.Name o p) mt apos) (e :: es) [] cpos) spos] [.ExceptHandler (some (.Name xc np)) (some n) [.Assign [.Name y p2] (.Call (.Name fx q1) [.Name n q2] [] fpos) bpos] hpos] [] [] pos) (znM i ie ib (fun Y=>zeh io C mt m F Y R) (kdN NS)):=by
 obtain ⟨Dc,h1,h2⟩:=xk.top
 refine zqf i ie ib T L hv hR h1 (fun nm d z=>?_) hi hie hib hx hn hy hne hN hr hr2 hst hfr hK hg hgc hdb hdc hdn hdk hs1 hs2 he hpl he2 ht
 unfold kdN at z
 split at z
 ·rename_i hn
  cases z
  exact ⟨hn,h2 nm hn,hW nm hn⟩
 ·cases z
end
end Fd
set_option maxHeartbeats 400000
namespace Fd
open PySem L2
theorem zjS {α:Type}:∀ {ks:List Str} {vs:List α} {z:Str},ks.length = vs.length->(zax ks vs z).isSome = ks.contains z
 | [],[],z,_=>rfl
 | k :: ks,v :: vs,z,h=>by
  show (if k = z then some v else zax ks vs z).isSome = (k :: ks).contains z
  by_cases e:k = z
  ·subst e;simp
  ·rw [if_neg e,zjS (by simpa using h)]
   simp [YAH e]
section
variable {X:Cx} {c:Bk} {a b e:Expr} {A B:WE} {pos p:Pos}
@[reducible] def inKW (neg:Bool) (A B:WE):WT:=fun ρ Q=>A ρ fun x=>B ρ fun d=>match x with | .str z=>dcD d fun ks _=>Q (neg != ks.contains z) | _=>False
theorem zjV {neg:Bool} (hA:zbE A) (hB:zbE B):zga (inKW neg A B):=fun ρ Q Q' k q=>hA ρ _ _ (fun x z=>hB ρ _ _ (fun d y=>by
 cases x with
 | str s=>exact zec (fun _ _ w=>k _ w) y
 | _=>exact y.elim) z) q
theorem zkc {neg:Bool} (hA:DE X c a A) (hB:DE X c b B) (σ:St) (H:Hp) (Q:Bool->Hp->Prop) (R:Bool->Hp->Prop) (hR:∀ b H',Q (neg != b) H'->R b H') (h:tDt c (inKW neg A B) σ H Q):tD c A σ H fun y H1=>tD c B σ H1 fun x H2=>∃ a o,x = .ref a/\DGet H2 a y o/\R o.isSome H2:=by
 obtain ⟨ρ,G,r,q⟩:=h
 refine ⟨ρ,G,r,hA.mono ρ _ _ (fun x zx vx H1 G1 t1 e1=>⟨ρ,G1,r.step t1,hB.mono ρ _ _ (fun d zd vd H2 G2 t2 e2=>?_) zx⟩) q⟩
 cases x with
 | str s=>
  cases (show vx = V.str s from e1)
  have zd:dcD d fun ks _=>∀ H' G',Stp c.β H G H' G'->Q (neg != ks.contains s) H':=zd
  unfold dcD at zd
  cases ed:dcV d with
  | none=>rw [ed] at zd;exact zd.elim
  | some pr=>
   rw [ed] at zd
   obtain ⟨d0,vs,h1,h2,h3,h4⟩:=zfp e2 ed
   refine ⟨d0,_,h1,.inl ⟨_,Sum.inr s,zfW t2.gh h2,rfl,rfl⟩,?_⟩
   rw [zdr,zjS h3]
   exact hR _ _ (zd H2 G2 (t1.trans t2))
 | _=>exact zd.elim
theorem zsI (hA:DE X c a A) (hB:DE X c b B) (hm:behindInMarks .In b = false:=by with_unfolding_all rfl) (hu:X.A.units + 1 < cLine:=by decreasing_trivial):DT X c (.Compare a [.In] [b] pos) (inKW false A B) where
 mono:=zjV hA.mono hB.mono
 pt:=zf1 (zmx (zrq hu hA.pe hB.pe) hm) fun σ H Q h=>zkc hA hB σ H Q (fun b H'=>∃ c,V.bl b = .bl c/\Q c H') (fun b H' z=>⟨b,rfl,by simpa using z⟩) h
theorem zj2 (hA:DE X c a A) (hB:DE X c b B) (hm:behindInMarks .NotIn b = false:=by with_unfolding_all rfl) (hu:X.A.units + 1 < cLine:=by decreasing_trivial):DT X c (.Compare a [.NotIn] [b] pos) (inKW true A B) where
 mono:=zjV hA.mono hB.mono
 pt:=zf1 (zmx (zm5 hu hA.pe hB.pe) hm) fun σ H Q h=>zkc hA hB σ H Q (fun b H'=>∃ c,V.bl (!b) = .bl c/\Q c H') (fun b H' z=>⟨!b,rfl,by simpa using z⟩) h
@[reducible] def zqy (A:WE):WE:=fun ρ Q=>A ρ fun d=>dcD d fun ks _=>Q (.int ks.length)
theorem zl6:CallR X (.builtin "len") (fun xs H Q=>∃ a kvs,xs = [V.ref a]/\Rd H a (.dK kvs)/\Q (.int kvs.length) H):=by
 intro pins s σ H xs us Q I r h
 obtain ⟨a,kvs,rfl,e,q⟩:=h
 obtain ⟨u,rfl,rx⟩:=zeI r
 cases rx
 exact L2.zsV I e fun t s' I'=>⟨.int kvs.length,H,I',⟨t,rfl⟩,q⟩
theorem zrc (hA:DE X c e A) (hg:Gl X "len" := by rfl) (he:starEach [e] X.env = (false,eval e X.env) :: starEach [] X.env:=by rfl) (hm:X.mg "len" = none:=by decreasing_trivial):DE X c (.Call (.Name "len" p) [e] [] pos) (zqy A) where
 mono:=fun ρ Q Q' k q=>hA.mono ρ _ _ (fun d z=>zec (fun _ _ y=>k _ y) z) q
 pe:=zan (zdW zl6 hg hm YCY (zav hA.pe za1 he) (by decide) (by decide) he rfl) fun σ H Q ⟨ρ,G,r,q⟩=>⟨ρ,G,r,hA.mono ρ _ _ (fun d z v H' G' t e=>by
  unfold dcD at z
  split at z
  ·rename_i pr ed
   obtain ⟨a,vs,h1,h2,h3,h4⟩:=zfp e ed
   subst h1
   refine ⟨a,_,rfl,zfW t.gh h2,?_⟩
   rw [show (kvD pr.1 vs).length = pr.1.length by unfold kvD;rw [YAd,YBd,<- h3,YBx]]
   exact z (.int pr.1.length) H' G' t rfl
  ·exact z.elim) q⟩
end
structure Ads where
 fen:Addr
 mark_entered:Addr
 hand_entered:Addr
 run_entered:Addr
 run_struck:Addr
 run_mended:Addr
 mark_settled:Addr
 hand_set_aside:Addr
 hand_heeded:Addr
 number_allowed:Addr
def NTx:List Str:=["BadName","Taken","Full","NoMark","NoHand","Same","BadRise","NoRun","Aside","NotAside","BadNumber","NothingLeft","Steady","NoDeed","Known","NoFen","Settled","NoPage"]
def NSx:List Str:=["BadName","Taken","Full","NoMark"]
def zbm:Fn:=fnW 0 ((retW (zqE ["stands","hands","aside","runs","entered","allowed"] (zab (tupW nilA) (zab (tupW nilA) (zab (tupW nilA) (zab (tupW nilA) (zab (kW (.int 0)) (zab (kW (.int 0)) nilA)))))))))
def zbd (A:Ads):FnF:=fnWF 1 (fun Y=>(seqF (setO 0 "kept" A.fen (fun S=>(lstW nilA)))
  (seqF (setO 0 "books" A.fen (fun S=>(lstW (zab (zas 0 zbm nilA) nilA))))
  (setO 0 "undone" A.fen (fun S=>(lstW nilA))))))
def zcw:Fn:=fnW 0 ((retW (zqE ["places","heeded","rows","entered","many","deeds"] (zab (valW (lstW nilA)) (zab zrt (zab (valW (lstW nilA)) (zab (kW (.int 0)) (zab (kW (.int 0)) (zab (valW (lstW nilA)) nilA)))))))))
def zdo:Fn:=fnW 1 ((retW (valW (zay [none,none] (zbA (vW 0)) (.tp 2 (.cons (.nm 0) (.cons (.nm 1) .nil))) (blW (binW eqD (vW 1) (kW (.int 1)))) (vW 0)))))
def zaM (A:Ads):Sto->Fn:=fun S=>fnW 1 ((retW (fixW S 0 "books" A.fen (unW negD (kW (.int 1))))))
def zcW (A:Ads):Sto->Fn:=fun S=>fnW 1 ((retW (zas 1 zdo (zab (binW zau (zbY S 0 A.fen "now" 1 (zaM A) (fun _ Q=>Q [])) (kW (.str "stands"))) nilA))))
def zcU (A:Ads):Sto->Fn:=fun S=>fnW 1 ((retW (valW (zkG (binW zau (zbY S 0 A.fen "now" 1 (zaM A) (fun _ Q=>Q [])) (kW (.str "hands")))))))
def zcx (A:Ads):Sto->Fn:=fun S=>fnW 2 ((seqW (asgW (.nm 1) (zbY S 0 A.fen "now" 1 (zaM A) (fun _ Q=>Q [])))
  (retW (valW (zay [none,some 1] (zbA (binW zau (vW 1) (kW (.str "hands")))) (.nm 0) (blW (binW (inXD false) (vW 0) (binW zau (vW 1) (kW (.str "aside"))))) (vW 0))))))
def zcA (A:Ads):Sto->Fn:=fun S=>fnW 1 ((retW (valW (zkG (binW zau (zbY S 0 A.fen "now" 1 (zaM A) (fun _ Q=>Q [])) (kW (.str "stands")))))))
def zb7 (A:Ads):Sto->Fn:=fun S=>fnW 1 ((retW (binW zau (zbY S 0 A.fen "now" 1 (zaM A) (fun _ Q=>Q [])) (kW (.str "allowed")))))
def zdt (A:Ads):Sto->Fn:=fun S=>fnW 1 ((retW (valW (zkG (binW zau (zbY S 0 A.fen "now" 1 (zaM A) (fun _ Q=>Q [])) (kW (.str "runs")))))))
def za6:Fn:=fnW 1 ((retW (valW (zay [none,some 0] (zbA (binW zau (vW 0) (kW (.str "runs")))) (.nm 0) (blW (binW (inXD true) (binW ixXD (vW 0) (kW (.int 6))) (binW zau (vW 1) (kW (.str "aside"))))) (vW 0)))))
def zbK (A:Ads):Sto->Fn:=fun S=>fnW 1 ((retW (valW (zay [none] (zbA (zas 1 za6 (zab (zbY S 0 A.fen "now" 1 (zaM A) (fun _ Q=>Q [])) nilA))) (.nm 0) noIf (binW ixXD (vW 0) (kW (.int 0)))))))
def zcX (A:Ads):Sto->Fn:=fun S=>fnW 1 ((retW (valW (lstF S 0 "kept" A.fen))))
def zc0 (A:Ads):Sto->Fn:=fun S=>fnW 2 ((seqW (asgW (.nm 1) (valW (lstW (zab (zbY S 0 A.fen "marks" 1 (zcW A) (fun _ Q=>Q [])) (zab (zbY S 0 A.fen "hands" 1 (zcU A) (fun _ Q=>Q [])) (zab (zbY S 0 A.fen "asides" 1 (zcx A) (fun _ Q=>Q [])) (zab (zbY S 0 A.fen "stands" 1 (zcA A) (fun _ Q=>Q [])) (zab (zbY S 0 A.fen "allowed" 1 (zb7 A) (fun _ Q=>Q [])) (zab (zbY S 0 A.fen "runs" 1 (zdt A) (fun _ Q=>Q [])) (zab (zbY S 0 A.fen "counting" 1 (zbK A) (fun _ Q=>Q [])) nilA))))))))))
  (retW (binW addD (vW 1) (valW (lstW (zab (zbY S 0 A.fen "deeds" 1 (zcX A) (fun _ Q=>Q [])) nilA)))))))
def zbO:Fn:=fnW 1 ((retW (valW (zay [none,none] (zbA (binW zau (vW 0) (kW (.str "places")))) (.tp 2 (.cons (.nm 0) (.cons (.nm 1) .nil))) (blW (binW eqD (vW 1) (kW (.int 1)))) (vW 0)))))
def zbL:Fn:=fnW 1 ((retW (valW (zay [none,some 0] (zbA (binW zau (vW 0) (kW (.str "rows")))) (.nm 0) (truW (binW zau (binW zau (vW 1) (kW (.str "heeded"))) (binW ixXD (vW 0) (kW (.int 4))))) (vW 0)))))
def zdw:Fn:=fnW 5 ((seqW (asgW (.nm 1) (binW zau (vW 0) (kW (.str "places"))))
  (seqW (asgW (.nm 2) (valW (zay [none,some 1] (zbA (binW zau (vW 0) (kW (.str "rows")))) (.nm 0) noIf (binW addD (binW addD (binW addD (tupW (zab (binW ixXD (vW 0) (kW (.int 0))) nilA)) (binW ixXD (vW 1) (binW ixXD (vW 0) (kW (.int 1))))) (binW ixXD (vW 1) (binW ixXD (vW 0) (kW (.int 2))))) (slXW (vW 0) (zd5 (kW (.int 3))) noO)))))
  (seqW (asgW (.nm 3) (valW (zay [none,some 0] (zm7 (binW zau (vW 0) (kW (.str "heeded")))) (.nm 0) (notT (truW (binW zau (binW zau (vW 1) (kW (.str "heeded"))) (vW 0)))) (vW 0))))
  (seqW (asgW (.nm 4) (valW (lstW (zab (zas 1 zbO (zab (vW 0) nilA)) (zab (valW (znQ (binW zau (vW 0) (kW (.str "heeded"))))) (zab (vW 3) (zab (vW 1) (zab (binW zau (vW 0) (kW (.str "many"))) (zab (vW 2) nilA)))))))))
  (retW (binW addD (vW 4) (valW (lstW (zab (valW (zay [none] (zbA (zas 1 zbL (zab (vW 0) nilA))) (.nm 0) noIf (binW ixXD (vW 0) (kW (.int 0))))) (zab (binW zau (vW 0) (kW (.str "deeds"))) nilA)))))))))))
def zaQ (A:Ads):Sto->Fn:=fun S=>fnW 2 ((retW (zas 2 (zaS 6) (zab (ziT S 1 (zc0 A) (zab (vW 0) nilA)) (zab (zas 1 zdw (zab (vW 1) nilA)) nilA)))))
def zaB:Fn:=fnW 2 ((retW (cbW zca (zab (valW (zay [none,some 1] (zbA (binW zau (vW 0) (kW (.str "places")))) (.nm 0) (blW (binW eqD (binW ixXD (vW 0) (kW (.int 0))) (vW 1))) (vW 0))) nilA))))
def zcm:Fn:=fnW 7 ((seqW (asgW (.tp 5 (.cons (.nm 2) (.cons (.nm 3) (.cons (.nm 4) (.cons (.nm 5) (.cons (.nm 6) .nil)))))) (vW 1))
  (seqW (ifS (orT (blW (binW eqD (zas 2 zaB (zab (vW 0) (zab (vW 3) nilA))) (kW (.int 0)))) (blW (binW eqD (zas 2 zaB (zab (vW 0) (zab (vW 4) nilA))) (kW (.int 0))))) (retW (kW (.str "NoMark"))) nilS)
  (seqW (ifS (blW (binW eqD (vW 3) (vW 4))) (retW (kW (.str "Same"))) nilS)
  (seqW (ifS (inKW true (vW 6) (binW zau (vW 0) (kW (.str "heeded")))) (retW (kW (.str "NoHand"))) nilS)
  (seqW (ifS (notT (blW (zej leD leD (unW negD (kW (.int 1000000000))) (vW 5) (kW (.int 1000000000))))) (retW (kW (.str "BadRise"))) nilS)
  (retW (binW ixXD (valW (lstW (zab (kW (.str "")) (zab (kW (.str "Full")) nilA)))) (cbW zdy (zab (binW eqD (cbW zca (zab (binW zau (vW 0) (kW (.str "rows"))) nilA)) (kW (.int 40))) nilA))))))))))
def zbq:Fn:=fnW 2 ((seqW (ifS (notT (truW (zas 1 zbn (zab (binW ixXD (vW 1) (kW (.int 1))) nilA)))) (retW (kW (.str "BadName"))) nilS)
  (seqW (ifS (blW (binW eqD (binW ixXD (vW 1) (kW (.int 0))) (kW (.str "hand")))) (seqW (ifS (inKW false (binW ixXD (vW 1) (kW (.int 1))) (binW zau (vW 0) (kW (.str "heeded")))) (retW (kW (.str "Taken"))) nilS)
  (retW (binW ixXD (valW (lstW (zab (kW (.str "")) (zab (kW (.str "Full")) nilA)))) (cbW zdy (zab (binW eqD (zqy (binW zau (vW 0) (kW (.str "heeded")))) (kW (.int 10))) nilA))))) nilS)
  (seqW (ifS (blW (binW gtD (zas 2 zaB (zab (vW 0) (zab (binW ixXD (vW 1) (kW (.int 1))) nilA))) (kW (.int 0)))) (retW (kW (.str "Taken"))) nilS)
  (retW (binW ixXD (valW (lstW (zab (kW (.str "")) (zab (kW (.str "Full")) nilA)))) (cbW zdy (zab (binW eqD (cbW zca (zab (binW zau (vW 0) (kW (.str "places"))) nilA)) (kW (.int 12))) nilA))))))))
def zcr:Fn:=fnW 2 ((seqW (ifS (blW (binW eqD (binW ixXD (vW 1) (kW (.int 0))) (kW (.str "run")))) (retW (zas 2 zcm (zab (vW 0) (zab (vW 1) nilA)))) nilS)
  (seqW (ifS (blW (binW (inXD false) (binW ixXD (vW 1) (kW (.int 0))) (tupW (zab (kW (.str "mark")) (zab (kW (.str "hand")) nilA))))) (retW (zas 2 zbq (zab (vW 0) (zab (vW 1) nilA)))) nilS)
  (seqW (ifS (blW (binW eqD (binW ixXD (vW 1) (kW (.int 0))) (kW (.str "settle")))) (seqW (ifS (blW (binW eqD (zas 2 zaB (zab (vW 0) (zab (binW ixXD (vW 1) (kW (.int 1))) nilA))) (kW (.int 0)))) (retW (kW (.str "NoMark"))) nilS)
  (retW (binW ixXD (valW (lstW (zab (kW (.str "")) (zab (kW (.str "Full")) nilA)))) (cbW zdy (zab (binW eqD (cbW zca (zab (binW zau (vW 0) (kW (.str "places"))) nilA)) (kW (.int 12))) nilA))))) nilS)
  (seqW (ifS (blW (binW (inXD false) (binW ixXD (vW 1) (kW (.int 0))) (tupW (zab (kW (.str "strike")) (zab (kW (.str "mend")) nilA))))) (seqW (ifS (notT (truW (cbW anyF (zab (valW (zay [none,some 1] (zbA (binW zau (vW 0) (kW (.str "rows")))) (.nm 0) noIf (binW eqD (binW ixXD (vW 0) (kW (.int 0))) (binW ixXD (vW 1) (kW (.int 1)))))) nilA)))) (retW (kW (.str "NoRun"))) nilS)
  (retW (binW ixXD (valW (lstW (zab (kW (.str "")) (zab (kW (.str "BadRise")) nilA)))) (cbW zdy (zab (andW (binW eqD (binW ixXD (vW 1) (kW (.int 0))) (kW (.str "mend"))) (notW (zej leD leD (unW negD (kW (.int 1000000000))) (binW ixXD (vW 1) (kW (.int 2))) (kW (.int 1000000000))))) nilA))))) nilS)
  (seqW (ifS (blW (binW eqD (binW ixXD (vW 1) (kW (.int 0))) (kW (.str "allow")))) (retW (binW ixXD (valW (lstW (zab (kW (.str "BadNumber")) (zab (kW (.str "")) nilA)))) (cbW zdy (zab (zej leD leD (kW (.int 0)) (binW ixXD (vW 1) (kW (.int 1))) (kW (.int 3))) nilA)))) nilS)
  (seqW (ifS (inKW true (binW ixXD (vW 1) (kW (.int 1))) (binW zau (vW 0) (kW (.str "heeded")))) (retW (kW (.str "NoHand"))) nilS)
  (seqW (ifS (blW (binW eqD (binW ixXD (vW 1) (kW (.int 0))) (kW (.str "aside")))) (retW (binW ixXD (valW (lstW (zab (kW (.str "Aside")) (zab (kW (.str "")) nilA)))) (cbW zdy (zab (binW zau (binW zau (vW 0) (kW (.str "heeded"))) (binW ixXD (vW 1) (kW (.int 1)))) nilA)))) nilS)
  (retW (binW ixXD (valW (lstW (zab (kW (.str "")) (zab (kW (.str "NotAside")) nilA)))) (cbW zdy (zab (binW zau (binW zau (vW 0) (kW (.str "heeded"))) (binW ixXD (vW 1) (kW (.int 1)))) nilA))))))))))))
def zcB:Fn:=fnW 2 ((retW (zqT (binW zau (vW 0) (kW (.str "places"))) (tupW (zab (vW 1) (zab (zas 2 zaB (zab (vW 0) (zab (vW 1) nilA))) nilA))))))
def zcf:Fn:=fnW 6 ((seqW (dcpW 0 (vW 0))
  (seqW (dstW 0 (kW (.str "deeds")) (binW addD (ogW 0 (kW (.str "deeds"))) (valW (lstW (zab (vW 1) nilA)))))
  (seqW (asgW (.nm 2) (binW ixXD (vW 1) (kW (.int 0))))
  (seqW (ifS (orT (blW (binW eqD (vW 2) (kW (.str "mark")))) (blW (binW eqD (vW 2) (kW (.str "settle"))))) (dstW 0 (kW (.str "places")) (binW addD (ogW 0 (kW (.str "places"))) (valW (lstW (zab (tupW (zab (binW ixXD (vW 1) (kW (.int 1))) (zab (binW addD (zhd 0 2 zaB (zab (binW ixXD (vW 1) (kW (.int 1))) nilA)) (kW (.int 1))) nilA))) nilA))))) (ifS (blW (binW (inXD false) (vW 2) (tupW (zab (kW (.str "hand")) (zab (kW (.str "heed")) (zab (kW (.str "aside")) nilA)))))) (dc2W 3 (ogW 0 (kW (.str "heeded"))) (binW neD (vW 2) (kW (.str "aside"))) (binW ixXD (vW 1) (kW (.int 1)))
  (dstW 0 (kW (.str "heeded")) (vW 3))) (ifS (blW (binW eqD (vW 2) (kW (.str "run")))) (seqW (zny 0 (kW (.str "entered")) (kW (.int 1)))
  (seqW (asgW (.nm 4) (binW addD (tupW (zab (ogW 0 (kW (.str "entered"))) (zab (zhd 0 2 zcB (zab (binW ixXD (vW 1) (kW (.int 1))) nilA)) (zab (zhd 0 2 zcB (zab (binW ixXD (vW 1) (kW (.int 2))) nilA)) nilA)))) (slXW (vW 1) (zd5 (kW (.int 3))) noO)))
  (dstW 0 (kW (.str "rows")) (binW addD (ogW 0 (kW (.str "rows"))) (valW (lstW (zab (vW 4) nilA))))))) (ifS (blW (binW eqD (vW 2) (kW (.str "strike")))) (dstW 0 (kW (.str "rows")) (valW (zay [none,some 1] (zbA (ogW 0 (kW (.str "rows")))) (.nm 0) (blW (binW neD (binW ixXD (vW 0) (kW (.int 0))) (binW ixXD (vW 1) (kW (.int 1))))) (vW 0)))) (ifS (blW (binW eqD (vW 2) (kW (.str "mend")))) (seqW (ownW 5 (lstW nilA))
  (seqW (forW (zbA (ogW 0 (kW (.str "rows")))) (.nm 4) (appW 5 (binW ixXD (valW (lstW (zab (vW 4) (zab (binW addD (slXW (vW 4) noO (zd5 (kW (.int 3)))) (tupW (zab (binW ixXD (vW 1) (kW (.int 2))) (zab (binW ixXD (vW 4) (kW (.int 4))) nilA)))) nilA)))) (cbW zdy (zab (binW eqD (binW ixXD (vW 4) (kW (.int 0))) (binW ixXD (vW 1) (kW (.int 1)))) nilA)))))
  (frzW 5 (dstW 0 (kW (.str "rows")) (vW 5))))) (dstW 0 (kW (.str "many")) (binW ixXD (vW 1) (kW (.int 1)))))))))
  (zlw 0))))))
def zbo:Fn:=fnW 4 ((znk 0 1 2 3))
def zbD:Fn:=fnW 2 ((retW (cbW zca (zab (valW (zay [none,none,some 1] (zbA (vW 0)) (.tp 2 (.cons (.nm 0) (.cons (.nm 1) .nil))) (blW (binW eqD (vW 0) (vW 2))) (vW 1))) nilA))))
def zcD:Fn:=fnW 2 ((retW (tupW (zab (vW 1) (zab (binW addD (zas 2 zbD (zab (vW 0) (zab (vW 1) nilA))) (kW (.int 1))) nilA)))))
def zaP:FnX:=fnWX 3 (fun Y=>(seqW (asgW (.nm 2) (binW zau (vW 0) (kW (.str "stands"))))
  (seqW (ifS (blW (binW geD (cbW zca (zab (vW 2) nilA)) (kW (.int 12)))) (rzW (zab (kW (.str "there is no room for another stand")) nilA) (Y "Full")) nilS)
  (retW (zas 3 zbo (zab (vW 0) (zab (kW (.str "stands")) (zab (binW addD (vW 2) (tupW (zab (zas 2 zcD (zab (vW 2) (zab (vW 1) nilA))) nilA))) nilA))))))))
def zcg:FnX:=fnWX 4 (fun Y=>(seqW (asgW (.tp 2 (.cons (.nm 2) (.cons (.nm 3) .nil))) (vW 1))
  (seqW (ifS (notT (truW (zas 1 zcn (zab (vW 3) nilA)))) (rzW (zab (kW (.str "a mark's name is 1 to 8 small letters")) nilA) (Y "BadName")) nilS)
  (seqW (ifS (blW (binW gtD (zas 2 zbD (zab (binW zau (vW 0) (kW (.str "stands"))) (zab (vW 3) nilA))) (kW (.int 0)))) (rzW (zab (kW (.str "there is a mark of this name")) nilA) (Y "Taken")) nilS)
  (retW (zgh 2 zaP Y (zab (vW 0) (zab (vW 3) nilA))))))))
def zcl:FnX:=fnWX 5 (fun Y=>(seqW (asgW (.tp 2 (.cons (.nm 2) (.cons (.nm 3) .nil))) (vW 1))
  (seqW (asgW (.nm 4) (binW zau (vW 0) (kW (.str "hands"))))
  (seqW (ifS (notT (truW (zas 1 zcn (zab (vW 3) nilA)))) (rzW (zab (kW (.str "a hand's name is 1 to 8 small letters")) nilA) (Y "BadName")) nilS)
  (seqW (ifS (blW (binW (inXD false) (vW 3) (vW 4))) (rzW (zab (kW (.str "there is a hand of this name")) nilA) (Y "Taken")) nilS)
  (seqW (ifS (blW (binW geD (cbW zca (zab (vW 4) nilA)) (kW (.int 10)))) (rzW (zab (kW (.str "there is no room for another hand")) nilA) (Y "Full")) nilS)
  (retW (zas 3 zbo (zab (vW 0) (zab (kW (.str "hands")) (zab (binW addD (vW 4) (tupW (zab (vW 3) nilA))) nilA)))))))))))
def zb4:FnX:=fnWX 3 (fun Y=>(seqW (asgW (.nm 2) (zas 2 zbD (zab (vW 0) (zab (vW 1) nilA))))
  (seqW (ifS (blW (binW eqD (vW 2) (kW (.int 0)))) (rzW (zab (kW (.str "there is no mark of this name")) nilA) (Y "NoMark")) nilS)
  (retW (tupW (zab (vW 1) (zab (vW 2) nilA)))))))
def zce:FnX:=fnWX 6 (fun Y=>(seqW (asgW (.tp 2 (.cons (.nm 2) (.cons (.nm 3) .nil))) (vW 1))
  (seqW (asgW (.tp 2 (.cons (.nm 4) (.cons (.nm 5) .nil))) (zgh 2 zb4 Y (zab (binW zau (vW 0) (kW (.str "stands"))) (zab (vW 3) nilA))))
  (retW (zgh 2 zaP Y (zab (vW 0) (zab (vW 4) nilA)))))))
def kvA (A:Ads):List (Str × D):=[("mark",.obj A.mark_entered),("hand",.obj A.hand_entered),("run",.obj A.run_entered),("strike",.obj A.run_struck),("mend",.obj A.run_mended),("settle",.obj A.mark_settled),("aside",.obj A.hand_set_aside),("heed",.obj A.hand_heeded),("allow",.obj A.number_allowed)]
def tabA (A:Ads):List (Addr × FnX):=[(A.mark_entered,zcg),(A.hand_entered,zcl),(A.mark_settled,zce)]
def zbf (A:Ads):FnX:=fnWX 3 (fun Y=>(seqW (asgW (.nm 2) (ixGW (kvA A) (binW ixXD (vW 1) (kW (.int 0)))))
  (retW (zki 2 2 (tabA A) Y (zab (vW 0) (zab (vW 1) nilA))))))
def zbF (A:Ads):FnF:=fnWF 3 (fun Y=>(seqF (asgO (.nm 2) (zpa 2 (zbf A) Y (zbz (zbS fun S=>(zbY S 0 A.fen "now" 1 (zaM A) (fun _ Q=>Q []))) (zbz (zbS fun S=>(vW 1)) nilO))))
  (seqF (appO 0 "kept" A.fen (fun S=>(vW 1)))
  (seqF (appO 0 "books" A.fen (fun S=>(vW 2)))
  (seqF (setO 0 "undone" A.fen (fun S=>(lstW nilA)))
  (seqF (zcu fun S=>(ifS (blW (binW eqD (binW ixXD (vW 1) (kW (.int 0))) (kW (.str "run")))) (retW (binW zau (vW 2) (kW (.str "entered")))) nilS))
  (zcu fun S=>(retW (kW .non)))))))))
def za4:Fn:=fnW 2 ((retW (binW ixXD (valW (lstW (zab (kW .non) (zab (binW addD (binW zau (vW 0) (kW (.str "entered"))) (kW (.int 1))) nilA)))) (cbW zdy (zab (binW eqD (binW ixXD (vW 1) (kW (.int 0))) (kW (.str "run"))) nilA)))))
def zb8 (A:Ads):FnF:=fnWF 3 (fun Y=>(seqF (ifNO (zpN 2 (zaS 6) (zbz (zeh 0 A.fen "deed" 2 (zbF A) (fun _ _=>False) (zbz (zbS fun S=>(vW 2)) nilO)) (zbz (zbS fun S=>(zas 2 za4 (zab (vW 1) (zab (vW 2) nilA)))) nilO))) (zcu fun S=>(retW (kW .non))) nilF)
  (zcu fun S=>(retW (zas 2 zcf (zab (vW 1) (zab (vW 2) nilA)))))))
def zcC (nm:Str) (ea:Addr):Fn:=fnW 3 ((seqW (asgW (.nm 1) (valW (lstW (zab (isEW (vW 0) ea (decide (nm = "BadName"))) (zab (isEW (vW 0) ea (decide (nm = "Taken"))) (zab (isEW (vW 0) ea (decide (nm = "Full"))) (zab (isEW (vW 0) ea (decide (nm = "NoMark"))) nilA)))))))
  (seqW (asgW (.nm 1) (binW addD (vW 1) (valW (lstW (zab (isEW (vW 0) ea (decide (nm = "NoHand"))) (zab (isEW (vW 0) ea (decide (nm = "Same"))) (zab (isEW (vW 0) ea (decide (nm = "BadRise"))) (zab (isEW (vW 0) ea (decide (nm = "NoRun"))) nilA))))))))
  (seqW (asgW (.nm 1) (binW addD (vW 1) (valW (lstW (zab (isEW (vW 0) ea (decide (nm = "Aside"))) (zab (isEW (vW 0) ea (decide (nm = "NotAside"))) (zab (isEW (vW 0) ea (decide (nm = "BadNumber"))) (zab (isEW (vW 0) ea (decide (nm = "NothingLeft"))) nilA))))))))
  (seqW (asgW (.nm 1) (binW addD (vW 1) (valW (lstW (zab (isEW (vW 0) ea (decide (nm = "Steady"))) (zab (isEW (vW 0) ea (decide (nm = "NoDeed"))) (zab (isEW (vW 0) ea (decide (nm = "Known"))) (zab (isEW (vW 0) ea (decide (nm = "NoFen"))) nilA))))))))
  (seqW (asgW (.nm 1) (binW addD (vW 1) (valW (lstW (zab (isEW (vW 0) ea (decide (nm = "Settled"))) (zab (isEW (vW 0) ea (decide (nm = "NoPage"))) (zab (notW (isEW (vW 0) ea true)) nilA)))))))
  (seqW (asgW (.nm 2) (kW (.str "BadName Taken Full NoMark NoHand Same BadRise NoRun Aside NotAside BadNumber NothingLeft")))
  (seqW (asgW (.nm 2) (smW spF (binW addD (vW 2) (kW (.str " Steady NoDeed Known NoFen Settled NoPage nothing"))) (kW (.str " "))))
  (retW (valW (zay [none,some 2,some 1] (zfU (cbW zca (zab (vW 2) nilA))) (.nm 0) (truW (binW ixXD (vW 2) (vW 0))) (binW ixXD (vW 1) (vW 0)))))))))))))
def zbR (A:Ads):FnF:=fnWF 5 (fun Y=>(seqF (zcu fun S=>(asgW (.nm 2) (kW .non)))
  (seqF (zcu fun S=>(asgW (.nm 3) (valW (lstW nilA))))
  (seqF (znM 2 4 3 (fun Y1=>zeh 0 A.fen "deed" 2 (zbF A) Y1 (zbz (zbS fun S=>(vW 1)) nilO)) (kdN NSx))
  (zcu fun S=>(retW (tupW (zab (vW 2) (zab (vW 3) nilA)))))))))
def zbw (A:Ads):FnF:=fnWF 4 (fun Y=>(seqF (zcu fun S=>(asgW (.nm 3) (zas 2 zcr (zab (vW 1) (zab (vW 2) nilA)))))
  (seqF (ifF (fun S=>(blW (binW eqD (vW 3) (kW (.str ""))))) (retO (zgT 3 (zb8 A) (fun _ _=>False) (zbz (zbS fun S=>(vW 0)) (zbz (zbS fun S=>(vW 1)) (zbz (zbS fun S=>(vW 2)) nilO))))) nilF)
  (seqF (ifNO (zpN 2 (zaS 6) (zbz (zgT 2 (zbR A) (fun _ _=>False) (zbz (zbS fun S=>(vW 0)) (zbz (zbS fun S=>(vW 2)) nilO))) (zbz (zbS fun S=>(tupW (zab (kW .non) (zab (valW (lstW (zab (vW 3) nilA))) nilA)))) nilO))) (zcu fun S=>(retW (kW .non))) nilF)
  (zcu fun S=>(retW (vW 1)))))))
def zbh:Fn:=fnW 8 ((seqW (asgW (.nm 4) (binW addD (kW (.int 1)) (zas 2 zai (zab (vW 0) (zab (binW subD (cbW zca (zab (vW 3) nilA)) (kW (.int 1))) nilA)))))
  (seqW (ifS (truW (isiW "str" (binW ixXD (vW 3) (vW 4)))) (seqW (asgW (.nm 5) (valW (lstW (zab (kW (.str "")) (zab (binW addD (binW ixXD (vW 2) (kW (.int 0))) (binW zja (slXW (binW ixXD (vW 2) (kW (.int 0))) noO (zd5 (kW (.int 1)))) (kW (.int 8)))) (zab (binW addD (slXW (binW ixXD (vW 2) (kW (.int 0))) noO (zd5 (kW (.int 7)))) (kW (.str "A"))) (zab (binW addD (slXW (binW ixXD (vW 2) (kW (.int 0))) noO (zd5 (kW (.int 3)))) (kW (.str " a"))) (zab (kW (.str "1")) nilA))))))))
  (seqW (asgW (.nm 6) (binW addD (binW addD (binW addD (vW 2) (zas 1 zbO (zab (vW 1) nilA))) (valW (znQ (binW zau (vW 1) (kW (.str "heeded")))))) (vW 5)))
  (asgW (.nm 7) (binW ixXD (vW 6) (zas 2 zai (zab (vW 0) (zab (cbW zca (zab (vW 6) nilA)) nilA))))))) (seqW (asgW (.nm 6) (valW (lstW (zab (kW (.int 0)) (zab (unW negD (kW (.int 1))) (zab (kW (.int 1)) (zab (kW (.int 3)) (zab (kW (.int 4)) (zab (kW (.int 1000000000)) (zab (kW (.int 1000000001)) (zab (unW negD (kW (.int 1000000000))) (zab (unW negD (kW (.int 1000000001))) (zab (binW powD (kW (.int 10)) (kW (.int 20))) (zab (unW negD (binW powD (kW (.int 10)) (kW (.int 20)))) nilA))))))))))))))
  (asgW (.nm 7) (binW ixXD (binW addD (vW 6) (valW (lstW (zab (binW zau (vW 1) (kW (.str "entered"))) (zab (binW addD (binW zau (vW 1) (kW (.str "entered"))) (kW (.int 1))) nilA))))) (zas 2 zai (zab (vW 0) (zab (binW addD (cbW zca (zab (vW 6) nilA)) (kW (.int 2))) nilA)))))))
  (retW (binW addD (binW addD (slXW (vW 3) noO (zd5 (vW 4))) (tupW (zab (vW 7) nilA))) (slXW (vW 3) (zd5 (binW addD (vW 4) (kW (.int 1)))) noO))))))
def zc6 (A:Ads):WF:=(seqF (zcu fun S=>(asgW (.nm 2) (zas 2 zbT (zab (vW 1) (zab (kW (.int 16)) nilA)))))
  (seqF (asgO (.nm 3) (zpx A.fen (zbd A) (fun _ _=>False)))
  (seqF (zcu fun S=>(asgW (.nm 4) (zas 0 zcw nilA)))
  (seqF (zcu fun S=>(ifS (notT (truW (ziT S 2 (zaQ A) (zab (vW 3) (zab (vW 4) nilA))))) (retW (kW (.bl false))) nilS))
  (seqF (forF (fun S=>(zfU (binW addD (kW (.int 8)) (zas 2 zai (zab (vW 1) (zab (kW (.int 25)) nilA)))))) (.nm 5) (seqF (zcu fun S=>(asgW (.nm 6) (binW ixXD (valW (lstW (zab (kW (.str "mark")) (zab (kW (.str "hand")) (zab (kW (.str "mark")) (zab (kW (.str "hand")) (zab (kW (.str "settle")) nilA))))))) (zas 2 zai (zab (vW 1) (zab (kW (.int 5)) nilA))))))
  (seqF (zcu fun S=>(asgW (.nm 7) (tupW (zab (vW 6) (zab (binW ixXD (vW 2) (zas 2 zai (zab (vW 1) (zab (kW (.int 16)) nilA)))) nilA)))))
  (seqF (zcu fun S=>(ifS (blW (binW eqD (zas 2 zai (zab (vW 1) (zab (kW (.int 3)) nilA))) (kW (.int 0)))) (asgW (.nm 7) (zas 4 zbh (zab (vW 1) (zab (vW 4) (zab (vW 2) (zab (vW 7) nilA)))))) nilS))
  (seqF (asgO (.nm 4) (zgT 3 (zbw A) (fun _ _=>False) (zbz (zbS fun S=>(vW 3)) (zbz (zbS fun S=>(vW 4)) (zbz (zbS fun S=>(vW 7)) nilO)))))
  (zcu fun S=>(ifS (orT (blW (isNW (vW 4))) (notT (truW (ziT S 2 (zaQ A) (zab (vW 3) (zab (vW 4) nilA)))))) (retW (kW (.bl false))) nilS)))))))
  (zcu fun S=>(retW (kW (.bl true)))))))))
theorem zdz  (h:F ds P) (k:∀ d,P d->Q d):up F ds Q:=⟨P,h,k⟩
def ziQ (t:Tg) (C:WT) (E:WE) (ρc:Env) (x:D) (o:Option D):Prop:=∀ (Y:D->Prop) (N:Prop),(match o with | some d=>Y d | none=>N)->gD t x ρc fun ρ2=>C ρ2 fun b=>if b = true then E ρ2 Y else N
theorem zfm {α:Type}   (emb:α->D) (g:α->Option D):∀ (xs:List α) (acc:List D),(∀ x ∈ xs,ziQ t C E ρc (emb x) (g x))->Q (acc ++ xs.filterMap g)->zcv t C E ρc Q (xs.map emb) acc
 | [],acc,_,q=>by simpa [zcv] using q
 | x :: xs,acc,h,q=>by
  show gD t (emb x) ρc fun ρ2=>C ρ2 fun b=>if b = true then E ρ2 fun d=>zcv t C E ρc Q (xs.map emb) (acc ++ [d]) else zcv t C E ρc Q (xs.map emb) acc
  refine h x YAf _ _ ?_
  cases e:g x with
  | none=>
   refine zfm emb g xs acc (fun y hy=>h y (YAq _ hy)) ?_
   rw [YAZ,e] at q;exact q
  | some d=>
   refine zfm emb g xs (acc ++ [d]) (fun y hy=>h y (YAq _ hy)) ?_
   rw [YAZ,e] at q
   rw [YCz];exact q
theorem zf2 {α β:Type}   (emb:α->D) (out:β->D) (R:α->β->Prop):∀ (xs:List α) (ys:List β),(∀ x ∈ xs,∀ Y:D->Prop,(∀ y,R x y->Y (out y))->gD t (emb x) ρc fun ρ2=>C ρ2 fun b=>b = true/\E ρ2 Y) ->
  zga C->(∀ zs:List β,zs.length = xs.length->(∀ z ∈ zs,∃ x ∈ xs,R x z)->Q ((ys ++ zs).map out))->zcv t C E ρc Q (xs.map emb) (ys.map out)
 | [],ys,_,_,q=>by simpa [zcv] using q [] rfl (fun z h=>by cases h)
 | x :: xs,ys,h,mC,q=>by
  show gD t (emb x) ρc fun ρ2=>C ρ2 fun b=>if b = true then E ρ2 fun d=>zcv t C E ρc Q (xs.map emb) (ys.map out ++ [d]) else zcv t C E ρc Q (xs.map emb) (ys.map out)
  refine zbG t (emb x) ρc (fun ρ2 z=>mC ρ2 _ _ (fun b z=>?_) z) (h x YAf (fun d=>zcv t C E ρc Q (xs.map emb) (ys.map out ++ [d])) fun y hy=>?_)
  ·rw [z.1,if_pos rfl];exact z.2
  ·have:=zf2 (t:=t) (C:=C) (E:=E) (ρc:=ρc) (Q:=Q) emb out R xs (ys ++ [y]) (fun x' hx'=>h x' (YAq _ hx')) mC (fun zs hl hz=>by
    have:=q (y :: zs) (by simp [hl]) (fun z hz'=>by
     rcases YAr.mp hz' with e | e
     ·exact ⟨x,YAf,e ▸ hy⟩
     ·obtain ⟨x',h1,h2⟩:=hz z e;exact ⟨x',YAq _ h1,h2⟩)
    simpa using this)
   simpa using this
theorem ziy:zga noIf:=fun ρ Q Q' k q=>k _ q
theorem zgO  (I:List D->Env->Prop)
  (hs:∀ x rest ρ (E':En),(∀ ρ,I rest ρ->E'.nx ρ)->(∀ ρ,I rest ρ->E'.ct ρ)->(∀ d,E.rt d->E'.rt d)->(∀ ρ,E.nx ρ->E'.bk ρ)->I (x :: rest) ρ->gD t x ρ fun ρ'=>B E' ρ') (hd:∀ ρ,I [] ρ->E.nx ρ) :
  ∀ (xs:List D) (ρ:Env),I xs ρ->zdU t B E xs ρ
 | [],ρ,h=>hd ρ h
 | x :: xs,ρ,h=>hs x xs ρ { nx:=zdU t B E xs,ct:=zdU t B E xs,bk:=E.nx,rt:=E.rt } (zgO I hs hd xs) (zgO I hs hd xs) (fun d z=>z) (fun ρ z=>z) h
theorem znq  (h:d ∈ rngL m n):∃ k:Int,d = .int k/\m <= k/\k < m + n:=by
 unfold rngL at h
 obtain ⟨k,hk,rfl⟩:=YBc.mp h
 exact ⟨_,rfl,by omega,by have:=YCV.mp hk;omega⟩
theorem zbl (i:Int):D.old (.int i) = .int i:=by unfold D.old;rfl
theorem zd2 (x y:Int):eqOk (.int x) (.int y):=⟨rfl,rfl,by show min 0 0 <= 50;decide⟩
theorem zjl (x y:Int):eqB (.int x) (.int y) = decide (x = y):=by
 show (x == y) = _;by_cases h:x = y <;> simp [h]
theorem zbI (x y:Bool):eqOk (.bl x) (.bl y):=⟨rfl,rfl,by show min 0 0 <= 50;decide⟩
theorem zoC  (q:Q (.bl (decide (x = y)))):eqD (.int x) (.int y) Q:=⟨zd2 _ _,by rw [zjl];exact q⟩
theorem zqj:D.old .box = .box:=by rw [D.old]
theorem zaH (x:Str):D.old (.str x) = .str x:=by rw [D.old]
theorem zl7 (x:Bool):D.old (.bl x) = .bl x:=by rw [D.old]
theorem zdu {m:Int} {Q:D->Prop} (h0:0 < m) (h1:m < 2 ^ 64) (k:∀ x:Int,0 <= x->x < m->Q (.int x)):up zai [.box,.int m] Q:=⟨Q,⟨⟨h0,h1⟩,k⟩,fun d z=>z⟩
theorem znd (n:Nat):rngL 0 n = (List.range n).map fun (k:Nat)=>D.int (k:Int):=by
 unfold rngL;refine YCp fun k _=>?_;simp
theorem zdN (m:Int) (n:Nat):(rngL m n).length = n:=by unfold rngL;simp
theorem zst {α:Type} (f:α->Bool) (xs:List α):(xs.map fun x=>D.bl (f x)) = (xs.map f).map D.bl:=by rw [YBG];rfl
theorem zfl {α:Type} {f:α->Bool} {xs:List α} {n:Bool} {Q:D->Prop} (q:Q (.bl (xs.all f))):allF [.lst n (xs.map fun x=>D.bl (f x))] Q:=
 ⟨xs.map f,zst f xs,by rw [List.all_map];exact q⟩
theorem zgf {α β:Type} (f:α->β) (xs:List α):xs.filterMap (fun x=>some (f x)) = xs.map f:=by rw [List.filterMap_eq_map']
theorem zd8 {α:Type} {t:Tg} {C:WT} {E:WE} {ρc:Env} {Q:List D->Prop} (emb:α->D) (g:α->D) (xs:List α) (h:∀ x ∈ xs,ziQ t C E ρc (emb x) (some (g x))) (q:Q (xs.map g)):zcv t C E ρc Q (xs.map emb) []:=
 zfm emb (fun x=>some (g x)) xs [] h (by rw [zgf];exact q)
mutual
def zap:D->Nat->Bool
 | .non,_=>true
 | .bl _,_=>true
 | .int _,_=>true
 | .str x,_=>PyData.canLay0 (.str x)
 | .box,_=>false
 | .obj _,_=>false
 | .dct _ _ _,_=>false
 | .fdc _ _,_=>false
 | .tup xs,n + 1=>decide (xs.length <= 1000) && zbJ xs n
 | .lst _ xs,n + 1=>decide (xs.length <= 1000) && zbJ xs n
 | .tup _,0=>false
 | .lst _ _,0=>false
def zbJ:List D->Nat->Bool
 | [],_=>true
 | x :: xs,n=>zap x n && zbJ xs n
end
theorem zdH:∀ {xs:List D} {n:Nat} {x:D},zbJ xs n = true->x ∈ xs->zap x n = true
 | y :: ys,n,x,h,hx=>by
  rw [zbJ,YAx] at h
  rcases YAr.mp hx with e | e
  ·rw [e];exact h.1
  ·exact zdH h.2 e
theorem zfN:∀ xs:List D,zipL xs xs = xs.map fun x=>.tup [x,x]
 | []=>rfl
 | x :: xs=>by rw [zipL,zfN xs];rfl
mutual
theorem zmL:∀ d:D,d.old.old = d.old
 | .non=>by simp [D.old]
 | .bl _=>by simp [D.old]
 | .int _=>by simp [D.old]
 | .str _=>by simp [D.old]
 | .box=>by simp [D.old]
 | .obj _=>by simp [D.old]
 | .dct _ _ xs=>by rw [D.old,D.old,YBG];congr 1;exact zei xs
 | .fdc _ xs=>by rw [D.old,D.old,YBG];congr 1;exact zei xs
 | .tup xs=>by rw [D.old,D.old,YBG];congr 1;exact zei xs
 | .lst _ xs=>by rw [D.old,D.old,YBG];congr 1;exact zei xs
theorem zei:∀ xs:List D,xs.map (D.old ∘ D.old) = xs.map D.old
 | []=>rfl
 | x :: xs=>by rw [YAm,YAm,zei xs,Function.comp_apply,zmL x]
end
mutual
theorem zeE:∀ (d:D) (n:Nat),zap d.old n = zap d n
 | .non,_=>by rw [D.old]
 | .bl _,_=>by rw [D.old]
 | .int _,_=>by rw [D.old]
 | .str _,_=>by rw [D.old]
 | .box,_=>by rw [D.old]
 | .obj _,_=>by rw [D.old]
 | .dct _ _ _,_=>by rw [D.old,zap,zap]
 | .fdc _ _,_=>by rw [D.old,zap,zap]
 | .tup xs,n + 1=>by rw [D.old,zap,zap,YAd,zdG xs n]
 | .lst _ xs,n + 1=>by rw [D.old,zap,zap,YAd,zdG xs n]
 | .tup xs,0=>by rw [D.old,zap,zap]
 | .lst _ xs,0=>by rw [D.old,zap,zap]
theorem zdG:∀ (xs:List D) (n:Nat),zbJ (xs.map D.old) n = zbJ xs n
 | [],_=>rfl
 | x :: xs,n=>by rw [YAm,zbJ,zbJ,zeE x n,zdG xs n]
end
theorem lay_sc:∀ {d:D} {n:Nat},zap d n = true->(∀ xs,d ≠ .tup xs)->(∀ b xs,d ≠ .lst b xs)->layD d = true
 | .non,_,_,_,_=>rfl
 | .bl _,_,_,_,_=>rfl
 | .int _,_,_,_,_=>rfl
 | .str x,_,h,_,_=>by rw [zap] at h;rw [layD];exact h
 | .box,_,h,_,_=>by rw [zap] at h;cases h
 | .obj _,_,h,_,_=>by rw [zap] at h;cases h
 | .dct _ _ _,_,h,_,_=>by rw [zap] at h;cases h
 | .fdc _ _,_,h,_,_=>by rw [zap] at h;cases h
 | .tup xs,_,_,h,_=>absurd rfl (h xs)
 | .lst b xs,_,_,_,h=>absurd rfl (h b xs)
theorem zdg:∀ (n:Nat) (d e:D),d.old = e.old->zap d n = true->zaS (n + 1) [d,e] (· = .bl true)
 | n,d,e,he,h=>by
  have ho:=h
  rw [<- zeE] at ho
  unfold zaS fnW zaw
  rw [YAm,YAm,<- he]
  have hoo:d.old.old = d.old:=zmL d
  revert ho hoo
  generalize d.old = x
  intro ho hoo
  cases x with
  | non=>rfl
  | bl b=>exact ⟨zbI _ _,zbI _ _,zbI _ _,⟨rfl,rfl,by show min 0 0 <= 50;decide⟩,by show D.bl (b == b) = _;simp⟩
  | int i=>exact ⟨zbI _ _,zbI _ _,zbI _ _,zd2 _ _,by show D.bl (i == i) = _;simp⟩
  | str z=>exact ⟨zbI _ _,zbI _ _,zbI _ _,⟨lay_sc ho (fun _ h=>by cases h) (fun _ _ h=>by cases h),lay_sc ho (fun _ h=>by cases h) (fun _ _ h=>by cases h),by show min 0 0 <= 50;decide⟩,by show D.bl (z == z) = _;simp⟩
  | box=>rw [zap] at ho;cases ho
  | obj a=>rw [zap] at ho;cases ho
  | dct n ks xs=>rw [zap] at ho;cases ho
  | fdc ks xs=>rw [zap] at ho;cases ho
  | tup xs=>
   cases n with
   | zero=>rw [zap] at ho;cases ho
   | succ n=>
    rw [zap,YAx] at ho
    have hl:=YAE ho.1
    refine ⟨zbI _ _,zbI _ _,zd2 _ _,?_⟩
    show blD (.bl (eqB (.int (xs.length:Int)) (.int (xs.length:Int)))) _
    rw [zjl,YAy rfl]
    show _/\zcv _ _ _ _ _ (zipL xs xs) []
    rw [zfN]
    refine ⟨by rw [YAd];omega,zd8 (fun x=>.tup [x,x]) (fun _=>.bl true) xs (fun x hx Y N y=>⟨rfl,rfl,zdz (zdg n x x rfl (zdH ho.2 hx)) fun d hd=>by subst hd;exact y⟩) ?_⟩
    exact zfl (f:=fun _=>true) (xs:=xs) (n:=true) (by show D.bl _ = _;congr 1;simp)
  | lst b xs=>
   cases n with
   | zero=>rw [zap] at ho;cases ho
   | succ n=>
    rw [zap,YAx] at ho
    have hl:=YAE ho.1
    refine ⟨zbI _ _,zbI _ _,zd2 _ _,?_⟩
    show blD (.bl (eqB (.int (xs.length:Int)) (.int (xs.length:Int)))) _
    rw [zjl,YAy rfl]
    show _/\zcv _ _ _ _ _ (zipL xs xs) []
    rw [zfN]
    refine ⟨by rw [YAd];omega,zd8 (fun x=>.tup [x,x]) (fun _=>.bl true) xs (fun x hx Y N y=>⟨rfl,rfl,zdz (zdg n x x rfl (zdH ho.2 hx)) fun d hd=>by subst hd;exact y⟩) ?_⟩
    exact zfl (f:=fun _=>true) (xs:=xs) (n:=true) (by show D.bl _ = _;congr 1;simp)
abbrev sg (x:Str):List Nat:=x.cps.toList
theorem zgn (x:Str):x.length = (sg x).length:=by unfold Str.length;simp
theorem zr9 (l:List Nat):sg ⟨l.toArray⟩ = l:=by simp
theorem zlN (x y:Str):sg (x ++ y) = sg x ++ sg y:=by show (x.cps ++ y.cps).toList = _;simp
theorem zjb (x y:Str):eqB (.str x) (.str y) = decide (x = y):=by
 show (x == y) = _
 by_cases h:x = y <;> simp [h]
def okS (x:Str):Bool:=PyData.canLay0 (.str x)
theorem zhH {x:Str} (h:∀ ch ∈ sg x,ch < 0x110000):okS x = true:=by
 show x.cps.all (· < 0x110000) = true
 rw [<- Array.all_toList,YBq]
 intro ch hc
 exact YAy (h ch hc)
theorem ok_lit {x:Str} (h:(sg x).all (fun ch=>decide (ch < 0x110000)) = true:=by decide +kernel):okS x = true:=zhH fun ch hc=>YAE (YBq.mp h ch hc)
theorem zj9 {x y:Str} (hx:okS x = true) (hy:okS y = true):eqOk (.str x) (.str y):=⟨by rw [layD];exact hx,by rw [layD];exact hy,by show min 0 0 <= 50;decide⟩
theorem zlM (s:Str) (ch:Nat):hasS s ⟨#[ch]⟩ = decide (ch ∈ sg s):=StrLaws.found_one s ch
def zhA (x signs:Str) (n:Int):Bool:=(decide (1 <= (x.length:Int)) && decide ((x.length:Int) <= n)) && (sg x).all fun ch=>decide (ch ∈ sg signs)
theorem zkF {i:Nat} {ρ:Env} {d:D} {Q:D->Prop} (h:ρ[i]? = some (.val d)) (q:Q d):vW i ρ Q:=by unfold vW;rw [h];exact q
theorem bl_t {b:Bool} {f:Bool->Prop} (q:f b):blD (.bl b) f:=q
theorem zro {p q:Prop} (h:p):if true = true then p else q:=h
theorem zj5 {i j:Int} {Q:D->Prop} (q:Q (.bl (decide (i <= j)))):leD (.int i) (.int j) Q:=q
theorem zge (x signs:Str) (n:Int) (hx:x.length <= 100000):zbN [.str x,.str signs,.int n] (· = .bl (zhA x signs n)):=by
 unfold zbN fnW zaw
 rw [YAm,YAm,YAm,zaH,zaH,zbl]
 refine ⟨hx,zj5 ?_⟩
 unfold zhA
 cases decide (1 <= (x.length:Int)) with
 | false=>rfl
 | true=>
  refine bl_t (zro (zkF (d:=.int n) rfl (zj5 ?_)))
  cases decide ((x.length:Int) <= n) with
  | false=>rfl
  | true=>
   show _/\zcv _ _ _ _ _ (chs x) []
   refine ⟨by unfold chs;rw [YAd,<- zgn];exact hx,?_⟩
   unfold chs
   refine zd8 (fun ch=>D.str ⟨#[ch]⟩) (fun ch=>.bl (decide (ch ∈ sg signs))) (sg x) (fun ch _ Y N y=>?_) ?_
   ·show Y (.bl (if false = true then !hasS signs ⟨#[ch]⟩ else hasS signs ⟨#[ch]⟩))
    rw [if_neg (by decide),zlM]
    exact y
   ·exact zfl (f:=fun ch=>decide (ch ∈ sg signs)) (xs:=sg x) (n:=true) (by simp)
abbrev LET:Str := "abcdefghijklmnopqrstuvwxyz"
theorem zpr (ch:Nat):ch ∈ sg LET ↔ 97 <= ch/\ch <= 122:=by
 have:sg LET = List.range' 97 26:=by decide +kernel
 rw [this,List.mem_range']
 constructor
 ·rintro ⟨i,h,rfl⟩;omega
 ·intro h;exact ⟨ch - 97,by omega,by omega⟩
def zbb (x:Str):Bool:=zhA x LET 8
theorem zi5 (x:Str) (hx:x.length <= 100000):zcn [.str x] (· = .bl (zbb x)):=by
 unfold zcn fnW zaw
 rw [YAm,zaH]
 exact ⟨rfl,zdz (zge x LET 8 hx) fun d z=>z⟩
theorem zgY (x:Str) (lo hi:Option Int):(cutS x lo hi).length <= x.length:=by
 rw [zgn,zgn]
 unfold cutS
 rw [zr9,YCa,YCI]
 exact YAF (Nat.min_le_right _ _) (Nat.sub_le _ _)
theorem zj4 {x:Str} {lo hi:Option Int} {ch:Nat} (h:ch ∈ sg (cutS x lo hi)):ch ∈ sg x:=by
 unfold cutS at h
 rw [zr9] at h
 exact List.mem_of_mem_drop (List.mem_of_mem_take h)
theorem zgF {x:Str} (h:okS x = true):∀ ch ∈ sg x,ch < 0x110000:=by
 have h:x.cps.all (· < 0x110000) = true:=h
 rw [<- Array.all_toList,YBq] at h
 intro ch hc
 exact YAE (h ch hc)
theorem zlE {x:Str} (h:okS x = true) (lo hi:Option Int):okS (cutS x lo hi) = true:=zhH fun ch hc=>zgF h ch (zj4 hc)
theorem zno {b:Bool} {hs:List Int} {i:Int} {Q:D->Prop} (h0:0 <= i) (h1:i < hs.length) (q:∀ k,k ∈ hs->Q (.int k)):ixXD (.lst b (hs.map D.int)) (.int i) Q:=by
 have hn:i.toNat < hs.length:=by omega
 have e:atI (hs.map D.int) i = some (.int hs[i.toNat]):=by
  obtain ⟨j,rfl⟩:=YA5 h0
  exact zaD (by rw [YAt,YAn (by omega)];rfl)
 show (match atI (hs.map D.int) i with | some d=>Q d | none=>False)
 rw [e]
 exact q _ (YCN hn)
theorem zod {z:Str} {i:Int} {Q:D->Prop} (hz:z.length <= 100000) (h0:0 <= i) (h1:i < z.length) (q:∀ ch,ch ∈ sg z->Q (.str ⟨#[ch]⟩)):ixXD (.str z) (.int i) Q:=by
 have hn:i.toNat < (sg z).length:=by rw [<- zgn];omega
 have e:atI (sg z) i = some (sg z)[i.toNat]:=by
  obtain ⟨j,rfl⟩:=YA5 h0
  exact zaD (YAn hn)
 show _/\(match atI (sg z) i with | some ch=>Q (.str ⟨#[ch]⟩) | none=>False)
 rw [e]
 exact ⟨hz,q _ (YCN hn)⟩
abbrev sE:Str := ""
theorem zjJ:∀ ts:List Str,sg (Str.join sE ts) = (ts.map sg).flatten
 | []=>rfl
 | [t]=>by show sg t = _;simp
 | t :: u :: r=>by
  show sg (t ++ sE ++ Str.join sE (u :: r)) = _
  rw [zlN,zlN,zjJ (u :: r)]
  have:sg sE = []:=by decide +kernel
  rw [this,YAS];rfl
theorem zmN (cs:List Nat):sg (Str.join sE (cs.map fun ch=>⟨#[ch]⟩)) = cs:=by
 rw [zjJ,YBG]
 induction cs with
 | nil=>rfl
 | cons ch cs ih=>rw [YAm,YBi,ih];rfl
theorem zqd {cs:List Nat} (h1:1 <= cs.length) (h2:cs.length <= 8) (h:∀ ch ∈ cs,ch ∈ sg LET):zbb (Str.join sE (cs.map fun ch=>⟨#[ch]⟩)) = true:=by
 unfold zbb zhA
 rw [zgn,zmN,YAy (by omega:1 <= (cs.length:Int)),YAy (by omega:(cs.length:Int) <= 8),YBq.mpr fun ch hc=>YAy (h ch hc)]
 rfl
def In26 (ns:List Int):Prop:=∀ n ∈ ns,0 <= n/\n < 26
theorem zsT {ρ:Env} {n:Bool} {ns:List Int} {i j:Nat} {Q:D->Prop} (hi:ρ[i]? = some (.val (.lst n (ns.map D.int)))) (hj:ρ[j]? = some (.val (.str LET))) (h26:In26 ns) (h1:1 <= ns.length) (h2:ns.length <= 8) (q:∀ x,zbb x = true->Q (.str x)) :
  smW joF (kW (.str sE)) (valW (zay [none,some j] (zbA (vW i)) (.nm 0) noIf (binW ixXD (vW 1) (vW 0)))) ρ Q:=by
 show (vW i ρ fun d=>zn4 d _)
 refine zkF hi ?_
 refine ⟨by rw [YAd];omega,?_⟩
 have:=zf2 (t:=.nm 0) (C:=noIf) (E:=binW ixXD (vW 1) (vW 0)) (ρc:=subE [none,some j] ρ) (Q:=fun xs=>joF sE (.lst true xs) Q) D.int (fun ch:Nat=>D.str ⟨#[ch]⟩) (fun _ ch=>ch ∈ sg LET) ns [] (fun x hx Y y=>by
  have e:(subE [none,some j] ρ)[1]? = some (.val (.str LET)):=by
   unfold subE
   simp only [YAm,YA7,YAu,List.getElem?_cons_zero]
   rw [hj]
  have e2:((subE [none,some j] ρ).set 0 (.val (.int x)))[1]? = some (.val (.str LET)):=by rw [YAi (by decide)];exact e
  refine ⟨rfl,zkF e2 (zkF (d:=.int x) (by unfold subE;rfl) ?_)⟩
  have hl:(LET:Str).length = 26:=by decide +kernel
  exact zod (by rw [hl];decide) (h26 x hx).1 (by rw [hl];exact (h26 x hx).2) fun ch hc=>y ch hc) ziy (fun zs hl hz=>by
  have hc:∀ z ∈ zs,z ∈ sg LET:=fun z hz'=>by obtain ⟨x,_,h⟩:=hz z hz';exact h
  refine ⟨zs.map fun ch=>⟨#[ch]⟩,by simp,fun t ht=>?_,by rw [YAd];omega,by decide +kernel,q _ (zqd (by omega) (by omega) hc)⟩
  obtain ⟨ch,_,rfl⟩:=YBc.mp ht
  show 1 <= 2000;decide)
 exact this
theorem zmH (d e:D) (n:Nat):zaw (n + 2) [d,e] = .val d.old :: .val e.old :: List.replicate n .un:=by unfold zaw;rfl
theorem zkx {E:En} {m size k:Int} {like:Bool} {fs ns:List Int} {rows:List Str} {pl:Nat} (hpl:pl < ns.length) (h8:ns.length <= 8) (hf:pl < fs.length) (f26:In26 fs) (n26:In26 ns) (hr:rows.length < 1000)
  (q:∀ x d,zbb x = true->E.nx [.val .box,.val (.int m),.val (.str LET),.val (.int size),.val (.int pl),.val (.bl like),.val (.lst true (fs.map D.int)),.own ((rows ++ [x]).map D.str),.val (.int k),d]) :
  seqW (putW 9 (vW 4) (binW modD (binW addD (binW ixXD (vW 6) (vW 4)) (binW mulD (kW (.int 11)) (vW 8))) (kW (.int 26))))
   (frzW 9 (appW 7 (smW joF (kW (.str sE)) (valW (zay [none,some 2] (zbA (vW 9)) (.nm 0) noIf (binW ixXD (vW 1) (vW 0))))))) E
   [.val .box,.val (.int m),.val (.str LET),.val (.int size),.val (.int pl),.val (.bl like),.val (.lst true (fs.map D.int)),.own (rows.map D.str),.val (.int k),.own (ns.map D.int)]:=by
 refine zno (b:=true) (i:=(pl:Int)) (by omega) (by omega) fun a ha=>?_
 refine ⟨.inl ⟨by decide,by decide⟩,by decide,?_⟩
 have e:ixN (ns.map D.int).length (pl:Int) = some pl:=by
  unfold ixN;rw [YAd,if_pos (by omega),if_pos (by omega)];simp
 show (match ixN (ns.map D.int).length (pl:Int) with | some m=>_ | none=>False)
 rw [e]
 have hv:0 <= (a + 11 * k) % 26/\(a + 11 * k) % 26 < 26:=⟨YBl _ (by decide),YA6 _ (by decide)⟩
 have es:(ns.map D.int).set pl (.int ((a + 11 * k) % 26)) = (ns.set pl ((a + 11 * k) % 26)).map D.int:=List.map_set.symm
 show frzW 9 (appW 7 (smW joF (kW (.str sE)) (valW (zay [none,some 2] (zbA (vW 9)) (.nm 0) noIf (binW ixXD (vW 1) (vW 0)))))) E [.val .box,.val (.int m),.val (.str LET),.val (.int size),.val (.int pl),.val (.bl like),.val (.lst true (fs.map D.int)),.own (rows.map D.str),.val (.int k),.own ((ns.map D.int).set pl (.int ((a + 11 * k) % 26)))]
 rw [es]
 show smW joF (kW (.str sE)) (valW (zay [none,some 2] (zbA (vW 9)) (.nm 0) noIf (binW ixXD (vW 1) (vW 0)))) [.val .box,.val (.int m),.val (.str LET),.val (.int size),.val (.int pl),.val (.bl like),.val (.lst true (fs.map D.int)),.own (rows.map D.str),.val (.int k),.val (.lst true ((ns.set pl ((a + 11 * k) % 26)).map D.int))] _
 refine zsT (i:=9) (j:=2) rfl rfl (fun n hn=>?_) (by rw [YCm];omega) (by rw [YCm];omega) fun x hx=>?_
 ·rcases List.mem_or_eq_of_mem_set hn with h | h
  ·exact n26 n h
  ·rw [h];exact hv
 ·refine ⟨by rw [YAd];omega,?_⟩
  have:=q x (.val (.lst true ((ns.set pl ((a + 11 * k) % 26)).map D.int))) hx
  rw [YAT] at this
  exact this
theorem zoH {ρ:Env} {j:Nat} {n:Nat} {Q:List D->Prop} (hj:ρ[j]? = some (.val .box)) (hn:n <= 1000) (q:∀ ns:List Int,ns.length = n->In26 ns->Q (ns.map D.int)) :
  (rngL 0 n).length <= 100000/\zcv (.nm 0) noIf (zas 2 zai (zab (vW 1) (zab (kW (.int 26)) nilA))) (subE [none,some j] ρ) Q (rngL 0 n) []:=by
 refine ⟨by rw [zdN];omega,?_⟩
 rw [znd]
 have:=zf2 (t:=.nm 0) (C:=noIf) (E:=zas 2 zai (zab (vW 1) (zab (kW (.int 26)) nilA))) (ρc:=subE [none,some j] ρ) (Q:=Q) (fun k:Nat=>D.int (k:Int)) D.int (fun _ x=>0 <= x/\x < 26) (List.range n) [] (fun x hx Y y=>by
  have e:(subE [none,some j] ρ)[1]? = some (.val .box):=by
   unfold subE
   simp only [YAm,YA7,YAu,List.getElem?_cons_zero]
   rw [hj]
  have e2:((subE [none,some j] ρ).set 0 (.val (.int x)))[1]? = some (.val .box):=by rw [YAi (by decide)];exact e
  exact ⟨rfl,zkF e2 ⟨rfl,zdu (by decide) (by decide) fun z z0 z1=>y z ⟨z0,z1⟩⟩⟩) ziy (fun zs hl hz=>q zs (by rw [hl,List.length_range]) fun z hz'=>by obtain ⟨x,_,h⟩:=hz z hz';exact h)
 exact this
theorem zmW (m:Int) (m0:0 <= m) (m1:m <= 100):zbT [.box,.int m] (fun d=>∃ ns:List Str,d = .lst true (ns.map D.str)/\(ns.length:Int) = m/\∀ x ∈ ns,zbb x = true):=by
 unfold zbT fnW
 rw [zmH .box (.int m) 8,zqj,zbl]
 refine ⟨rfl,zdu (by decide) (by decide) fun a a0 a1=>?_⟩
 refine ⟨rfl,zdu (by omega) (by omega) fun p p0 p1=>?_⟩
 refine ⟨rfl,zdu (by decide) (by decide) fun l l0 l1=>⟨zd2 _ _,?_⟩⟩
 generalize eqB (.int l) (.int 0) = like
 refine ⟨⟨by omega,by omega⟩,?_⟩
 refine zoH (j:=0) (n:=(1 + a).toNat) rfl (by omega) fun fs fl f26=>?_
 refine ⟨YBy _,⟨by omega,by omega⟩,?_⟩
 obtain ⟨pl,rfl⟩:=YA5 p0
 refine zgO (fun rest ρ=>∃ (rows:List Str) (s8 s9:Sl),ρ = [.val .box,.val (.int m),.val (.str LET),.val (.int (1 + a)),.val (.int (pl:Int)),.val (.bl like),.val (.lst true (fs.map D.int)),.own (rows.map D.str),s8,s9]/\(rows.length + rest.length:Int) = m/\(∀ x ∈ rows,zbb x = true)/\∀ d ∈ rest,∃ k,d = .int k) ?_ ?_ _ _ ⟨[],.un,.un,rfl,by rw [zdN];show (0:Int) + (m.toNat:Int) = m;omega,(fun x h=>by cases h),fun d hd=>by obtain ⟨k,e,_⟩:=znq hd;exact ⟨k,e⟩⟩
 ·rintro k rest ρ E' hn hc hr hb ⟨rows,s8,s9,rfl,hl,hx,hk⟩
  obtain ⟨k,rfl⟩:=hk k YAf
  have h00:(0:Int) <= (D.int k :: rest).length:=by omega
  have hl':(rows.length:Int) < 1000:=by omega
  have fin:∀ ns:List Int,pl < ns.length->ns.length <= 8->In26 ns->seqW (putW 9 (vW 4) (binW modD (binW addD (binW ixXD (vW 6) (vW 4)) (binW mulD (kW (.int 11)) (vW 8))) (kW (.int 26))))
   (frzW 9 (appW 7 (smW joF (kW (.str sE)) (valW (zay [none,some 2] (zbA (vW 9)) (.nm 0) noIf (binW ixXD (vW 1) (vW 0))))))) E'
   [.val .box,.val (.int m),.val (.str LET),.val (.int (1 + a)),.val (.int (pl:Int)),.val (.bl like),.val (.lst true (fs.map D.int)),.own (rows.map D.str),.val (.int k),.own (ns.map D.int)]:=fun ns h1 h2 h3=>
   zkx h1 h2 (by omega) f26 h3 (by omega) fun x d hxx=>hn _ ⟨rows ++ [x],.val (.int k),d,rfl,by rw [YAs,List.length_singleton];rw [YAP] at hl;omega,fun y hy=>(YAR.mp hy).elim (hx y) (fun z=>by rw [YAB.mp z];exact hxx),fun d hd=>hk d (YAq _ hd)⟩
  cases like with
  | true=>exact fin fs (by omega) (by omega) f26
  | false=>
   refine ⟨rfl,zdu (by omega) (by omega) fun t t0 t1=>⟨⟨by omega,by omega⟩,?_⟩⟩
   exact zoH (j:=0) (n:=(((pl:Int) + 1) + t).toNat) rfl (by omega) fun ns nl n26=>fin ns (by omega) (by omega) n26
 ·rintro ρ ⟨rows,s8,s9,rfl,hl,hx,hk⟩
  exact ⟨rows,rfl,by simpa using hl,hx⟩
end Fd
set_option maxHeartbeats 400000
namespace Fd
open PySem L2
def Ev (A:WE) (ρ:Env) (d:D):Prop:=∀ P:D->Prop,P d->A ρ P
def EvL (A:WL) (ρ:Env) (ds:List D):Prop:=∀ P:List D->Prop,P ds->A ρ P
def EvT (A:WT) (ρ:Env) (b:Bool):Prop:=∀ P:Bool->Prop,P b->A ρ P
def EvO (A:WO) (ρ:Env) (o:Option Int):Prop:=∀ P:Option Int->Prop,P o->A ρ P
section
variable {ρ:Env} {A B V:WE} {R:WL} {C C':WT} {d x y:D} {ds xs:List D} {i n:Nat} {b b':Bool}
theorem ev_v (h:ρ[i]? = some (.val d)):Ev (vW i) ρ d:=fun P p=>zkF h p
theorem ev_k:Ev (kW d) ρ d:=fun P p=>p
theorem zcb {f:F2} (hA:Ev A ρ x) (hB:Ev B ρ y) (h:∀ P:D->Prop,P d->f x y P):Ev (binW f A B) ρ d:=fun P p=>hA _ (hB _ (h P p))
theorem ev_nil:EvL nilA ρ []:=fun P p=>p
theorem zac (hA:Ev A ρ d) (hR:EvL R ρ ds):EvL (zab A R) ρ (d :: ds):=fun P p=>hA _ (hR _ p)
theorem zdC (hR:EvL R ρ ds) (h:ds.length <= 100000:=by simp):Ev (tupW R) ρ (.tup ds):=fun P p=>hR _ ⟨h,p⟩
theorem zbB (hR:EvL R ρ ds) (h:ds.length <= 100000:=by simp):EvL (lstW R) ρ ds:=fun P p=>hR _ ⟨h,p⟩
theorem zaG (hR:EvL R ρ ds):Ev (valW R) ρ (.lst true ds):=fun P p=>hR _ p
theorem zaY {F:Fn} (hR:EvL R ρ ds) (h:F ds (· = d)) (hl:ds.length = n:=by rfl):Ev (zas n F R) ρ d:=fun P p=>hR _ ⟨hl,zdz h fun e z=>by subst z;exact p⟩
theorem znK {f:FL} (hR:EvL R ρ ds) (h:∀ P:D->Prop,P d->f ds P):Ev (cbW f R) ρ d:=fun P p=>hR _ (h P p)
theorem znn {nn:Bool} {ks:List Str} {z:Str} (hA:Ev A ρ (.dct nn ks xs)) (h:zax ks xs z = some d):Ev (binW zau A (kW (.str z))) ρ d:=zcb hA ev_k fun P p=>by show optD (zax ks xs z) P;rw [h];exact p
theorem ztI {ks:List Str} {z:Str} (hA:Ev A ρ (.fdc ks xs)) (hB:Ev B ρ (.str z)) (h:zax ks xs z = some d):Ev (binW zau A B) ρ d:=zcb hA hB fun P p=>by show optD (zax ks xs z) P;rw [h];exact p
theorem zgd {t:List D} {k:Int} (hA:Ev A ρ (.tup t)) (hB:Ev B ρ (.int k)) (h:atI t k = some d):Ev (binW ixXD A B) ρ d:=zcb hA hB fun P p=>by show (match atI t k with | some d=>P d | none=>False);rw [h];exact p
theorem zh4 {m:Bool} {t:List D} {k:Int} (hA:Ev A ρ (.lst m t)) (hB:Ev B ρ (.int k)) (h:atI t k = some d):Ev (binW ixXD A B) ρ d:=zcb hA hB fun P p=>by show (match atI t k with | some d=>P d | none=>False);rw [h];exact p
theorem zgX {j k:Int} (hA:Ev A ρ (.int j)) (hB:Ev B ρ (.int k)):Ev (binW addD A B) ρ (.int (j + k)):=zcb hA hB fun P p=>p
theorem zqg {j k:Int} (hA:Ev A ρ (.int j)) (hB:Ev B ρ (.int k)):Ev (binW subD A B) ρ (.int (j - k)):=zcb hA hB fun P p=>p
theorem zg9 {s t:List D} (hA:Ev A ρ (.tup s)) (hB:Ev B ρ (.tup t)) (h:s.length + t.length <= 100000):Ev (binW addD A B) ρ (.tup (s ++ t)):=zcb hA hB fun P p=>⟨h,p⟩
theorem zcj {m l:Bool} {s t:List D} (hA:Ev A ρ (.lst m s)) (hB:Ev B ρ (.lst l t)) (h:s.length + t.length <= 100000):Ev (binW addD A B) ρ (.lst true (s ++ t)):=zcb hA hB fun P p=>⟨h,p⟩
theorem zih {t:List D} (hA:Ev A ρ (.tup t)):Ev (cbW zca (zab A nilA)) ρ (.int t.length):=znK (zac hA ev_nil) fun P p=>p
theorem zeT {m:Bool} {t:List D} (hA:Ev A ρ (.lst m t)):Ev (cbW zca (zab A nilA)) ρ (.int t.length):=znK (zac hA ev_nil) fun P p=>p
theorem zfy {s t:Str} (hA:Ev A ρ (.str s)) (hB:Ev B ρ (.str t)) (hs:okS s = true) (ht:okS t = true):Ev (binW eqD A B) ρ (.bl (decide (s = t))):=zcb hA hB fun P p=>⟨zj9 hs ht,by rw [zjb];exact p⟩
theorem zss {s t:Str} (hA:Ev A ρ (.str s)) (hB:Ev B ρ (.str t)) (hs:okS s = true) (ht:okS t = true):Ev (binW neD A B) ρ (.bl (!decide (s = t))):=zcb hA hB fun P p=>⟨zj9 hs ht,by rw [zjb];exact p⟩
theorem ze0 {s t:Int} (hA:Ev A ρ (.int s)) (hB:Ev B ρ (.int t)):Ev (binW eqD A B) ρ (.bl (decide (s = t))):=zcb hA hB fun P p=>zoC p
theorem zog {s t:Int} (hA:Ev A ρ (.int s)) (hB:Ev B ρ (.int t)):Ev (binW gtD A B) ρ (.bl (decide (t < s))):=zcb hA hB fun P p=>p
theorem zok {s t:Int} (hA:Ev A ρ (.int s)) (hB:Ev B ρ (.int t)):Ev (binW geD A B) ρ (.bl (decide (t <= s))):=zcb hA hB fun P p=>p
theorem zr4 (hA:Ev A ρ x):Ev (isNW A) ρ (.bl (isN x)):=fun P p=>hA _ p
theorem zbQ (h:Ev A ρ (.bl b)):EvT (blW A) ρ b:=fun P p=>h _ p
theorem zfO (h:Ev A ρ (.bl b)):EvT (truW A) ρ b:=fun P p=>h _ p
theorem zjI (h:EvT C ρ b):EvT (notT C) ρ (!b):=fun P p=>h _ p
theorem zow (h:EvT C ρ b) (h':b = false->EvT C' ρ b'):EvT (orT C C') ρ (b || b'):=fun P p=>h _ (by
 cases b
 ·exact h' rfl P p
 ·exact p)
theorem zaC (h:EvT C ρ b) (e:b = b'):EvT C ρ b':=e ▸ h
theorem znZ (h:Ev A ρ x) (e:x = y):Ev A ρ y:=e ▸ h
theorem zht:EvO noO ρ none:=fun P p=>p
theorem zer {k:Int} (h:Ev A ρ (.int k)):EvO (zd5 A) ρ (some k):=fun P p=>h _ p
theorem zoX {L U:WO} {l u:Option Int} {t:List D} (hA:Ev A ρ (.tup t)) (hL:EvO L ρ l) (hU:EvO U ρ u):Ev (slXW A L U) ρ (.tup (cutD t l u)):=fun P p=>hA _ (hL _ (hU _ p))
theorem zcG {α:Type} {sub:List (Option Nat)} {I:WL} {t:Tg} {E:WE} (emb:α->D) (g:α->Option D) (ys:List α) (hI:EvL I ρ (ys.map emb)) (hl:ys.length <= 100000) (h:∀ x ∈ ys,ziQ t C E (subE sub ρ) (emb x) (g x)):EvL (zay sub I t C E) ρ (ys.filterMap g):=fun P p=>
 hI _ ⟨by rw [YAd];exact hl,zfm emb g ys [] h (by rw [YCO];exact p)⟩
theorem zkn {t:List D} (hA:Ev A ρ (.tup t)):EvL (zbA A) ρ t:=fun P p=>hA _ p
theorem zeP {m:Bool} {t:List D} (hA:Ev A ρ (.lst m t)):EvL (zbA A) ρ t:=fun P p=>hA _ p
theorem ziB {t:List D} (hA:Ev A ρ (.tup t)):EvL (zkG A) ρ t:=fun P p=>hA _ p
theorem zrd {C:WT} {E:WE} {ρc:Env} {x d:D} {i:Nat} (hC:EvT C (ρc.set i (.val x)) true) (hE:Ev E (ρc.set i (.val x)) d):ziQ (.nm i) C E ρc x (some d):=fun Y N q=>by
 unfold gD;exact hC _ (hE _ q)
theorem zn7 {C:WT} {E:WE} {ρc:Env} {x:D} {i:Nat} (hC:EvT C (ρc.set i (.val x)) false):ziQ (.nm i) C E ρc x none:=fun Y N q=>by
 unfold gD;exact hC _ q
theorem zrH {C:WT} {E:WE} {ρc:Env} {x y d:D} {i j:Nat} (hC:EvT C ((ρc.set i (.val x)).set j (.val y)) true) (hE:Ev E ((ρc.set i (.val x)).set j (.val y)) d):ziQ (.tp 2 (.cons (.nm i) (.cons (.nm j) .nil))) C E ρc (.tup [x,y]) (some d):=fun Y N q=>by
 unfold gD;refine ⟨rfl,?_⟩;unfold gDs gD gDs gD gDs;exact hC _ (hE _ q)
theorem zoU {C:WT} {E:WE} {ρc:Env} {x y:D} {i j:Nat} (hC:EvT C ((ρc.set i (.val x)).set j (.val y)) false):ziQ (.tp 2 (.cons (.nm i) (.cons (.nm j) .nil))) C E ρc (.tup [x,y]) none:=fun Y N q=>by
 unfold gD;refine ⟨rfl,?_⟩;unfold gDs gD gDs gD gDs;exact hC _ q
end
section
variable {C:WT} {A B R:WS} {E:En} {ρ:Env} {V:WE} {d x y:D} {i j k:Nat}
theorem zcE (h:EvT C ρ false) (q:R E ρ):seqW (ifS C A nilS) R E ρ:=h _ q
theorem zth (h:EvT C ρ false) (q:B E ρ):ifS C A B E ρ:=h _ q
theorem zpd (h:EvT C ρ false) (q:seqW B R E ρ):seqW (ifS C A B) R E ρ:=h _ q
theorem zaK (h:EvT C ρ true) (q:seqW A R E ρ):seqW (ifS C A B) R E ρ:=h _ q
theorem zaR (h:Ev V ρ d) (q:R E (ρ.set i (.val d))):seqW (asgW (.nm i) V) R E ρ:=h _ (by unfold gD;exact q)
theorem ret_of (h:Ev V ρ d) (q:E.rt d):retW V E ρ:=h _ q
theorem ziA (h:Ev V ρ (.tup [x,y])) (q:R E ((ρ.set i (.val x)).set j (.val y))):seqW (asgW (.tp 2 (.cons (.nm i) (.cons (.nm j) .nil))) V) R E ρ:=by
 refine h _ ?_
 unfold gD
 refine ⟨rfl,?_⟩
 unfold gDs gD gDs gD gDs
 exact q
end
end Fd
set_option maxHeartbeats 400000
namespace Fd
open PySem L2
def KW:List Str:=["BadName","Taken","Full","NoMark","NoHand","Same","BadRise","NoRun","Aside","NotAside","BadNumber","NothingLeft","Steady","NoDeed","Known","NoFen","Settled","NoPage","nothing"]
def kbit (nm:Str):List Bool:=(KW.take 18).map (fun x=>decide (nm = x)) ++ [false]
def kres (nm:Str) (k:Nat):Option Str:=if (kbit nm).getD k false then some (KW.getD k "") else none
theorem zor:NSx.all (fun nm=>decide ((List.range 19).filterMap (kres nm) = [nm])) = true:=by decide +kernel
theorem znI:Txt.split ("BadName Taken Full NoMark NoHand Same BadRise NoRun Aside NotAside BadNumber NothingLeft" ++ " Steady NoDeed Known NoFen Settled NoPage nothing") " " = KW:=by decide +kernel
theorem zrV {A:WE} {ρ:Env} {ea:Addr} {b:Bool} (h:Ev A ρ (.obj ea)):Ev (isEW A ea b) ρ (.bl b):=fun P p=>h _ ⟨rfl,p⟩
theorem zp3 {A:WE} {ρ:Env} {b:Bool} (h:Ev A ρ (.bl b)):Ev (notW A) ρ (.bl (!b)):=fun P p=>h _ p
theorem zq7 {A:WE} {ρ:Env} {n:Nat} (h:Ev A ρ (.int n)) (hn:n <= 100000):EvL (zfU A) ρ ((List.range n).map fun (k:Nat)=>D.int k):=fun P p=>h _ ⟨⟨by omega,by omega⟩,by
 have e:rngL 0 (n:Int).toNat = (List.range n).map fun (k:Nat)=>D.int k:=by
  unfold rngL
  simp
 rw [e];exact p⟩
theorem znY {A B:WE} {ρ:Env} {z b:Str} (hA:Ev A ρ (.str z)) (hB:Ev B ρ (.str b)) (h1:b.length ≠ 0) (h2:z.length <= 100000):Ev (smW spF A B) ρ (.lst true ((Txt.split z b).map D.str)):=fun P p=>hA _ (hB _ ⟨⟨h1,h2⟩,p⟩)
theorem ziZ {A B:WE} {ρ:Env} {z b:Str} (hA:Ev A ρ (.str z)) (hB:Ev B ρ (.str b)) (h:z.length + b.length <= 100000):Ev (binW addD A B) ρ (.str (z ++ b)):=zcb hA hB fun P p=>⟨h,p⟩
theorem zma {nm:Str} (hn:nm ∈ NSx) {s0:Sl}:Ev (valW (zay [none,some 2,some 1] (zfU (cbW zca (zab (vW 2) nilA))) (.nm 0) (truW (binW ixXD (vW 2) (vW 0))) (binW ixXD (vW 1) (vW 0)))) [s0,.val (.lst true ((kbit nm).map D.bl)),.val (.lst true (KW.map D.str))] (.lst true [.str nm]):=by
 have h:=YAE (YBq.mp zor nm hn)
 have e:(List.range 19).filterMap (fun k=>(kres nm k).map D.str) = [D.str nm]:=by
  have:=congrArg (List.map D.str) h
  rw [List.map_filterMap] at this
  exact this
 rw [<- e]
 refine zaG (zcG (fun k:Nat=>D.int k) _ (List.range 19) (zq7 (n:=19) (zeT (t:=KW.map D.str) (ev_v rfl)) (by decide)) (by decide) fun k hk=>?_)
 have hk:k < 19:=YCV.mp hk
 have lb:(kbit nm).length = 19:=rfl
 have hb:Ev (binW ixXD (vW 2) (vW 0)) [.val (.int k),.val (.lst true (KW.map D.str)),.val (.lst true ((kbit nm).map D.bl))] (.bl ((kbit nm).getD k false)):=zh4 (ev_v rfl) (ev_v rfl) (by
  refine zaD ?_;rw [YAt,YAn (by rw [lb];exact hk),YBp,YAn (by rw [lb];exact hk)];rfl)
 have hw:Ev (binW ixXD (vW 1) (vW 0)) [.val (.int k),.val (.lst true (KW.map D.str)),.val (.lst true ((kbit nm).map D.bl))] (.str (KW.getD k "")):=zh4 (ev_v rfl) (ev_v rfl) (by
  refine zaD ?_;rw [YAt,YAn (show k < KW.length from hk),YBp,YAn (show k < KW.length from hk)];rfl)
 unfold kres
 cases hq:(kbit nm).getD k false with
 | true=>exact zrd (zfO (hq ▸ hb)) hw
 | false=>exact zn7 (zfO (hq ▸ hb))
theorem znj:∀ nm ∈ NSx,∀ ea,up (zcC nm ea) [.obj ea] (fun d'=>d' = .lst true [.str nm]):=fun nm hn ea=>by
 refine ⟨fun d=>d = .lst true [.str nm],?_,fun _ z=>z⟩
 have e0:∀ {ρ:Env},ρ[0]? = some (.val (.obj ea))->∀ b,Ev (isEW (vW 0) ea b) ρ (.bl b):=fun h b=>zrV (ev_v h)
 unfold zcC fnW
 rw [show zaw 3 [D.obj ea] = [.val (.obj ea),.un,.un] by simp [zaw,D.old]]
 refine zaR (zaG (zbB (zac (e0 rfl _) (zac (e0 rfl _) (zac (e0 rfl _) (zac (e0 rfl _) ev_nil)))))) ?_
 refine zaR (zcj (ev_v rfl) (zaG (zbB (zac (e0 rfl _) (zac (e0 rfl _) (zac (e0 rfl _) (zac (e0 rfl _) ev_nil)))))) (by simp)) ?_
 refine zaR (zcj (ev_v rfl) (zaG (zbB (zac (e0 rfl _) (zac (e0 rfl _) (zac (e0 rfl _) (zac (e0 rfl _) ev_nil)))))) (by simp)) ?_
 refine zaR (zcj (ev_v rfl) (zaG (zbB (zac (e0 rfl _) (zac (e0 rfl _) (zac (e0 rfl _) (zac (e0 rfl _) ev_nil)))))) (by simp)) ?_
 refine zaR (zcj (ev_v rfl) (zaG (zbB (zac (e0 rfl _) (zac (e0 rfl _) (zac (zp3 (e0 rfl true)) ev_nil))))) (by simp)) ?_
 refine zaR ev_k ?_
 refine zaR (znI ▸ znY (ziZ (ev_v rfl) ev_k (by decide +kernel)) ev_k (by decide +kernel) (by decide +kernel)) ?_
 exact ret_of (zma hn) rfl
end Fd
set_option maxHeartbeats 400000
namespace Fd
open PySem L2
structure Yr where
 n:Int
 a:Nat
 b:Nat
 r:Int
 h:Str
structure Ya where
 pl:List (Str × Nat)
 hs:List (Str × Bool)
 sd:List Str
 rs:List Yr
 en:Int
 al:Int
 ds:List D
def ySt (p:Str × Nat):D:=.tup [.str p.1,.int p.2]
def plY (pl:List (Str × Nat)) (i:Nat):Str × Nat:=pl.getD i ("",0)
def yRun (pl:List (Str × Nat)) (r:Yr):D:=.tup [.int r.n,.str (plY pl r.a).1,.int (plY pl r.a).2,.str (plY pl r.b).1,.int (plY pl r.b).2,.int r.r,.str r.h]
def yRow (r:Yr):D:=.tup [.int r.n,.int r.a,.int r.b,.int r.r,.str r.h]
abbrev BK:List Str:=["stands","hands","aside","runs","entered","allowed"]
abbrev MK:List Str:=["places","heeded","rows","entered","many","deeds"]
abbrev nmsY (s:Ya):List Str:=s.hs.map (·.1)
def zbi (s:Ya):List D:=[.tup (s.pl.map ySt),.tup ((nmsY s).map D.str),.tup (s.sd.map D.str),.tup (s.rs.map (yRun s.pl)),.int s.en,.int s.al]
def zaE (s:Ya):D:=.dct false BK (zbi s)
def modL (s:Ya):List D:=[.lst false (s.pl.map ySt),.fdc (nmsY s) (s.hs.map fun p=>.bl p.2),.lst false (s.rs.map yRow),.int s.en,.int s.al,.lst false s.ds]
def yMod (s:Ya):D:=.dct false MK (modL s)
theorem zci {xs:List D} (h:∀ x ∈ xs,x.old = x):xs.map D.old = xs:=by
 conv=>rhs;rw [<- List.map_id xs]
 exact YCp h
theorem za3 {xs:List D} (h:∀ x ∈ xs,x.old = x):(D.tup xs).old = .tup xs:=by rw [D.old,zci h]
theorem zaT {n:Bool} {xs:List D} (h:∀ x ∈ xs,x.old = x):(D.lst n xs).old = .lst false xs:=by rw [D.old,zci h]
theorem zfQ {n:Bool} {ks:List Str} {xs:List D} (h:∀ x ∈ xs,x.old = x):(D.dct n ks xs).old = .dct false ks xs:=by rw [D.old,zci h]
theorem zhj {ks:List Str} {xs:List D} (h:∀ x ∈ xs,x.old = x):(D.fdc ks xs).old = .fdc ks xs:=by rw [D.old,zci h]
theorem za8 (a:Addr):D.old (.obj a) = .obj a:=by rw [D.old]
theorem zb1 (x:Str × Nat):(ySt x).old = ySt x:=za3 (by simp [zaH,zbl])
theorem zov (pl:List (Str × Nat)) (r:Yr):(yRun pl r).old = yRun pl r:=za3 (by simp [zaH,zbl])
theorem zgD (r:Yr):(yRow r).old = yRow r:=za3 (by simp [zaH,zbl])
theorem zaF {α:Type} {f:α->D} (h:∀ x,(f x).old = f x) (xs:List α):∀ y ∈ xs.map f,y.old = y:=fun y hy=>by
 obtain ⟨x,_,rfl⟩:=YBc.mp hy;exact h x
theorem zd3 (s:Ya):∀ x ∈ zbi s,x.old = x:=by
 unfold zbi
 simp only [YAW,YAw,YBA,YBH,YCG]
 exact ⟨za3 (zaF zb1 _),za3 (zaF zaH _),za3 (zaF zaH _),za3 (zaF (zov _) _),zbl _,zbl _⟩
theorem zct (s:Ya):(zaE s).old = zaE s:=zfQ (zd3 s)
theorem zqh {s:Ya} (h:∀ d ∈ s.ds,d.old = d):∀ x ∈ modL s,x.old = x:=by
 unfold modL
 simp only [YAW,YAw,YBA,YBH,YCG]
 exact ⟨zaT (zaF zb1 _),zhj (zaF (fun _=>zl7 _) _),zaT (zaF zgD _),zbl _,zbl _,zaT h⟩
theorem zdp {s:Ya} (h:∀ d ∈ s.ds,d.old = d):(yMod s).old = yMod s:=zfQ (zqh h)
theorem w_in {n:Nat} {B:WS} {ds:List D} {Q:D->Prop} {ρ:Env} (e:zaw n ds = ρ) (q:B { nx:=fun _=>Q .non,rt:=Q,bk:=fun _=>False,ct:=fun _=>False } ρ):fnW n B ds Q:=by unfold fnW;rw [e];exact q
theorem zkH {n:Nat} {B:(Str->Prop)->WS} {ds:List D} {Q:D->Prop} {Y:Str->Prop} {ρ:Env} (e:zaw n ds = ρ) (q:B Y { nx:=fun _=>Q .non,rt:=Q,bk:=fun _=>False,ct:=fun _=>False } ρ):fnWX n B ds Q Y:=by unfold fnWX;rw [e];exact q
theorem zlx {n:Nat} {B:(Str->Sto->Prop)->WF} {ds:List D} {S:Sto} {Q:D->Sto->Prop} {Y:Str->Sto->Prop} {ρ:Env} (e:zaw n ds = ρ) (q:B Y { nx:=fun S' _=>Q .non S',rt:=fun S' d=>Q d S',bk:=fun _ _=>False,ct:=fun _ _=>False } S ρ):fnWF n B ds S Q Y:=by unfold fnWF;rw [e];exact q
theorem zjx {F:FnX} {ds:List D} {P Q:D->Prop} {Z Y:Str->Prop} (h:F ds P Z) (k:∀ d,P d->Q d) (l:∀ n,Z n->Y n):upX F ds Q Y:=⟨P,Z,h,k,l⟩
theorem zii {F:FnF} {ds:List D} {S:Sto} {P Q:D->Sto->Prop} {Z Y:Str->Sto->Prop} (h:F ds S P Z) (k:∀ d S,P d S->Q d S) (l:∀ n S,Z n S->Y n S):upF F ds S Q Y:=⟨P,Z,h,k,l⟩
theorem zbr {n:Nat} {d e:D} (hd:d.old = d) (he:e.old = e):zaw (n + 2) [d,e] = .val d :: .val e :: List.replicate n .un:=by rw [zmH,hd,he]
theorem zfi {x:Str} (h:zbb x = true):okS x = true:=by
 unfold zbb zhA at h
 rw [YAx] at h
 exact zhH fun ch hc=>by
  have:=YAE (YBq.mp h.2 ch hc)
  have:=(zpr ch).mp this
  omega
def cntY (pl:List (Str × Nat)) (x:Str):Nat:=(pl.filter fun p=>decide (p.1 = x)).length
theorem cnt_pos {pl:List (Str × Nat)} {x:Str}:0 < cntY pl x ↔ x ∈ pl.map (·.1):=by
 unfold cntY
 rw [List.length_pos_iff_exists_mem,YBc]
 exact ⟨fun ⟨p,hp⟩=>⟨p,(YBP.mp hp).1,YAE (YBP.mp hp).2⟩,fun ⟨p,hp,e⟩=>⟨p,YBP.mpr ⟨hp,YAy e⟩⟩⟩
theorem zko {α β:Type} {p:α->Bool} {f:α->β}:∀ xs:List α,(xs.filterMap fun x=>if p x then some (f x) else none).length = (xs.filter p).length
 | []=>rfl
 | x :: xs=>by
  rw [YAZ,List.filter_cons]
  cases p x
  ·exact zko xs
  ·exact congrArg (· + 1) (zko xs)
theorem zmQ {pl:List (Str × Nat)} {x:Str} (hm:∀ y ∈ pl,okS y.1 = true) (hx:okS x = true) (hl:pl.length <= 1000):zbD [.tup (pl.map ySt),.str x] (· = .int (cntY pl x)):=by
 refine w_in (ρ:=[.val (.tup (pl.map ySt)),.val (.str x)]) (zbr (n:=0) (za3 (zaF zb1 pl)) (zaH _)) ?_
 refine ret_of (zeT (zaG (zcG ySt (fun p=>if decide (p.1 = x) then some (.int p.2) else none) pl (zkn (ev_v rfl)) (by omega) fun y hy=>?_))) ?_
 ·have ev:∀ {ρ:Env},ρ[0]? = some (.val (.str y.1))->ρ[2]? = some (.val (.str x))->EvT (blW (binW eqD (vW 0) (vW 2))) ρ (decide (y.1 = x)):=fun h1 h2=>zbQ (zfy (ev_v h1) (ev_v h2) (hm y hy) hx)
  cases e:decide (y.1 = x) with
  | true=>exact zrH (e ▸ ev rfl rfl) (ev_v rfl)
  | false=>exact zoU (e ▸ ev rfl rfl)
 ·rw [zko];rfl
end Fd
set_option maxHeartbeats 400000
namespace Fd
open PySem L2
theorem bk1 {a b c d e f:D}:zax BK [a,b,c,d,e,f] "stands" = some a:=by kernel_rfl
theorem bk2 {a b c d e f:D}:zax BK [a,b,c,d,e,f] "hands" = some b:=by kernel_rfl
theorem bk3 {a b c d e f:D}:zax BK [a,b,c,d,e,f] "aside" = some c:=by kernel_rfl
theorem bk4 {a b c d e f:D}:zax BK [a,b,c,d,e,f] "runs" = some d:=by kernel_rfl
theorem bk6 {a b c d e f:D}:zax BK [a,b,c,d,e,f] "allowed" = some f:=by kernel_rfl
theorem mk1 {a b c d e f:D}:zax MK [a,b,c,d,e,f] "places" = some a:=by kernel_rfl
theorem mk2 {a b c d e f:D}:zax MK [a,b,c,d,e,f] "heeded" = some b:=by kernel_rfl
theorem mk3 {a b c d e f:D}:zax MK [a,b,c,d,e,f] "rows" = some c:=by kernel_rfl
theorem mk4 {a b c d e f:D}:zax MK [a,b,c,d,e,f] "entered" = some d:=by kernel_rfl
theorem mk5 {a b c d e f:D}:zax MK [a,b,c,d,e,f] "many" = some e:=by kernel_rfl
theorem mk6 {a b c d e f:D}:zax MK [a,b,c,d,e,f] "deeds" = some f:=by kernel_rfl
theorem b1 (s:Ya):zax BK (zbi s) "stands" = some (.tup (s.pl.map ySt)):=by unfold zbi;exact bk1
theorem b2 (s:Ya):zax BK (zbi s) "hands" = some (.tup ((nmsY s).map D.str)):=by unfold zbi;exact bk2
theorem b3 (s:Ya):zax BK (zbi s) "aside" = some (.tup (s.sd.map D.str)):=by unfold zbi;exact bk3
theorem b4 (s:Ya):zax BK (zbi s) "runs" = some (.tup (s.rs.map (yRun s.pl))):=by unfold zbi;exact bk4
theorem b6 (s:Ya):zax BK (zbi s) "allowed" = some (.int s.al):=by unfold zbi;exact bk6
theorem m1 (s:Ya):zax MK (modL s) "places" = some (.lst false (s.pl.map ySt)):=by unfold modL;exact mk1
theorem m2 (s:Ya):zax MK (modL s) "heeded" = some (.fdc (nmsY s) (s.hs.map fun p=>.bl p.2)):=by unfold modL;exact mk2
theorem m3 (s:Ya):zax MK (modL s) "rows" = some (.lst false (s.rs.map yRow)):=by unfold modL;exact mk3
theorem m4 (s:Ya):zax MK (modL s) "entered" = some (.int s.en):=by unfold modL;exact mk4
theorem m5 (s:Ya):zax MK (modL s) "many" = some (.int s.al):=by unfold modL;exact mk5
theorem m6 (s:Ya):zax MK (modL s) "deeds" = some (.lst false s.ds):=by unfold modL;exact mk6
theorem bp1 {a b c d e f w:D}:putVs BK [a,b,c,d,e,f] "stands" w = [w,b,c,d,e,f]:=by kernel_rfl
theorem bp2 {a b c d e f w:D}:putVs BK [a,b,c,d,e,f] "hands" w = [a,w,c,d,e,f]:=by kernel_rfl
theorem bq1:putKs BK "stands" = BK:=by kernel_rfl
theorem bq2:putKs BK "hands" = BK:=by kernel_rfl
theorem zmz {ks:List Str} {xs:List D} {z:Str} {v:D} {Q:D->Prop} (hx:∀ x ∈ xs,x.old = x) (hl:ks.length < 1000) (q:Q (.dct true (putKs ks z) (putVs ks xs z v.old))) {n:Bool}:zbo [.dct n ks xs,.str z,v] Q:=by
 refine w_in (ρ:=[.val (.dct false ks xs),.val (.str z),.val v.old,.un]) (by unfold zaw;simp [zfQ hx,zaH]) ?_
 exact ⟨by show 3 < 4;decide,hl,q⟩
theorem zlb {t:Ya} {n:Bool} {xs:List D} (h:xs = zbi t):(D.dct n BK xs).old = zaE t:=by rw [h,zfQ (zd3 t)];rfl
theorem zkh (x:Str):∀ hs:List Str,inB (.str x) (hs.map D.str) = decide (x ∈ hs)
 | []=>by simp [inB,zc9]
 | y :: hs=>by
  have ih:=zkh x hs
  unfold inB at ih ⊢
  rw [YAm,zc9,YBS,ih]
  have:PyData.eqv (toPy (.str y)) (toPy (.str x)) = decide (y = x):=zjb y x
  rw [this]
  by_cases e:y = x
  ·simp [e]
  ·have e':¬ x = y:=fun z=>e z.symm
   simp [e,e']
theorem zjt:∀ {hs:List Str},(∀ y ∈ hs,okS y = true)->zeA (hs.map D.str) = true
 | [],_=>by rw [YA7,zeA]
 | y :: hs,h=>by rw [YAm,zeA,zjt fun z hz=>h z (YAq _ hz),layD,show PyData.canLay0 (.str y) = true from h y YAf];rfl
theorem zj0:∀ hs:List Str,PyData.depthAll (zc9 (hs.map D.str)) = 0
 | []=>by rw [YA7,zc9];rfl
 | y :: hs=>by rw [YAm,zc9];show max 0 (PyData.depthAll (zc9 (hs.map D.str))) = 0;rw [zj0 hs];rfl
theorem zlZ {x:Str} {hs:List Str} (hx:okS x = true) (h:∀ y ∈ hs,okS y = true):inOk (.str x) (hs.map D.str):=⟨by rw [layD];exact hx,zjt h,by rw [zj0];exact YAF (Nat.min_le_left _ _) (by decide)⟩
theorem zqt {neg:Bool} {x:Str} {hs:List Str} {Q:D->Prop} (hx:okS x = true) (h:∀ y ∈ hs,okS y = true) (q:Q (.bl (if neg then !decide (x ∈ hs) else decide (x ∈ hs)))):inXD neg (.str x) (.tup (hs.map D.str)) Q:=by
 show inOk (.str x) (hs.map D.str)/\Q (.bl (if neg then !inB (.str x) (hs.map D.str) else inB (.str x) (hs.map D.str)))
 rw [zkh];exact ⟨zlZ hx h,q⟩
theorem ziq {neg:Bool} {A B:WE} {ρ:Env} {x:Str} {hs:List Str} (hA:Ev A ρ (.str x)) (hB:Ev B ρ (.tup (hs.map D.str))) (hx:okS x = true) (h:∀ y ∈ hs,okS y = true):Ev (binW (inXD neg) A B) ρ (.bl (if neg then !decide (x ∈ hs) else decide (x ∈ hs))):=zcb hA hB fun P p=>zqt hx h p
theorem zkb {ks:List Str} {xs:List D} {z:Str} {v:D} {n:Bool} {ρ:Env} {R:WL} (hR:EvL R ρ [.dct n ks xs,.str z,v]) (hx:∀ x ∈ xs,x.old = x) (hl:ks.length < 1000):Ev (zas 3 zbo R) ρ (.dct true (putKs ks z) (putVs ks xs z v.old)):=zaY hR (zmz (Q:=(· = _)) hx hl rfl)
theorem ev_b {ρ:Env} {i:Nat} {s:Ya} {z:Str} {d:D} (hi:ρ[i]? = some (.val (zaE s))) (h:zax BK (zbi s) z = some d):Ev (binW zau (vW i) (kW (.str z))) ρ d:=znn (ev_v hi) h
structure Pls (pl:List (Str × Nat)):Prop where
 ok:∀ x ∈ pl,zbb x.1 = true
 ln:pl.length <= 12
theorem Pls.okS {pl:List (Str × Nat)} (h:Pls pl):∀ x ∈ pl,okS x.1 = true:=fun x hx=>zfi (h.ok x hx)
theorem zff {pl:List (Str × Nat)} {x:Str} (h:Pls pl) (hx:okS x = true):zbD [.tup (pl.map ySt),.str x] (· = .int (cntY pl x)):=zmQ h.okS hx (by have:=h.ln;omega)
def nxY (pl:List (Str × Nat)) (x:Str):Str × Nat:=(x,cntY pl x + 1)
theorem zom {pl:List (Str × Nat)} {x:Str} (h:Pls pl) (hx:okS x = true):zcD [.tup (pl.map ySt),.str x] (· = ySt (nxY pl x)):=by
 refine w_in (zbr (n:=0) (za3 (zaF zb1 pl)) (zaH _)) ?_
 exact ret_of (zdC (zac (ev_v rfl) (zac (zgX (zaY (zac (ev_v rfl) (zac (ev_v rfl) ev_nil)) (zff h hx)) ev_k) ev_nil))) rfl
theorem znS {pl:List (Str × Nat)} {x:Str} (h:Pls pl) (hk:okS x = true):zb4 [.tup (pl.map ySt),.str x] (fun d=>d = ySt (x,cntY pl x)/\0 < cntY pl x) (fun n=>n = "NoMark" /\ cntY pl x = 0):=by
 refine zkH (zbr (n:=1) (za3 (zaF zb1 pl)) (zaH _)) ?_
 refine zaR (zaY (zac (ev_v rfl) (zac (ev_v rfl) ev_nil)) (zff h hk)) ?_
 by_cases e:cntY pl x = 0
 ·refine zaK (zaC (zbQ (ze0 (ev_v rfl) ev_k)) (by rw [e];decide)) ⟨by decide,rfl,e⟩
 ·refine zcE (zaC (zbQ (ze0 (ev_v rfl) ev_k)) (YAv (by omega))) ?_
  exact ret_of (zdC (zac (ev_v rfl) (zac (ev_v rfl) ev_nil))) ⟨rfl,by omega⟩
theorem zoo {pl:List (Str × Nat)} {p:Str × Nat} {r:Yr} (h:r.a < pl.length/\r.b < pl.length):yRun (pl ++ [p]) r = yRun pl r:=by
 have e:∀ {i},i < pl.length->plY (pl ++ [p]) i = plY pl i:=fun hi=>by unfold plY;rw [YBp,YBp,YA9 hi]
 unfold yRun
 rw [e h.1,e h.2]
theorem zdQ {s:Ya} {x:Str} (h:Pls s.pl) (h0:∀ r ∈ s.rs,r.a < s.pl.length/\r.b < s.pl.length) (hx:okS x = true):zaP [zaE s,.str x] (fun v=>s.pl.length < 12/\v.old = zaE { s with pl:=s.pl ++ [nxY s.pl x] }) (fun n=>n = "Full" /\ s.pl.length = 12):=by
 refine zkH (zbr (n:=1) (zct s) (zaH _)) ?_
 refine zaR (ev_b rfl (b1 _)) ?_
 have ln:=h.ln
 by_cases e:s.pl.length = 12
 ·exact zaK (zaC (zbQ (zok (zih (ev_v rfl)) ev_k)) (by rw [YAd];exact YAy (by omega))) ⟨by decide,rfl,e⟩
 refine zcE (zaC (zbQ (zok (zih (ev_v rfl)) ev_k)) (by rw [YAd];exact YAv (by omega))) ?_
 refine ret_of (zkb (zac (ev_v rfl) (zac ev_k (zac (zg9 (ev_v rfl) (zdC (zac (zaY (zac (ev_v rfl) (zac (ev_v rfl) ev_nil)) (zom h hx)) ev_nil)) (by rw [YAd];show s.pl.length + 1 <= 100000;omega)) ev_nil))) (zd3 s) (by decide)) ⟨by omega,?_⟩
 show (D.dct true (putKs BK "stands") (putVs BK (zbi s) "stands" _)).old = _
 rw [bq1,show putVs BK (zbi s) "stands" (D.tup (s.pl.map ySt ++ [ySt (nxY s.pl x)])).old = _ from bp1]
 refine zlb ?_
 rw [<- YBV (f:=ySt),<- YAT,za3 (zaF zb1 _)]
 unfold zbi
 have e:s.rs.map (yRun (s.pl ++ [nxY s.pl x])) = s.rs.map (yRun s.pl):=YCp fun r hr=>zoo (h0 r hr)
 show _ = [_,_,_,D.tup (s.rs.map (yRun (s.pl ++ [nxY s.pl x]))),_,_]
 rw [e]
theorem zoh {x:Str} (h:zbb x = true):x.length <= 100000:=by
 unfold zbb zhA at h
 rw [YAx,YAx] at h
 have:=YAE h.1.2
 omega
theorem rt_X {n:Nat} {F:FnX} {R:WL} {ρ:Env} {E:En} {ds:List D} {Y Z:Str->Prop} {P:D->Prop} (hR:EvL R ρ ds) (h:F ds P Z) (k:∀ d,P d->E.rt d) (l:∀ n,Z n->Y n) (hl:ds.length = n:=by rfl):retW (zgh n F Y R) E ρ:=hR _ ⟨hl,zjx h k l⟩
theorem zpy {n i j:Nat} {F:FnX} {R:WL} {ρ:Env} {E:En} {B:WS} {ds:List D} {Y Z:Str->Prop} {P:D->Prop} (hR:EvL R ρ ds) (h:F ds P Z) (k:∀ d,P d->∃ x y,d = .tup [x,y]/\B E ((ρ.set i (.val x)).set j (.val y))) (l:∀ n,Z n->Y n) (hl:ds.length = n:=by rfl):seqW (asgW (.tp 2 (.cons (.nm i) (.cons (.nm j) .nil))) (zgh n F Y R)) B E ρ:=
 hR _ ⟨hl,zjx h (fun d p=>by
  obtain ⟨x,y,rfl,q⟩:=k d p
  unfold gD
  refine ⟨rfl,?_⟩
  unfold gDs gD gDs gD gDs
  exact q) l⟩
theorem zdS {ρ:Env} {i:Nat} {x:Str} (hi:ρ[i]? = some (.val (.str x))) (hx:x.length <= 100000):EvT (notT (truW (zas 1 zcn (zab (vW i) nilA)))) ρ (!zbb x):=zjI (zfO (zaY (zac (ev_v hi) ev_nil) (zi5 x hx)))
structure Tx (x:Str):Prop where
 ok:okS x = true
 ln:x.length <= 100000
def zb2 (s:Ya) (x:Str):Option Str:=if zbb x = false then some "BadName" else if 0 < cntY s.pl x then some "Taken" else if s.pl.length = 12 then some "Full" else none
def zbv (s:Ya) (x:Str):Option Str:=if zbb x = false then some "BadName" else if x ∈ nmsY s then some "Taken" else if s.hs.length = 10 then some "Full" else none
def zbc (s:Ya) (x:Str):Option Str:=if cntY s.pl x = 0 then some "NoMark" else if s.pl.length = 12 then some "Full" else none
theorem znN {s:Ya} {x:Str} (h:Pls s.pl) (h0:∀ r ∈ s.rs,r.a < s.pl.length/\r.b < s.pl.length) (hx:Tx x):zcg [zaE s,.tup [.str "mark",.str x]] (fun v=>zb2 s x = none/\v.old = zaE { s with pl:=s.pl ++ [nxY s.pl x] }) (fun n=>zb2 s x = some n):=by
 refine zkH (zbr (n:=2) (zct s) (za3 (by simp [zaH]))) ?_
 refine ziA (ev_v rfl) ?_
 unfold zb2
 cases hb:zbb x with
 | false=>
  refine zaK (zaC (zdS rfl hx.ln) (by rw [hb];rfl)) ⟨by decide,?_⟩
  rfl
 | true=>
 refine zcE (zaC (zdS rfl hx.ln) (by rw [hb];rfl)) ?_
 rw [if_neg (by decide)]
 by_cases e:0 < cntY s.pl x
 ·refine zaK (zaC (zbQ (zog (zaY (zac (ev_b rfl (b1 _)) (zac (ev_v rfl) ev_nil)) (zff h hx.ok)) ev_k)) (YAy (by omega))) ⟨by decide,?_⟩
  rw [if_pos e]
 refine zcE (zaC (zbQ (zog (zaY (zac (ev_b rfl (b1 _)) (zac (ev_v rfl) ev_nil)) (zff h hx.ok)) ev_k)) (YAv (by omega))) ?_
 rw [if_neg e]
 exact rt_X (zac (ev_v rfl) (zac (ev_v rfl) ev_nil)) (zdQ h h0 hx.ok) (fun d z=>⟨if_neg (by omega),z.2⟩) fun n z=>by rw [if_pos z.2,z.1]
theorem zkW {s:Ya} {x:Str} (h:Pls s.pl) (h0:∀ r ∈ s.rs,r.a < s.pl.length/\r.b < s.pl.length) (hx:Tx x):zce [zaE s,.tup [.str "settle",.str x]] (fun v=>zbc s x = none/\v.old = zaE { s with pl:=s.pl ++ [nxY s.pl x] }) (fun n=>zbc s x = some n):=by
 refine zkH (zbr (n:=4) (zct s) (za3 (by simp [zaH]))) ?_
 refine ziA (ev_v rfl) ?_
 unfold zbc
 refine zpy (zac (ev_b rfl (b1 _)) (zac (ev_v rfl) ev_nil)) (znS h hx.ok) (fun d hd=>⟨.str x,.int (cntY s.pl x),hd.1,?_⟩) fun n z=>by rw [if_pos z.2,z.1]
 rw [if_neg (by omega)]
 exact rt_X (zac (ev_v rfl) (zac (ev_v rfl) ev_nil)) (zdQ h h0 hx.ok) (fun d z=>⟨if_neg (by omega),z.2⟩) fun n z=>by rw [if_pos z.2,z.1]
structure Hns (s:Ya):Prop where
 nd:(nmsY s).Nodup
 ok:∀ x ∈ nmsY s,zbb x = true
 ln:s.hs.length <= 10
theorem Hns.okS {s:Ya} (h:Hns s):∀ x ∈ nmsY s,okS x = true:=fun x hx=>zfi (h.ok x hx)
theorem zoj {s:Ya} {x:Str} (h:Hns s) (hx:Tx x):zcl [zaE s,.tup [.str "hand",.str x]] (fun v=>zbv s x = none/\v.old = zaE { s with hs:=s.hs ++ [(x,true)] }) (fun n=>zbv s x = some n):=by
 refine zkH (zbr (n:=3) (zct s) (za3 (by simp [zaH]))) ?_
 refine ziA (ev_v rfl) ?_
 refine zaR (ev_b rfl (b2 _)) ?_
 unfold zbv
 cases hb:zbb x with
 | false=>exact zaK (zaC (zdS rfl hx.ln) (by rw [hb];rfl)) ⟨by decide,rfl⟩
 | true=>
 refine zcE (zaC (zdS rfl hx.ln) (by rw [hb];rfl)) ?_
 rw [if_neg (by decide)]
 have hl:((nmsY s).map D.str).length = s.hs.length:=by rw [YAd,YAd]
 have ln:=h.ln
 by_cases e:x ∈ nmsY s
 ·refine zaK (zaC (zbQ (ziq (neg:=false) (ev_v rfl) (ev_v rfl) hx.ok h.okS)) (by rw [YAy e];rfl)) ⟨by decide,?_⟩
  rw [if_pos e]
 refine zcE (zaC (zbQ (ziq (neg:=false) (ev_v rfl) (ev_v rfl) hx.ok h.okS)) (by rw [YAv e];rfl)) ?_
 rw [if_neg e]
 by_cases f:s.hs.length = 10
 ·refine zaK (zaC (zbQ (zok (zih (ev_v rfl)) ev_k)) (by rw [hl];exact YAy (by omega))) ⟨by decide,?_⟩
  rw [if_pos f]
 refine zcE (zaC (zbQ (zok (zih (ev_v rfl)) ev_k)) (by rw [hl];exact YAv (by omega))) ?_
 refine ret_of (zkb (zac (ev_v rfl) (zac ev_k (zac (zg9 (ev_v rfl) (zdC (zac (ev_v rfl) ev_nil)) (by rw [hl];show s.hs.length + 1 <= 100000;omega)) ev_nil))) (zd3 s) (by decide)) ⟨if_neg f,?_⟩
 show (D.dct true (putKs BK "hands") (putVs BK (zbi s) "hands" _)).old = _
 rw [bq2,show putVs BK (zbi s) "hands" (D.tup ((nmsY s).map D.str ++ [D.str x])).old = _ from bp2]
 refine zlb ?_
 rw [<- YBV (f:=D.str),<- YAT,za3 (zaF zaH _)]
 simp [zbi,nmsY]
end Fd
set_option maxHeartbeats 400000
namespace Fd
open PySem L2
inductive Yk where
 | mark | hand | settle
def ywd:Yk->Str
 | .mark => "mark"
 | .hand => "hand"
 | .settle => "settle"
def yD (k:Yk) (x:Str):D:=.tup [.str (ywd k),.str x]
def why (s:Ya) (k:Yk) (x:Str):Option Str:=match k with
 | .mark=>zb2 s x
 | .hand=>zbv s x
 | .settle=>zbc s x
def zfe (s:Ya) (k:Yk) (x:Str):Ya:=match k with
 | .hand=>{ s with hs:=s.hs ++ [(x,true)],ds:=s.ds ++ [yD k x] }
 | _=>{ s with pl:=s.pl ++ [nxY s.pl x],ds:=s.ds ++ [yD k x] }
theorem zcc (k:Yk) (x:Str):(yD k x).old = yD k x:=za3 (by simp [zaH])
structure Yok (s:Ya):Prop where
 p:Pls s.pl
 h:Hns s
 rs:s.rs = []
 sd:s.sd = []
 hd:∀ p ∈ s.hs,p.2 = true
 dd:∀ d ∈ s.ds,d.old = d/\zap d 3 = true
 dl:s.ds.length <= 1000
theorem zfL {A:Ads} {s:Ya} {w:Str} {xs:List D} {f:Addr} {F:FnX} {P:D->Prop} {Z:Str->Prop} (ho:(D.tup (.str w :: xs)).old = .tup (.str w :: xs)) (hl:(kvA A).lookup w = some (.obj f)) (hm:(f,F) ∈ tabA A) (h:F [zaE s,.tup (.str w :: xs)] P Z):zbf A [zaE s,.tup (.str w :: xs)] P Z:=by
 refine zkH (zbr (n:=1) (zct s) ho) ?_
 have ev:Ev (ixGW (kvA A) (binW ixXD (vW 1) (kW (.int 0)))) (.val (zaE s) :: .val (.tup (.str w :: xs)) :: List.replicate 1 Sl.un) (.obj f):=fun P p=>by
  refine zgd (d:=.str w) (ev_v rfl) ev_k (zaD (j:=0) rfl) _ ?_
  show opD ((kvA A).lookup w) P
  rw [hl];exact p
 refine zaR ev ?_
 exact ⟨F,hm,rfl,zjx h (fun _ z=>z) fun _ z=>z⟩
theorem znV {A:Ads} {s:Ya} {k:Yk} {x:Str} (ok:Yok s) (hx:Tx x):zbf A [zaE s,yD k x] (fun v=>why s k x = none/\v.old = zaE (zfe s k x)) (fun n=>why s k x = some n):=by
 have h0:∀ r ∈ s.rs,r.a < s.pl.length/\r.b < s.pl.length:=fun r hr=>by rw [ok.rs] at hr;cases hr
 cases k with
 | mark=>exact zfL (f:=A.mark_entered) (zcc .mark x) (by kernel_rfl) (by unfold tabA;simp) (znN ok.p h0 hx)
 | hand=>exact zfL (f:=A.hand_entered) (zcc .hand x) (by kernel_rfl) (by unfold tabA;simp) (zoj ok.h hx)
 | settle=>exact zfL (f:=A.mark_settled) (zcc .settle x) (by kernel_rfl) (by unfold tabA;simp) (zkW ok.p h0 hx)
def fenO (A:Ads) (ks bs us:List D):Ob:=⟨A.fen,[("kept",ks),("books",bs),("undone",us)]⟩
theorem zjA {A:Ads} {ks bs us:List D}:IsF (fenO A ks bs us) "kept" 0 ks:=⟨rfl,fun i y hi=>by omega⟩
theorem zhV {A:Ads} {ks bs us:List D}:IsF (fenO A ks bs us) "books" 1 bs:=⟨rfl,fun i y hi e=>by
 have:i = 0:=by omega
 subst this;cases e;show ("kept" : Str) ≠ "books"; decide +kernel⟩
theorem zoR {A:Ads} {ks bs us:List D} {m:Str} (h:m ≠ "kept" /\ m ≠ "books" /\ m ≠ "undone"):∀ x ∈ (fenO A ks bs us).fs,x.1 ≠ m:=fun x hx=>by
 have hx:x ∈ [(("kept" : Str),ks),("books",bs),("undone",us)]:=hx
 simp only [YAr,YAw,YB3] at hx
 rcases hx with rfl | rfl | rfl
 ·exact YAH h.1
 ·exact YAH h.2.1
 ·exact YAH h.2.2
theorem zb6 {A:Ads} {S:Sto} {ρ:Env} {i:Nat} {q:Addr} {m:Str} {F:Sto->Fn} {ks bs us:List D} {d:D} (hi:ρ[i]? = some (.val (.obj q))) (hS:S q = some (fenO A ks bs us)) (hm:m ≠ "kept" /\ m ≠ "books" /\ m ≠ "undone") (h:F S [.obj q] (· = d)):Ev (zbY S i A.fen m 1 F (fun _ Q=>Q [])) ρ d:=fun P p=>by
 unfold zbY
 rw [hi]
 exact ⟨⟨_,hS,rfl,zoR hm⟩,rfl,zdz h fun e z=>by subst z;exact p⟩
theorem znc {bs:List D} {x:D}:atI (bs ++ [x]) (-1) = some x:=by
 unfold atI ixN
 rw [if_neg (by decide),YAs,if_pos (by simp;omega)]
 show (bs ++ [x])[(-1 + ((bs.length + 1:Nat):Int)).toNat]? = some x
 rw [show (-1 + ((bs.length + 1:Nat):Int)).toNat = bs.length from by omega]
 simp
theorem zsd:(("now" : Str) ≠ "kept" /\ ("now" : Str) ≠ "books" /\ ("now" : Str) ≠ "undone"):=by decide +kernel
theorem zpM {A:Ads} {S:Sto} {q:Addr} {s:Ya} {ks bs us:List D} (hS:S q = some (fenO A ks (bs ++ [zaE s]) us)):zaM A S [.obj q] (· = zaE s):=by
 refine w_in (ρ:=[.val (.obj q)]) (by unfold zaw;simp [za8]) ?_
 refine ⟨_,1,bs ++ [zaE s],hS,rfl,zhV,?_⟩
 show (match atI (bs ++ [zaE s]) (-1) with | some d=>d.old = zaE s | none=>False)
 rw [znc]
 exact zct s
theorem zjw {A:Ads} {S:Sto} {q:Addr} {s:Ya} {ks bs us:List D} {ρ:Env} {i:Nat} (hi:ρ[i]? = some (.val (.obj q))) (hS:S q = some (fenO A ks (bs ++ [zaE s]) us)):Ev (zbY S i A.fen "now" 1 (zaM A) (fun _ Q=>Q [])) ρ (zaE s):=zb6 hi hS zsd (zpM hS)
section
variable {E:EnF} {S:Sto} {ρ:Env} {B:WF} {q:Addr} {A:Ads} {ks bs us:List D} {i:Nat} {d:D} {V:Sto->WE}
theorem zn1 (hi:ρ[i]? = some (.val (.obj q))) (hS:S q = some (fenO A ks bs us)) (hV:Ev (V S) ρ d) (hl:ks.length < 100000) (h:B E (upS S q (fenO A (ks ++ [d.old]) bs us)) ρ):seqF (appO i "kept" A.fen V) B E S ρ:=by
 show appO i "kept" A.fen V _ S ρ
 unfold appO
 rw [hi]
 exact ⟨_,0,ks,hS,rfl,zjA,hV _ ⟨hl,h⟩⟩
theorem zk5 (hi:ρ[i]? = some (.val (.obj q))) (hS:S q = some (fenO A ks bs us)) (hV:Ev (V S) ρ d) (hl:bs.length < 100000) (h:B E (upS S q (fenO A ks (bs ++ [d.old]) us)) ρ):seqF (appO i "books" A.fen V) B E S ρ:=by
 show appO i "books" A.fen V _ S ρ
 unfold appO
 rw [hi]
 exact ⟨_,1,bs,hS,rfl,zhV,hV _ ⟨hl,h⟩⟩
theorem zkZ:putO "undone" [] (fenO A ks bs us).fs = (fenO A ks bs []).fs:=by unfold fenO;kernel_rfl
theorem zkM (hi:ρ[i]? = some (.val (.obj q))) (hS:S q = some (fenO A ks bs us)) (h:B E (upS S q (fenO A ks bs [])) ρ):seqF (setO i "undone" A.fen (fun S=>lstW nilA)) B E S ρ:=by
 show setO i "undone" A.fen _ _ S ρ
 unfold setO
 rw [hi]
 refine ⟨by decide,_,hS,rfl,by show 3 < 100;decide,?_⟩
 show B E (upS S q ⟨A.fen,putO "undone" [] (fenO A ks bs us).fs⟩) ρ
 rw [zkZ];exact h
end
theorem zlk (k:Yk):okS (ywd k) = true:=by cases k <;> exact ok_lit
theorem zkm (k:Yk) (x:Str) {ρ:Env} {i:Nat} (hi:ρ[i]? = some (.val (yD k x))):Ev (binW eqD (binW ixXD (vW i) (kW (.int 0))) (kW (.str "run"))) ρ (.bl false):=by
 refine znZ (zfy (zgd (ev_v hi) ev_k (zaD (j:=0) rfl)) ev_k (zlk k) ok_lit) (congrArg D.bl ?_)
 cases k
 ·show decide (("mark" : Str) = "run") = false;decide +kernel
 ·show decide (("hand" : Str) = "run") = false;decide +kernel
 ·show decide (("settle" : Str) = "run") = false;decide +kernel
theorem zmD (k:Yk) (x:Str) {ρ:Env} {i:Nat} (hi:ρ[i]? = some (.val (yD k x))):EvT (blW (binW eqD (binW ixXD (vW i) (kW (.int 0))) (kW (.str "run")))) ρ false:=zbQ (zkm k x hi)
theorem zjC {A:Ads} {S:Sto} {q:Addr} {s:Ya} {k:Yk} {x:Str} {bs us:List D} (hS:S q = some (fenO A s.ds (bs ++ [zaE s]) us)) (ok:Yok s) (hx:Tx x) (hb:bs.length <= 1000) :
  zbF A [.obj q,yD k x] S (fun v S'=>why s k x = none/\v = .non/\S' = upS S q (fenO A (s.ds ++ [yD k x]) (bs ++ [zaE s] ++ [zaE (zfe s k x)]) [])) (fun n S'=>why s k x = some n/\S' = S):=by
 refine zlx (zbr (n:=1) (za8 q) (zcc k x)) ?_
 show zbY S 0 A.fen "now" 1 (zaM A) (fun _ Q=>Q []) _ _
 refine zjw (ks:=s.ds) (us:=us) rfl hS _ ⟨rfl,zjx (znV ok hx) (fun v hv=>?_) fun _ z=>⟨z,rfl⟩⟩
 obtain ⟨hw,hv⟩:=hv
 unfold gD
 show seqF (appO 0 "kept" A.fen fun _=>vW 1) _ _ _ [.val (.obj q),.val (yD k x),.val v]
 refine zn1 (V:=fun _=>vW 1) (d:=yD k x) (q:=q) rfl hS (ev_v rfl) (by have:=ok.dl;omega) ?_
 rw [zcc]
 refine zk5 (V:=fun _=>vW 2) (d:=v) (q:=q) rfl zaZ (ev_v rfl) (by rw [YAs];show bs.length + 1 < 100000;omega) ?_
 rw [hv,zfE]
 refine zkM (q:=q) rfl zaZ ?_
 rw [zfE]
 exact zmD k x (i:=1) rfl _ ⟨hw,rfl,rfl⟩
theorem zlV (x:Str) (hx:x.length <= 100000):zbn [.str x] (· = .bl (zbb x)):=by
 unfold zbn fnW zaw
 rw [YAm,zaH]
 refine ⟨hx,zj5 ?_⟩
 unfold zbb zhA
 cases decide (1 <= (x.length:Int)) with
 | false=>rfl
 | true=>
  refine bl_t (zro (zj5 ?_))
  cases decide ((x.length:Int) <= 8) with
  | false=>rfl
  | true=>
   show _/\zcv _ _ _ _ _ (chs x) []
   refine ⟨by unfold chs;rw [YAd,<- zgn];exact hx,?_⟩
   unfold chs
   refine zd8 (fun ch=>D.str ⟨#[ch]⟩) (fun ch=>.bl (decide (ch ∈ sg LET))) (sg x) (fun ch _ Y N y=>?_) ?_
   ·show Y (.bl (if false = true then !hasS LET ⟨#[ch]⟩ else hasS LET ⟨#[ch]⟩))
    rw [if_neg (by decide),zlM]
    exact y
   ·exact zfl (f:=fun ch=>decide (ch ∈ sg LET)) (xs:=sg x) (n:=true) (by simp)
end Fd
set_option maxHeartbeats 400000
namespace Fd
open PySem L2
theorem mp1 {a b c d e f w:D}:putVs MK [a,b,c,d,e,f] "places" w = [w,b,c,d,e,f]:=by kernel_rfl
theorem mp2 {a b c d e f w:D}:putVs MK [a,b,c,d,e,f] "heeded" w = [a,w,c,d,e,f]:=by kernel_rfl
theorem mp6 {a b c d e f w:D}:putVs MK [a,b,c,d,e,f] "deeds" w = [a,b,c,d,e,w]:=by kernel_rfl
theorem mq1:putKs MK "places" = MK:=by kernel_rfl
theorem mq2:putKs MK "heeded" = MK:=by kernel_rfl
theorem mq6:putKs MK "deeds" = MK:=by kernel_rfl
section
variable {ρ:Env} {E:En} {i:Nat} {V I:WE} {R B:WS} {ks:List Str} {xs:List D} {d v:D} {z:Str} {n:Bool}
theorem zqN (h:Ev V ρ (.dct n ks xs)) (q:R E (ρ.set i (.dic ks xs))):seqW (dcpW i V) R E ρ:=h _ q
theorem zlB (hi:ρ[i]? = some (.dic ks xs)) (ho:zkL i ρ = true) (hk:ks.length < 1000) (h:Ev V ρ d) (q:E.nx (ρ.set i (.dic (putKs ks z) (putVs ks xs z d)))):dstW i (kW (.str z)) V E ρ:=by
 unfold dstW;rw [hi];exact ⟨ho,hk,h _ q⟩
theorem zpo (hi:ρ[i]? = some (.dic ks xs)) (hl:zax ks xs z = some d):Ev (ogW i (kW (.str z))) ρ d:=fun P p=>by
 unfold ogW;rw [hi]
 show optD (zax ks xs z) P
 rw [hl];exact p
theorem zp0 {k:Nat} {F:Fn} {L:WL} {ds:List D} (hi:ρ[i]? = some (.dic ks xs)) (hL:EvL L ρ ds) (h:F (.dct true ks xs :: ds) (· = d)) (f:zpI d) (hl:ds.length + 1 = k:=by rfl):Ev (zhd i k F L) ρ d:=fun P p=>by
 unfold zhd;rw [hi]
 exact hL _ ⟨hl,zdz h fun e z=>by subst z;exact ⟨f,p⟩⟩
theorem zsz {A:WE} (hi:i < ρ.length) (hA:Ev A ρ (.fdc ks xs)) (hk:ks.length < 1000) (hV:Ev V (ρ.set i .un) v) (hI:Ev I (ρ.set i .un) (.str z)) (q:B E (ρ.set i (.val (.fdc (putKs ks z) (putVs ks xs z v))))):dc2W i A V I B E ρ:=⟨hi,hA _ ⟨hk,hV _ (hI _ q)⟩⟩
end
theorem zlG {xs:List D} {n:Nat} (h:∀ x ∈ xs,zap x n = true) (hl:xs.length <= 1000:=by simp):zap (.tup xs) (n + 1) = true:=by
 rw [zap,YAy hl,Bool.true_and]
 clear hl
 induction xs with
 | nil=>rw [zbJ]
 | cons x xs ih=>rw [zbJ,h x YAf,ih fun y hy=>h y (YAq _ hy)];rfl
theorem zen {b:Bool} {xs:List D} {n:Nat} (h:∀ x ∈ xs,zap x n = true) (hl:xs.length <= 1000):zap (.lst b xs) (n + 1) = true:=by
 rw [zap,YAy hl,Bool.true_and]
 clear hl
 induction xs with
 | nil=>rw [zbJ]
 | cons x xs ih=>rw [zbJ,h x YAf,ih fun y hy=>h y (YAq _ hy)];rfl
theorem zgl {x:Str} {n:Nat} (h:okS x = true):zap (.str x) n = true:=by rw [zap];exact h
theorem zoJ {i:Int} {n:Nat}:zap (.int i) n = true:=by rw [zap]
section
variable {ρ:Env} {i:Nat} {w z:Str} {b:Bool}
theorem is_w (hi:ρ[i]? = some (.val (.str w))) (hw:okS w = true) (hz:okS z = true):EvT (blW (binW eqD (vW i) (kW (.str z)))) ρ (decide (w = z)):=zbQ (zfy (ev_v hi) ev_k hw hz)
end
def PlM (xs:List D) (pl:List (Str × Nat)):Prop:=zax MK (xs.map D.old) "places" = some (.lst false (pl.map ySt))
theorem znb {n:Bool} {ks:List Str} {xs:List D} {x:Str}:zaw 2 [.dct n ks xs,.str x] = [.val (.dct false ks (xs.map D.old)),.val (.str x)]:=by
 unfold zaw
 rw [YAm,YAm,YA7,zaH,D.old];rfl
theorem zgx {n:Bool} {xs:List D} {pl:List (Str × Nat)} {x:Str} (hp:PlM xs pl) (h:Pls pl) (hx:okS x = true):zaB [.dct n MK xs,.str x] (· = .int (cntY pl x)):=by
 refine w_in znb ?_
 refine ret_of (zeT (zaG (zcG ySt (fun p=>if decide (p.1 = x) then some (ySt p) else none) pl (zeP (znn (ev_v rfl) hp)) (by have:=h.ln;omega) fun y hy=>?_))) ?_
 ·have ev:∀ {ρ:Env},ρ[0]? = some (.val (ySt y))->ρ[1]? = some (.val (.str x))->EvT (blW (binW eqD (binW ixXD (vW 0) (kW (.int 0))) (vW 1))) ρ (decide (y.1 = x)):=fun h1 h2=>zbQ (zfy (zgd (t:=[.str y.1,.int y.2]) (ev_v h1) ev_k (zaD (j:=0) rfl)) (ev_v h2) (h.okS y hy) hx)
  cases e:decide (y.1 = x) with
  | true=>exact zrd (e ▸ ev rfl rfl) (ev_v rfl)
  | false=>exact zn7 (e ▸ ev rfl rfl)
 ·rw [zko];rfl
theorem ztc (s:Ya):PlM (modL s) s.pl:=by
 unfold PlM modL
 rw [YAm,zaT (zaF zb1 _)]
 exact mk1
theorem ev_m {ρ:Env} {i:Nat} {s:Ya} {z:Str} {d:D} (hi:ρ[i]? = some (.val (yMod s))) (h:zax MK (modL s) z = some d):Ev (binW zau (vW i) (kW (.str z))) ρ d:=znn (ev_v hi) h
theorem zol {s:Ya} {k:Yk} {x:Str} (hd:∀ y ∈ s.ds,y.old = y):za4 [yMod s,yD k x] (· = .non):=by
 refine w_in (zbr (n:=0) (zdp hd) (zcc k x)) ?_
 have er:Ev (binW eqD (binW ixXD (vW 1) (kW (.int 0))) (kW (.str "run"))) (.val (yMod s) :: .val (yD k x) :: List.replicate 0 Sl.un) (.bl false):=zkm k x (i:=1) rfl
 have el:=zaG (zbB (zac (ev_k (d:=.non)) (zac (zgX (ev_m (s:=s) (ρ:=.val (yMod s) :: .val (yD k x) :: List.replicate 0 Sl.un) (i:=0) rfl (m4 s)) (ev_k (d:=.int 1))) ev_nil)))
 exact ret_of (zh4 (k:=0) (d:=.non) el (znK (zac er ev_nil) fun P p=>p) (zaD (j:=0) rfl)) rfl
theorem zlY {t:Ya} {n:Bool} {xs:List D} (h:xs.map D.old = modL t):(D.dct n MK xs).old = yMod t:=by rw [D.old,h];rfl
theorem in3 {ρ:Env} {i:Nat} {w:Str} (hi:ρ[i]? = some (.val (.str w))) (hw:okS w = true):EvT (blW (binW (inXD false) (vW i) (tupW (zab (kW (.str "hand")) (zab (kW (.str "heed")) (zab (kW (.str "aside")) nilA)))))) ρ (decide (w ∈ [("hand" : Str),"heed","aside"])):=
 zbQ (ziq (neg:=false) (hs:=["hand","heed","aside"]) (ev_v hi) (zdC (zac ev_k (zac ev_k (zac ev_k ev_nil)))) hw (by
  intro y hy
  simp only [YAr,YAw,YB3] at hy
  rcases hy with rfl | rfl | rfl <;> exact ok_lit))
theorem zop {hs:List (Str × Bool)} {x:Str} (hn:x ∉ hs.map (·.1)):putKs (hs.map (·.1)) x = (hs ++ [(x,true)]).map (·.1)/\putVs (hs.map (·.1)) (hs.map fun p=>D.bl p.2) x (.bl true) = (hs ++ [(x,true)]).map fun p=>D.bl p.2:=by
 have:(hs.map (·.1)).contains x = false:=by rw [<- Bool.not_eq_true,YB7];exact hn
 unfold putKs putVs
 rw [this]
 exact ⟨by rw [YAT];rfl,by rw [YAT];rfl⟩
theorem znA {s:Ya} {k:Yk} {x:Str} (ok:Yok s) (hx:Tx x) (f:why s k x = none):zcf [yMod s,yD k x] (fun v=>v.old = yMod (zfe s k x)):=by
 have dfix:∀ y ∈ s.ds ++ [yD k x],y.old = y:=fun y hy=>by
  rcases YAR.mp hy with z | z
  ·exact (ok.dd y z).1
  ·rw [YAB.mp z];exact zcc k x
 refine w_in (zbr (n:=4) (zdp fun y hy=>(ok.dd y hy).1) (zcc k x)) ?_
 refine zqN (xs:=modL s) (ev_v rfl) ?_
 refine zlB (ks:=MK) (xs:=modL s) (d:=.lst true (s.ds ++ [yD k x])) rfl rfl (by decide) (zcj (zpo rfl (m6 s)) (zaG (zbB (zac (ev_v rfl) ev_nil))) (by have:=ok.dl;show s.ds.length + 1 <= 100000;omega)) ?_
 rw [mq6,show putVs MK (modL s) "deeds" (.lst true (s.ds ++ [yD k x])) = _ from mp6]
 have hdd:(D.lst true (s.ds ++ [yD k x])).old = .lst false (s.ds ++ [yD k x]):=zaT dfix
 dsimp only
 refine zaR (ρ:=[.dic MK [.lst false (s.pl.map ySt),.fdc (nmsY s) (s.hs.map fun p=>.bl p.2),.lst false (s.rs.map yRow),.int s.en,.int s.al,.lst true (s.ds ++ [yD k x])],.val (yD k x),.un,.un,.un,.un]) (d:=.str (ywd k)) (zgd (t:=[.str (ywd k),.str x]) (ev_v (i:=1) rfl) ev_k (zaD (j:=0) rfl)) ?_
 show seqW _ _ _ [.dic MK [.lst false (s.pl.map ySt),.fdc (nmsY s) (s.hs.map fun p=>.bl p.2),.lst false (s.rs.map yRow),.int s.en,.int s.al,.lst true (s.ds ++ [yD k x])],.val (yD k x),.val (.str (ywd k)),.un,.un,.un]
 have w1:=zlk k
 have place:dstW 0 (kW (.str "places")) (binW addD (ogW 0 (kW (.str "places"))) (valW (lstW (zab (tupW (zab (binW ixXD (vW 1) (kW (.int 1))) (zab (binW addD (zhd 0 2 zaB (zab (binW ixXD (vW 1) (kW (.int 1))) nilA)) (kW (.int 1))) nilA))) nilA)))) { nx:=fun ρ=>zlw 0 { nx:=fun _=>(D.non).old = yMod { s with pl:=s.pl ++ [nxY s.pl x],ds:=s.ds ++ [yD k x] },rt:=fun v=>v.old = yMod { s with pl:=s.pl ++ [nxY s.pl x],ds:=s.ds ++ [yD k x] },bk:=fun _=>False,ct:=fun _=>False } ρ,rt:=fun v=>v.old = yMod { s with pl:=s.pl ++ [nxY s.pl x],ds:=s.ds ++ [yD k x] },bk:=fun _=>False,ct:=fun _=>False } [.dic MK [.lst false (s.pl.map ySt),.fdc (nmsY s) (s.hs.map fun p=>.bl p.2),.lst false (s.rs.map yRow),.int s.en,.int s.al,.lst true (s.ds ++ [yD k x])],.val (yD k x),.val (.str (ywd k)),.un,.un,.un]:=by
  have hp:PlM [.lst false (s.pl.map ySt),.fdc (nmsY s) (s.hs.map fun p=>.bl p.2),.lst false (s.rs.map yRow),.int s.en,.int s.al,.lst true (s.ds ++ [yD k x])] s.pl:=by
   unfold PlM;rw [YAm,zaT (zaF zb1 _)];exact mk1
  refine zlB (d:=.lst true (s.pl.map ySt ++ [ySt (nxY s.pl x)])) rfl rfl (by decide) (zcj (zpo rfl mk1) (zaG (zbB (zac (zdC (zac (zgd (t:=[.str (ywd k),.str x]) (ev_v rfl) ev_k (zaD (j:=1) rfl)) (zac (zgX (zp0 rfl (zac (zgd (t:=[.str (ywd k),.str x]) (ev_v rfl) ev_k (zaD (j:=1) rfl)) ev_nil) (zgx (n:=true) hp ok.p hx.ok) trivial) ev_k) ev_nil))) ev_nil))) (by rw [YAd];have:=ok.p.ln;show s.pl.length + 1 <= 100000;omega)) ?_
  rw [mq1,mp1]
  refine zlY ?_
  simp only [YAm,YA7]
  rw [<- YBV (f:=ySt),<- YAT,zaT (zaF zb1 _),zhj (zaF (fun _=>zl7 _) _),zaT (zaF zgD _),zbl,zbl,hdd]
  rfl
 cases k with
 | mark=>exact zaK (zaC (zow (is_w rfl w1 ok_lit) fun _=>is_w rfl w1 ok_lit) (by kernel_rfl)) place
 | settle=>exact zaK (zaC (zow (is_w rfl w1 ok_lit) fun _=>is_w rfl w1 ok_lit) (by kernel_rfl)) place
 | hand=>
  have hn:x ∉ nmsY s:=fun z=>by
   have f:zbv s x = none:=f
   unfold zbv at f
   by_cases e:zbb x = false
   ·rw [if_pos e] at f;cases f
   ·rw [if_neg e,if_pos z] at f;cases f
  refine zpd (zaC (zow (is_w rfl w1 ok_lit) fun _=>is_w rfl w1 ok_lit) (by kernel_rfl)) ?_
  refine zaK (zaC (in3 rfl w1) (by kernel_rfl)) ?_
  obtain ⟨p1,p2⟩:=zop hn
  refine zsz (ks:=nmsY s) (xs:=s.hs.map fun p=>.bl p.2) (v:=.bl true) (z:=x) (by show 3 < 6;decide) (zpo rfl mk2) (by have:=ok.h.ln;show (s.hs.map (·.1)).length < 1000;rw [YAd];omega) (znZ (zss (ev_v rfl) ev_k w1 ok_lit) (congrArg D.bl (show (!decide (("hand" : Str) = "aside")) = true by decide +kernel))) (zgd (t:=[.str (ywd .hand),.str x]) (ev_v rfl) ev_k (zaD (j:=1) rfl)) ?_
  rw [p1,p2]
  refine zlB (d:=.fdc ((s.hs ++ [(x,true)]).map (·.1)) ((s.hs ++ [(x,true)]).map fun p=>.bl p.2)) rfl rfl (by decide) (ev_v rfl) ?_
  rw [mq2,mp2]
  refine zlY ?_
  simp only [YAm,YA7]
  rw [zaT (zaF zb1 _),zhj (zaF (fun _=>zl7 _) _),zaT (zaF zgD _),zbl,zbl,hdd]
  rfl
end Fd
set_option maxHeartbeats 400000
namespace Fd
open PySem L2
section
variable {ρ:Env} {C A B:WE} {b:Bool} {s:Ya} {k:Yk} {x:Str}
theorem zi1 {u v:Str} (h:Ev C ρ (.bl b)):Ev (binW ixXD (valW (lstW (zab (kW (.str u)) (zab (kW (.str v)) nilA)))) (cbW zdy (zab C nilA))) ρ (.str (if b = true then v else u)):=by
 refine zh4 (k:=if b then 1 else 0) (zaG (zbB (zac ev_k (zac ev_k ev_nil)))) (znK (zac h ev_nil) fun P p=>p) ?_
 cases b
 ·exact zaD (j:=0) rfl
 ·exact zaD (j:=1) rfl
theorem ziJ {U V R:WS} {E:En} (h:seqW U V { E with nx:=R E } ρ):seqW (seqW U V) R E ρ:=h
theorem zsa {neg:Bool} {z:Str} {ks:List Str} {xs:List D} (hA:Ev A ρ (.str z)) (hB:Ev B ρ (.fdc ks xs)):EvT (inKW neg A B) ρ (neg != ks.contains z):=fun P p=>hA _ (hB _ p)
theorem zpp {ks:List Str} {xs:List D} (hA:Ev A ρ (.fdc ks xs)):Ev (zqy A) ρ (.int ks.length):=fun P p=>hA _ p
theorem d0 {i:Nat} (hi:ρ[i]? = some (.val (yD k x))):Ev (binW ixXD (vW i) (kW (.int 0))) ρ (.str (ywd k)):=zgd (t:=[.str (ywd k),.str x]) (ev_v hi) ev_k (zaD (j:=0) rfl)
theorem d1 {i:Nat} (hi:ρ[i]? = some (.val (yD k x))):Ev (binW ixXD (vW i) (kW (.int 1))) ρ (.str x):=zgd (t:=[.str (ywd k),.str x]) (ev_v hi) ev_k (zaD (j:=1) rfl)
theorem is_k {i:Nat} {z:Str} (hi:ρ[i]? = some (.val (yD k x))) (hz:okS z = true):EvT (blW (binW eqD (binW ixXD (vW i) (kW (.int 0))) (kW (.str z)))) ρ (decide (ywd k = z)):=zbQ (zfy (d0 hi) ev_k (zlk k) hz)
theorem zfj (ok:Yok s) (hx:Tx x) (h0:ρ[0]? = some (.val (yMod s))) (h1:ρ[1]? = some (.val (yD k x))):Ev (zas 2 zaB (zab (vW 0) (zab (binW ixXD (vW 1) (kW (.int 1))) nilA))) ρ (.int (cntY s.pl x)):=zaY (zac (ev_v h0) (zac (d1 h1) ev_nil)) (zgx (ztc s) ok.p hx.ok)
theorem zhz (ok:Yok s) (hx:Tx x) (hk:k ≠ .settle):zbq [yMod s,yD k x] (· = .str ((why s k x).getD "")):=by
 refine w_in (zbr (n:=0) (zdp fun y hy=>(ok.dd y hy).1) (zcc k x)) ?_
 have en:EvT (notT (truW (zas 1 zbn (zab (binW ixXD (vW 1) (kW (.int 1))) nilA)))) (.val (yMod s) :: .val (yD k x) :: List.replicate 0 Sl.un) (!zbb x):=zjI (zfO (zaY (zac (d1 rfl) ev_nil) (zlV x hx.ln)))
 cases hb:zbb x with
 | false=>
  rw [hb] at en
  refine zaK en (ret_of ev_k ?_)
  cases k
  ·show _ = D.str ((zb2 s x).getD "");unfold zb2;rw [if_pos hb];rfl
  ·show _ = D.str ((zbv s x).getD "");unfold zbv;rw [if_pos hb];rfl
  ·exact absurd rfl hk
 | true=>
 rw [hb] at en
 refine zcE en ?_
 have nb:¬ zbb x = false:=by rw [hb];decide
 cases k with
 | settle=>exact absurd rfl hk
 | hand=>
  refine zaK (zaC (is_k rfl ok_lit) (show decide (("hand" : Str) = "hand") = true by decide +kernel)) (ziJ ?_)
  have ek:EvT (inKW false (binW ixXD (vW 1) (kW (.int 1))) (binW zau (vW 0) (kW (.str "heeded")))) (.val (yMod s) :: .val (yD .hand x) :: List.replicate 0 Sl.un) ((nmsY s).contains x):=zaC (zsa (d1 rfl) (ev_m rfl (m2 s))) (by simp)
  show seqW _ _ { nx:=_,rt:=fun d=>d = D.str ((zbv s x).getD ""),bk:=_,ct:=_ } _
  unfold zbv
  rw [if_neg nb]
  by_cases e:x ∈ nmsY s
  ·rw [if_pos e]
   exact zaK (zaC ek (YB7.mpr e)) (ret_of ev_k rfl)
  ·rw [if_neg e]
   refine zcE (zaC ek (by rw [<- Bool.not_eq_true,YB7];exact e)) ?_
   refine ret_of (zi1 (ze0 (zpp (ev_m rfl (m2 s))) ev_k)) ?_
   rw [YAd]
   by_cases f:s.hs.length = 10
   ·rw [if_pos f,YAy (by omega)];rfl
   ·rw [if_neg f,YAv (by omega)];rfl
 | mark=>
  refine zcE (zaC (is_k rfl ok_lit) (show decide (("mark" : Str) = "hand") = false by decide +kernel)) ?_
  show seqW _ _ { nx:=_,rt:=fun d=>d = D.str ((zb2 s x).getD ""),bk:=_,ct:=_ } _
  unfold zb2
  rw [if_neg nb]
  by_cases e:0 < cntY s.pl x
  ·rw [if_pos e]
   exact zaK (zaC (zbQ (zog (zfj ok hx rfl rfl) ev_k)) (YAy (by omega))) (ret_of ev_k rfl)
  ·rw [if_neg e]
   refine zcE (zaC (zbQ (zog (zfj ok hx rfl rfl) ev_k)) (YAv (by omega))) ?_
   refine ret_of (zi1 (ze0 (zeT (ev_m rfl (m1 s))) ev_k)) ?_
   rw [YAd]
   by_cases f:s.pl.length = 12
   ·rw [if_pos f,YAy (by omega)];rfl
   ·rw [if_neg f,YAv (by omega)];rfl
theorem in2 {u v:Str} (h1:ρ[1]? = some (.val (yD k x))) (hu:okS u = true) (hv:okS v = true):EvT (blW (binW (inXD false) (binW ixXD (vW 1) (kW (.int 0))) (tupW (zab (kW (.str u)) (zab (kW (.str v)) nilA))))) ρ (decide (ywd k ∈ [u,v])):=
 zbQ (ziq (neg:=false) (hs:=[u,v]) (d0 h1) (zdC (zac ev_k (zac ev_k ev_nil))) (zlk k) (by
  intro y hy
  simp only [YAr,YAw,YB3] at hy
  rcases hy with rfl | rfl <;> assumption))
theorem zna (ok:Yok s) (hx:Tx x):zcr [yMod s,yD k x] (· = .str ((why s k x).getD "")):=by
 refine w_in (zbr (n:=0) (zdp fun y hy=>(ok.dd y hy).1) (zcc k x)) ?_
 refine zcE (zmD k x (i:=1) rfl) ?_
 have e2:=in2 (ρ:=.val (yMod s) :: .val (yD k x) :: List.replicate 0 Sl.un) (k:=k) (x:=x) (u := "mark") (v := "hand") rfl ok_lit ok_lit
 by_cases hk:k = .settle
 ·subst hk
  refine zcE (zaC e2 (by kernel_rfl)) ?_
  refine zaK (zaC (is_k rfl ok_lit) (show decide (("settle" : Str) = "settle") = true by decide +kernel)) (ziJ ?_)
  show seqW _ _ { nx:=_,rt:=fun d=>d = D.str ((zbc s x).getD ""),bk:=_,ct:=_ } _
  unfold zbc
  by_cases e:cntY s.pl x = 0
  ·rw [if_pos e]
   exact zaK (zaC (zbQ (ze0 (zfj ok hx rfl rfl) ev_k)) (YAy (by omega))) (ret_of ev_k rfl)
  ·rw [if_neg e]
   refine zcE (zaC (zbQ (ze0 (zfj ok hx rfl rfl) ev_k)) (YAv (by omega))) ?_
   refine ret_of (zi1 (ze0 (zeT (ev_m rfl (m1 s))) ev_k)) ?_
   rw [YAd]
   by_cases f:s.pl.length = 12
   ·rw [if_pos f,YAy (by omega)];rfl
   ·rw [if_neg f,YAv (by omega)];rfl
 ·refine zaK (zaC e2 (by cases k;kernel_rfl;kernel_rfl;exact absurd rfl hk)) (ret_of (zaY (zac (ev_v rfl) (zac (ev_v rfl) ev_nil)) (zhz ok hx hk)) rfl)
end
end Fd
set_option maxHeartbeats 400000
namespace Fd
open PySem L2
def EvA (R:WOA) (ρ:Env) (S:Sto) (ds:List D):Prop:=∀ K:List D->Sto->Prop,K ds S->R ρ S K
theorem zjy {ρ:Env} {S:Sto}:EvA nilO ρ S []:=fun K k=>k
theorem zeN {V:Sto->WE} {R:WOA} {ρ:Env} {S:Sto} {d:D} {ds:List D} (h:Ev (V S) ρ d) (hR:EvA R ρ S ds):EvA (zbz (zbS V) R) ρ S (d :: ds):=fun K k=>h _ (hR _ k)
theorem zrG {C:Sto->WT} {U B:WF} {E:EnF} {S:Sto} {ρ:Env} (h:EvT (C S) ρ false) (q:B E S ρ):seqF (ifF C U nilF) B E S ρ:=h _ q
theorem zj1 {A:Ads} {i n:Nat} {m:Str} {F:FnF} {y:Str->Sto->Prop} {R:WOA} {ρ:Env} {S:Sto} {Q P:D->Sto->Prop} {Z:Str->Sto->Prop} {q:Addr} {ks bs us ds:List D} (hi:ρ[i]? = some (.val (.obj q))) (hS:S q = some (fenO A ks bs us)) (hm:m ≠ "kept" /\ m ≠ "books" /\ m ≠ "undone") (hR:EvA R ρ S ds) (h:F (.obj q :: ds) S P Z) (k:∀ d S',P d S'->Q d S') (l:∀ n S',Z n S'->y n S') (hl:ds.length + 1 = n:=by rfl):zeh i A.fen m n F y R ρ S Q:=by
 unfold zeh
 rw [hi]
 exact ⟨⟨_,hS,rfl,zoR hm⟩,hR _ ⟨hl,zii h k l⟩⟩
theorem zl1:(("deed" : Str) ≠ "kept" /\ ("deed" : Str) ≠ "books" /\ ("deed" : Str) ≠ "undone"):=by decide +kernel
theorem ziU {i:Nat} {V:Sto->WE} {R:WF} {E:EnF} {S:Sto} {ρ:Env} {d:D} (h:Ev (V S) ρ d) (q:R E S (ρ.set i (.val d))):seqF (zcu fun S=>asgW (.nm i) (V S)) R E S ρ:=h _ (by unfold gD;exact q)
def whyN:List Str:=["BadName","Taken","Full","NoMark"]
theorem zo3 {s:Ya} {k:Yk} {x nm:Str} (h:why s k x = some nm):nm ∈ whyN:=by
 unfold whyN
 cases k with
 | mark=>
  have h:zb2 s x = some nm:=h
  unfold zb2 at h
  split at h
  ·cases h;simp
  ·split at h
   ·cases h;simp
   ·split at h <;> cases h;simp
 | hand=>
  have h:zbv s x = some nm:=h
  unfold zbv at h
  split at h
  ·cases h;simp
  ·split at h
   ·cases h;simp
   ·split at h <;> cases h;simp
 | settle=>
  have h:zbc s x = some nm:=h
  unfold zbc at h
  split at h
  ·cases h;simp
  ·split at h <;> cases h;simp
theorem zk4:∀ nm ∈ whyN,okS nm = true/\nm ∈ NSx/\decide (nm = "") = false:=by decide +kernel
def fenB (A:Ads) (s:Ya) (k:Yk) (x:Str) (bs:List D):Ob:=fenO A (s.ds ++ [yD k x]) (bs ++ [zaE s] ++ [zaE (zfe s k x)]) []
section
variable {A:Ads} {S:Sto} {q:Addr} {s:Ya} {k:Yk} {x nm:Str} {bs us:List D} {m:D}
theorem znv (hm:m.old = yMod s) (hS:S q = some (fenO A s.ds (bs ++ [zaE s]) us)) (ok:Yok s) (hx:Tx x) (f:why s k x = none) (hb:bs.length <= 1000) :
  zb8 A [.obj q,m,yD k x] S (fun v S'=>v.old = yMod (zfe s k x)/\S' = upS S q (fenB A s k x bs)) (fun _ _=>False):=by
 refine zlx (ρ:=[.val (.obj q),.val (yMod s),.val (yD k x)]) (by unfold zaw;simp [za8,hm,zcc]) ?_
 have hd:∀ y ∈ s.ds,y.old = y:=fun y hy=>(ok.dd y hy).1
 show zeh 0 A.fen "deed" 2 (zbF A) (fun _ _=>False) (zbz (zbS fun S=>vW 2) nilO) [.val (.obj q),.val (yMod s),.val (yD k x)] S _
 refine zj1 (ds:=[yD k x]) (q:=q) rfl hS zl1 (zeN (ev_v rfl) zjy) (zjC hS ok hx hb) (fun v S' h=>?_) fun _ _ z=>by rw [f] at z;cases z.1
 obtain ⟨_,rfl,rfl⟩:=h
 have et:Ev (zas 2 za4 (zab (vW 1) (zab (vW 2) nilA))) [.val (.obj q),.val (yMod s),.val (yD k x)] .non:=zaY (zac (ev_v rfl) (zac (ev_v rfl) ev_nil)) (zol hd)
 refine et _ ⟨rfl,zdz (zdg 5 .non .non rfl (by rw [zap])) fun e z=>?_⟩
 subst z
 show retW (zas 2 zcf (zab (vW 1) (zab (vW 2) nilA))) _ [.val (.obj q),.val (yMod s),.val (yD k x)]
 exact ⟨rfl,zdz (znA ok hx f) fun e z=>⟨z,rfl⟩⟩
theorem zl8 (hS:S q = some (fenO A s.ds (bs ++ [zaE s]) us)) (ok:Yok s) (hx:Tx x) (f:why s k x = some nm) (hb:bs.length <= 1000) :
  zbR A [.obj q,yD k x] S (fun v S'=>v = .tup [.non,.lst true [.str nm]]/\S' = S) (fun _ _=>False):=by
 refine zlx (zbr (n:=3) (za8 q) (zcc k x)) ?_
 refine ziU (V:=fun _=>kW .non) ev_k ?_
 refine ziU (V:=fun _=>valW (lstW nilA)) (zaG (zbB ev_nil)) ?_
 show znM 2 4 3 _ (kdN NSx) _ S [.val (.obj q),.val (yD k x),.val .non,.val (.lst true []),.un]
 refine ⟨fun n S'=>why s k x = some n/\S' = S,?_,fun n S' z=>⟨.lst true [.str n],?_,?_⟩⟩
 ·show zeh 0 A.fen "deed" 2 (zbF A) _ (zbz (zbS fun S=>vW 1) nilO) [.val (.obj q),.val (yD k x),.val .non,.val (.lst true []),.un] S _
  exact zj1 (ds:=[yD k x]) (q:=q) rfl hS zl1 (zeN (ev_v rfl) zjy) (zjC hS ok hx hb) (fun v S' h=>by rw [f] at h;cases h.1) fun _ _ z=>z
 ·unfold kdN;rw [if_pos (zk4 n (zo3 z.1)).2.1]
 ·obtain ⟨z1,rfl⟩:=z
  rw [f] at z1
  cases z1
  show retW (tupW (zab (vW 2) (zab (vW 3) nilA))) _ [.val (.obj q),.val (yD k x),.val .non,.val (.lst true [.str nm]),.un]
  exact ret_of (zdC (zac (ev_v rfl) (zac (ev_v rfl) ev_nil))) ⟨rfl,rfl⟩
theorem zk0 (hm:m.old = yMod s) (hS:S q = some (fenO A s.ds (bs ++ [zaE s]) us)) (ok:Yok s) (hx:Tx x) (hb:bs.length <= 1000) :
  zbw A [.obj q,m,yD k x] S (fun v S'=>(why s k x = none/\v.old = yMod (zfe s k x)/\S' = upS S q (fenB A s k x bs))\/((why s k x).isSome = true/\v.old = yMod s/\S' = S)) (fun _ _=>False):=by
 refine zlx (ρ:=[.val (.obj q),.val (yMod s),.val (yD k x),.un]) (by unfold zaw;simp [za8,hm,zcc]) ?_
 refine ziU (V:=fun _=>zas 2 zcr (zab (vW 1) (zab (vW 2) nilA))) (zaY (zac (ev_v rfl) (zac (ev_v rfl) ev_nil)) (zna ok hx)) ?_
 show seqF _ _ _ S [.val (.obj q),.val (yMod s),.val (yD k x),.val (.str ((why s k x).getD ""))]
 have old:(yMod s).old = yMod s:=zdp fun y hy=>(ok.dd y hy).1
 cases hw:why s k x with
 | none=>
  have e:EvT (blW (binW eqD (vW 3) (kW (.str "")))) [.val (.obj q),.val (yMod s),.val (yD k x),.val (.str ((none:Option Str).getD ""))] true:=zaC (zbQ (zfy (s := "") (ev_v rfl) ev_k ok_lit ok_lit)) (by decide +kernel)
  refine e _ ?_
  show zgT 3 (zb8 A) _ (zbz (zbS fun S=>vW 0) (zbz (zbS fun S=>vW 1) (zbz (zbS fun S=>vW 2) nilO))) [.val (.obj q),.val (yMod s),.val (yD k x),.val (.str "")] S _
  exact ⟨rfl,zii (znv old hS ok hx hw hb) (fun v S' z=>.inl ⟨rfl,z.1,z.2⟩) fun _ _ z=>z⟩
 | some nm=>
  obtain ⟨o1,o2,o3⟩:=zk4 nm (zo3 hw)
  have e:EvT (blW (binW eqD (vW 3) (kW (.str "")))) [.val (.obj q),.val (yMod s),.val (yD k x),.val (.str ((some nm).getD ""))] false:=zaC (zbQ (zfy (s:=nm) (ev_v rfl) ev_k o1 ok_lit)) o3
  refine zrG (C:=fun _=>blW (binW eqD (vW 3) (kW (.str "")))) e ?_
  show zgT 2 (zbR A) (fun _ _=>False) (zbz (zbS fun S=>vW 0) (zbz (zbS fun S=>vW 2) nilO)) [.val (.obj q),.val (yMod s),.val (yD k x),.val (.str nm)] S _
  refine ⟨rfl,zii (zl8 hS ok hx hw hb) (fun v S' h=>?_) fun _ _ z=>z⟩
  obtain ⟨rfl,rfl⟩:=h
  have et:Ev (tupW (zab (kW .non) (zab (valW (lstW (zab (vW 3) nilA))) nilA))) [.val (.obj q),.val (yMod s),.val (yD k x),.val (.str nm)] (.tup [.non,.lst true [.str nm]]):=zdC (zac ev_k (zac (zaG (zbB (zac (ev_v rfl) ev_nil))) ev_nil))
  refine zeN (V:=fun _=>tupW (zab (kW .non) (zab (valW (lstW (zab (vW 3) nilA))) nilA))) et zjy _ ⟨rfl,zdz (zdg 5 _ _ rfl (zlG (n:=4) ?_)) fun e z=>?_⟩
  ·simp only [YAW,YAw,YBA,YBH,YCG]
   exact ⟨by rw [zap],zen (n:=3) (by simp [zgl o1]) (by simp)⟩
  ·subst z
   exact .inr ⟨rfl,old,rfl⟩
end
end Fd
set_option maxHeartbeats 400000
namespace Fd
open PySem L2
theorem zbk {n:Nat} {a:D} (ha:a.old = a):zaw (n + 1) [a] = .val a :: List.replicate n .un:=by
 unfold zaw;simp [ha]
def mksY (pl:List (Str × Nat)):List D:=pl.filterMap fun p=>if decide (((p.2:Nat):Int) = 1) then some (.str p.1) else none
theorem zqx (pl:List (Str × Nat)):∀ y ∈ mksY pl,y.old = y:=fun y hy=>by
 obtain ⟨p,_,e⟩:=YBs.mp hy
 split at e <;> cases e
 exact zaH _
def dueL (s:Ya):List D:=[.lst false (mksY s.pl),.lst false ((nmsY s).map D.str),.lst false [],.lst false (s.pl.map ySt),.int s.al,.lst false [],.lst false [],.lst false s.ds]
theorem zgj {ρ:Env} {I:WL} {pl:List (Str × Nat)} (hI:EvL I ρ (pl.map ySt)) (hl:pl.length <= 1000):EvL (zay [none,none] I (.tp 2 (.cons (.nm 0) (.cons (.nm 1) .nil))) (blW (binW eqD (vW 1) (kW (.int 1)))) (vW 0)) ρ (mksY pl):=
 zcG (sub:=[none,none]) (t:=.tp 2 (.cons (.nm 0) (.cons (.nm 1) .nil))) (C:=blW (binW eqD (vW 1) (kW (.int 1)))) (E:=vW 0) ySt (fun p=>if decide (((p.2:Nat):Int) = 1) then some (.str p.1) else none) pl hI (by omega) fun p _=>by
  have ev:∀ {ρ:Env},ρ[1]? = some (.val (.int p.2))->EvT (blW (binW eqD (vW 1) (kW (.int 1)))) ρ (decide (((p.2:Nat):Int) = 1)):=fun h=>zbQ (ze0 (ev_v h) ev_k)
  cases e:decide (((p.2:Nat):Int) = 1) with
  | true=>exact zrH (e ▸ ev rfl) (ev_v rfl)
  | false=>exact zoU (e ▸ ev rfl)
theorem zio {pl:List (Str × Nat)} (hl:pl.length <= 1000):zdo [.tup (pl.map ySt)] (· = .lst true (mksY pl)):=by
 refine w_in (zbk (n:=0) (za3 (zaF zb1 _))) ?_
 exact ret_of (zaG (zgj (zkn (ev_v rfl)) hl)) rfl
theorem ziO {α:Type}:∀ xs:List α,(xs.filterMap fun _=>(none:Option D)) = []
 | []=>rfl
 | x :: xs=>by rw [YAZ];exact ziO xs
section
variable {A:Ads} {S:Sto} {q:Addr} {s:Ya} {bs us:List D}
theorem zmB {ρ:Env} {i:Nat} {z:Str} {d:D} (hi:ρ[i]? = some (.val (.obj q))) (hS:S q = some (fenO A s.ds (bs ++ [zaE s]) us)) (h:zax BK (zbi s) z = some d):Ev (binW zau (zbY S i A.fen "now" 1 (zaM A) (fun _ Q=>Q [])) (kW (.str z))) ρ d:=znn (zjw hi hS) h
theorem b3' (ok:Yok s):zax BK (zbi s) "aside" = some (.tup []):=by rw [b3,ok.sd];rfl
theorem b4' (ok:Yok s):zax BK (zbi s) "runs" = some (.tup []):=by rw [b4,ok.rs];rfl
theorem m3' (ok:Yok s):zax MK (modL s) "rows" = some (.lst false []):=by rw [m3,ok.rs];rfl
theorem hl10 (ok:Yok s):(nmsY s).length <= 10:=by rw [YAd];exact ok.h.ln
theorem zkR (hS:S q = some (fenO A s.ds (bs ++ [zaE s]) us)) (ok:Yok s):zcW A S [.obj q] (· = .lst true (mksY s.pl)):=by
 refine w_in (zbk (n:=0) (za8 q)) ?_
 exact ret_of (zaY (zac (zmB rfl hS (b1 s)) ev_nil) (zio (by have:=ok.p.ln;omega))) rfl
theorem zk2 (hS:S q = some (fenO A s.ds (bs ++ [zaE s]) us)):zcU A S [.obj q] (· = .lst true ((nmsY s).map D.str)):=by
 refine w_in (zbk (n:=0) (za8 q)) ?_
 exact ret_of (zaG (ziB (zmB rfl hS (b2 s)))) rfl
theorem ziM (hS:S q = some (fenO A s.ds (bs ++ [zaE s]) us)):zcA A S [.obj q] (· = .lst true (s.pl.map ySt)):=by
 refine w_in (zbk (n:=0) (za8 q)) ?_
 exact ret_of (zaG (ziB (zmB rfl hS (b1 s)))) rfl
theorem zij (hS:S q = some (fenO A s.ds (bs ++ [zaE s]) us)):zb7 A S [.obj q] (· = .int s.al):=by
 refine w_in (zbk (n:=0) (za8 q)) ?_
 exact ret_of (zmB rfl hS (b6 s)) rfl
theorem zl3 (hS:S q = some (fenO A s.ds (bs ++ [zaE s]) us)) (ok:Yok s):zdt A S [.obj q] (· = .lst true []):=by
 refine w_in (zbk (n:=0) (za8 q)) ?_
 exact ret_of (zaG (ziB (zmB rfl hS (b4' ok)))) rfl
theorem ziR (hS:S q = some (fenO A s.ds (bs ++ [zaE s]) us)) (ok:Yok s):zcx A S [.obj q] (· = .lst true []):=by
 refine w_in (zbk (n:=1) (za8 q)) ?_
 refine zaR (zjw rfl hS) ?_
 have hc:=zcG (sub:=[none,some 1]) (ρ:=[.val (.obj q),.val (zaE s)]) (I:=zbA (binW zau (vW 1) (kW (.str "hands")))) (t:=.nm 0) (C:=blW (binW (inXD false) (vW 0) (binW zau (vW 1) (kW (.str "aside"))))) (E:=vW 0) D.str (fun _=>none) (nmsY s) (zkn (ev_b rfl (b2 s))) (by have:=hl10 ok;omega) (fun x hx=>zn7 (zaC (zbQ (ziq (neg:=false) (hs:=[]) (ev_v rfl) (ev_b rfl (b3' ok)) (ok.h.okS x hx) (by simp))) (by simp)))
 rw [ziO] at hc
 exact ret_of (zaG hc) rfl
theorem zn3 (ok:Yok s):za6 [zaE s] (· = .lst true []):=by
 refine w_in (zbk (n:=0) (zct s)) ?_
 have hc:=zcG (sub:=[none,some 0]) (ρ:=[.val (zaE s)]) (I:=zbA (binW zau (vW 0) (kW (.str "runs")))) (t:=.nm 0) (C:=blW (binW (inXD true) (binW ixXD (vW 0) (kW (.int 6))) (binW zau (vW 1) (kW (.str "aside"))))) (E:=vW 0) D.str (fun _=>none) ([]:List Str) (zkn (ev_b rfl (b4' ok))) (by decide) (fun x hx=>by cases hx)
 exact ret_of (zaG hc) rfl
theorem zmC {ρ:Env} {I:WL} (hI:EvL I ρ []):Ev (valW (zay [none] I (.nm 0) noIf (binW ixXD (vW 0) (kW (.int 0))))) ρ (.lst true []):=
 zaG (zcG (sub:=[none]) (t:=.nm 0) (C:=noIf) (E:=binW ixXD (vW 0) (kW (.int 0))) D.str (fun _=>none) ([]:List Str) hI (by decide) fun x hx=>by cases hx)
theorem zgU (hS:S q = some (fenO A s.ds (bs ++ [zaE s]) us)) (ok:Yok s):zbK A S [.obj q] (· = .lst true []):=by
 refine w_in (zbk (n:=0) (za8 q)) ?_
 exact ret_of (zmC (zeP (zaY (zac (zjw rfl hS) ev_nil) (zn3 ok)))) rfl
theorem zk1 (hS:S q = some (fenO A s.ds (bs ++ [zaE s]) us)) (ok:Yok s):zcX A S [.obj q] (· = .lst true s.ds):=by
 refine w_in (zbk (n:=0) (za8 q)) ?_
 refine ⟨_,0,s.ds,hS,rfl,zjA,?_⟩
 show D.lst true (s.ds.map D.old) = _
 rw [zci fun x hx=>(ok.dd x hx).1]
theorem zon:(("marks" : Str) ≠ "kept" /\ ("marks" : Str) ≠ "books" /\ ("marks" : Str) ≠ "undone"):=by decide +kernel
theorem znR:(("hands" : Str) ≠ "kept" /\ ("hands" : Str) ≠ "books" /\ ("hands" : Str) ≠ "undone"):=by decide +kernel
theorem zmU:(("asides" : Str) ≠ "kept" /\ ("asides" : Str) ≠ "books" /\ ("asides" : Str) ≠ "undone"):=by decide +kernel
theorem zl4:(("stands" : Str) ≠ "kept" /\ ("stands" : Str) ≠ "books" /\ ("stands" : Str) ≠ "undone"):=by decide +kernel
theorem zkX:(("allowed" : Str) ≠ "kept" /\ ("allowed" : Str) ≠ "books" /\ ("allowed" : Str) ≠ "undone"):=by decide +kernel
theorem zpK:(("runs" : Str) ≠ "kept" /\ ("runs" : Str) ≠ "books" /\ ("runs" : Str) ≠ "undone"):=by decide +kernel
theorem zjo:(("counting" : Str) ≠ "kept" /\ ("counting" : Str) ≠ "books" /\ ("counting" : Str) ≠ "undone"):=by decide +kernel
theorem zoa:(("deeds" : Str) ≠ "kept" /\ ("deeds" : Str) ≠ "books" /\ ("deeds" : Str) ≠ "undone"):=by decide +kernel
theorem zlt (ok:Yok s) {n1 n2 n3 n4 n5 n6 n7:Bool}:[D.lst n1 (mksY s.pl),.lst n2 ((nmsY s).map D.str),.lst n3 [],.lst n4 (s.pl.map ySt),.int s.al,.lst n5 [],.lst n6 [],.lst n7 s.ds].map D.old = dueL s:=by
 simp only [YAm,YA7]
 rw [zaT (zqx _),zaT (zaF zaH _),zaT (by simp),zaT (zaF zb1 _),zbl,zaT (by simp),zaT (by simp),zaT fun x hx=>(ok.dd x hx).1]
 rfl
theorem znC (hS:S q = some (fenO A s.ds (bs ++ [zaE s]) us)) (ok:Yok s):zc0 A S [.obj q] (fun v=>v.old = .lst false (dueL s)):=by
 refine w_in (zbk (n:=1) (za8 q)) ?_
 refine zaR (zaG (zbB (zac (zb6 rfl hS zon (zkR hS ok)) (zac (zb6 rfl hS znR (zk2 hS)) (zac (zb6 rfl hS zmU (ziR hS ok)) (zac (zb6 rfl hS zl4 (ziM hS)) (zac (zb6 rfl hS zkX (zij hS)) (zac (zb6 rfl hS zpK (zl3 hS ok)) (zac (zb6 rfl hS zjo (zgU hS ok)) ev_nil))))))))) ?_
 refine ret_of (zcj (ev_v rfl) (zaG (zbB (zac (zb6 rfl hS zoa (zk1 hS ok)) ev_nil))) (by show 8 <= 100000;decide)) ?_
 show (D.lst true _).old = _
 rw [D.old]
 exact congrArg (D.lst false) (zlt ok)
theorem zhr {h:Str}:∀ {hs:List (Str × Bool)},(∀ p ∈ hs,p.2 = true)->h ∈ hs.map (·.1)->zax (hs.map (·.1)) (hs.map fun p=>D.bl p.2) h = some (.bl true)
 | x :: hs,ht,m=>by
  rw [YAm,YAm]
  unfold zax
  by_cases e:x.1 = h
  ·rw [if_pos e,ht x YAf]
  ·rw [if_neg e];exact zhr (fun p hp=>ht p (YAq _ hp)) ((YAr.mp m).resolve_left fun z=>e z.symm)
theorem zoi {ρ:Env} {A:WE} {hs:List Str} {xs:List D} (h:Ev A ρ (.fdc hs xs)):EvL (zm7 A) ρ (hs.map D.str):=fun P p=>h _ p
theorem zkd {ρ:Env} {A:WE} {hs:List Str} {xs:List D} (h:Ev A ρ (.fdc hs xs)) (hl:hs.length <= 1000):EvL (znQ A) ρ (hs.map D.str):=fun P p=>h _ ⟨hl,p⟩
theorem zmi (ok:Yok s):(yMod s).old = yMod s:=zdp fun x hx=>(ok.dd x hx).1
theorem zgB (ok:Yok s):zbO [yMod s] (· = .lst true (mksY s.pl)):=by
 refine w_in (zbk (n:=0) (zmi ok)) ?_
 exact ret_of (zaG (zgj (zeP (ev_m rfl (m1 s))) (by have:=ok.p.ln;omega))) rfl
theorem zi6 (ok:Yok s):zbL [yMod s] (· = .lst true []):=by
 refine w_in (zbk (n:=0) (zmi ok)) ?_
 have hc:=zcG (sub:=[none,some 0]) (ρ:=[.val (yMod s)]) (I:=zbA (binW zau (vW 0) (kW (.str "rows")))) (t:=.nm 0) (C:=truW (binW zau (binW zau (vW 1) (kW (.str "heeded"))) (binW ixXD (vW 0) (kW (.int 4))))) (E:=vW 0) D.str (fun _=>none) ([]:List Str) (zeP (ev_m rfl (m3' ok))) (by decide) (fun x hx=>by cases hx)
 exact ret_of (zaG hc) rfl
theorem zqC (ok:Yok s):zdw [yMod s] (fun v=>v.old = .lst false (dueL s)):=by
 refine w_in (zbk (n:=4) (zmi ok)) ?_
 refine zaR (ev_m rfl (m1 s)) ?_
 have hc:=zcG (sub:=[none,some 1]) (ρ:=[.val (yMod s),.val (.lst false (s.pl.map ySt)),.un,.un,.un]) (I:=zbA (binW zau (vW 0) (kW (.str "rows")))) (t:=.nm 0) (C:=noIf) (E:=binW addD (binW addD (binW addD (tupW (zab (binW ixXD (vW 0) (kW (.int 0))) nilA)) (binW ixXD (vW 1) (binW ixXD (vW 0) (kW (.int 1))))) (binW ixXD (vW 1) (binW ixXD (vW 0) (kW (.int 2))))) (slXW (vW 0) (zd5 (kW (.int 3))) noO)) D.str (fun _=>none) ([]:List Str) (zeP (ev_m rfl (m3' ok))) (by decide) (fun x hx=>by cases hx)
 refine zaR (zaG hc) ?_
 have hk:=zcG (sub:=[none,some 0]) (ρ:=[.val (yMod s),.val (.lst false (s.pl.map ySt)),.val (.lst true []),.un,.un]) (I:=zm7 (binW zau (vW 0) (kW (.str "heeded")))) (t:=.nm 0) (C:=notT (truW (binW zau (binW zau (vW 1) (kW (.str "heeded"))) (vW 0)))) (E:=vW 0) D.str (fun _=>none) (nmsY s) (zoi (ev_m rfl (m2 s))) (by have:=hl10 ok;omega) (fun x hx=>zn7 (zjI (b:=true) (zfO (ztI (z:=x) (ev_m rfl (m2 s)) (ev_v rfl) (zhr ok.hd hx)))))
 rw [ziO] at hk
 refine zaR (zaG hk) ?_
 show seqW _ _ _ [.val (yMod s),.val (.lst false (s.pl.map ySt)),.val (.lst true []),.val (.lst true []),.un]
 refine zaR (zaG (zbB (zac (zaY (zac (ev_v rfl) ev_nil) (zgB ok)) (zac (zaG (zkd (ev_m rfl (m2 s)) (by have:=hl10 ok;omega))) (zac (ev_v rfl) (zac (ev_v rfl) (zac (ev_m rfl (m5 s)) (zac (ev_v rfl) ev_nil)))))))) ?_
 refine ret_of (zcj (ev_v rfl) (zaG (zbB (zac (zmC (zeP (zaY (zac (ev_v rfl) ev_nil) (zi6 ok)))) (zac (ev_m rfl (m6 s)) ev_nil)))) (by show 8 <= 100000;decide)) ?_
 show (D.lst true _).old = _
 rw [D.old]
 exact congrArg (D.lst false) (zlt ok)
theorem zq0 (ok:Yok s):zap (.lst false (dueL s)) 5 = true:=by
 have hp:=ok.p.ln
 have hh:=hl10 ok
 have hd:=ok.dl
 unfold dueL
 refine zen ?_ (by simp)
 simp only [YAW,YAw,YBA,YBH,YCG]
 refine ⟨zen (fun x hx=>?_) (YAF (List.length_filterMap_le _ _) (by omega)),zen (fun x hx=>?_) (by rw [YAd];omega),zen (by simp) (by simp),zen (fun x hx=>?_) (by rw [YAd];omega),zoJ,zen (by simp) (by simp),zen (by simp) (by simp),zen (fun d hd=>(ok.dd d hd).2) (by omega)⟩
 ·obtain ⟨p,hp,e⟩:=YBs.mp hx
  split at e <;> cases e
  exact zgl (ok.p.okS p hp)
 ·obtain ⟨y,hy,rfl⟩:=YBc.mp hx;exact zgl (ok.h.okS y hy)
 ·obtain ⟨y,hy,rfl⟩:=YBc.mp hx;exact zlG (by simp [zgl (ok.p.okS y hy),zoJ])
theorem zmu {m:D} (hm:m.old = yMod s) (hS:S q = some (fenO A s.ds (bs ++ [zaE s]) us)) (ok:Yok s):zaQ A S [.obj q,m] (· = .bl true):=by
 refine w_in (ρ:=[.val (.obj q),.val (yMod s)]) (by unfold zaw;simp [za8,hm]) ?_
 refine ⟨rfl,zdz (znC hS ok) fun v hv=>⟨rfl,zdz (zqC ok) fun w hw=>⟨rfl,zdz (zdg 5 v w (hv.trans hw.symm) ?_) fun e z=>z⟩⟩⟩
 rw [<- zeE,hv]
 exact zq0 ok
end
end Fd
set_option maxHeartbeats 400000
namespace Fd
open PySem L2
theorem ziG (x y:Str):(x ++ y).length = x.length + y.length:=by show (x.cps ++ y.cps).size = _;rw [Array.size_append];rfl
theorem ziY {x y:Str} (hx:okS x = true) (hy:okS y = true):okS (x ++ y) = true:=zhH fun ch hc=>by
 rw [zlN] at hc
 exact (YAR.mp hc).elim (zgF hx ch) (zgF hy ch)
theorem Tx.name {x:Str} (h:zbb x = true):Tx x:=⟨zfi h,zoh h⟩
theorem zs9 {x:Str} (h:zbb x = true):x.length <= 8:=by
 unfold zbb zhA at h
 rw [YAx,YAx] at h
 have:=YAE h.1.2
 omega
theorem tk {ρ:Env} {b:Nat} {M:WE} {m:Int} {Q:D->Prop} (hb:ρ[b]? = some (.val .box)) (hM:Ev M ρ (.int m)) (h0:0 < m) (h1:m < 2 ^ 64) (k:∀ x:Int,0 <= x->x < m->Q (.int x)):zas 2 zai (zab (vW b) (zab M nilA)) ρ Q:=(zac (ev_v hb) (zac hM ev_nil)) _ ⟨rfl,zdu h0 h1 k⟩
theorem zrP {ρ:Env} {A B:WE} {b:Bool} {ns:List Str} {k:Nat} {y:Str} (hA:Ev A ρ (.lst b (ns.map D.str))) (hB:Ev B ρ (.int k)) (h:ns[k]? = some y):Ev (binW ixXD A B) ρ (.str y):=zh4 hA hB (zaD (by rw [YAt,h];rfl))
theorem zji {ρ:Env} {A:WE} {L U:WO} {l u:Option Int} {z:Str} (hA:Ev A ρ (.str z)) (hL:EvO L ρ l) (hU:EvO U ρ u) (h:z.length <= 100000):Ev (slXW A L U) ρ (.str (cutS z l u)):=fun P p=>hA _ (hL _ (hU _ ⟨h,p⟩))
theorem zn0 {s:Ya} (ok:Yok s):∃ ms:List Str,mksY s.pl = ms.map D.str/\ms.length <= 12/\∀ y ∈ ms,Tx y:=by
 have h:=ok.p.okS
 have hn:=ok.p.ok
 have hl:=ok.p.ln
 refine ⟨s.pl.filterMap fun p=>if decide (((p.2:Nat):Int) = 1) then some p.1 else none,?_,YAF (List.length_filterMap_le _ _) hl,fun y hy=>?_⟩
 ·unfold mksY
  rw [List.map_filterMap]
  congr 1
  funext p
  split <;> rfl
 ·obtain ⟨p,hp,e⟩:=YBs.mp hy
  split at e <;> cases e
  exact Tx.name (hn p hp)
def EvP (A:WE) (ρ:Env) (P:D->Prop):Prop:=∀ Q:D->Prop,(∀ d,P d->Q d)->A ρ Q
def EvLP (A:WL) (ρ:Env) (P:List D->Prop):Prop:=∀ Q:List D->Prop,(∀ d,P d->Q d)->A ρ Q
section
variable {ρ:Env} {A B V:WE} {R:WL} {P P' T:D->Prop} {PL TL:List D->Prop} {d:D} {i:Nat} {E:En} {U:WS}
theorem ze1 (h:Ev A ρ d):EvP A ρ (· = d):=fun Q q=>h Q (q d rfl)
theorem zew {f:F2} (hA:EvP A ρ P) (hB:EvP B ρ P') (h:∀ x y,P x->P' y->∀ Q:D->Prop,(∀ d,T d->Q d)->f x y Q):EvP (binW f A B) ρ T:=fun Q q=>hA _ fun x px=>hB _ fun y py=>h x y px py Q q
theorem zph:EvLP nilA ρ (· = []):=fun Q q=>q [] rfl
theorem zeo (hA:EvP A ρ P) (hR:EvLP R ρ PL) (h:∀ d ds,P d->PL ds->TL (d :: ds)):EvLP (zab A R) ρ TL:=fun Q q=>hA _ fun d pd=>hR _ fun ds pds=>q _ (h d ds pd pds)
theorem zd1 {b:Nat} {M:WE} {m:Int} (hb:ρ[b]? = some (.val .box)) (hM:Ev M ρ (.int m)) (h0:0 < m) (h1:m < 2 ^ 64):EvP (zas 2 zai (zab (vW b) (zab M nilA))) ρ (fun d=>∃ x:Int,d = .int x/\0 <= x/\x < m):=fun Q q=>tk hb hM h0 h1 fun x a b=>q _ ⟨x,rfl,a,b⟩
theorem zjr (h:EvP V ρ P) (k:∀ d,P d->U E (ρ.set i (.val d))):seqW (asgW (.nm i) V) U E ρ:=h _ fun d p=>by unfold gD;exact k d p
theorem zsW (h:EvP V ρ P) (k:∀ d,P d->E.nx (ρ.set i (.val d))):asgW (.nm i) V E ρ:=h _ fun d p=>by unfold gD;exact k d p
theorem zp9 (h:EvLP R ρ PL) (hl:∀ ds,PL ds->ds.length <= 100000):EvP (valW (lstW R)) ρ (fun d=>∃ ds,d = .lst true ds/\PL ds):=fun Q q=>h _ fun ds p=>⟨hl ds p,q _ ⟨ds,rfl,p⟩⟩
end
theorem zoV {ns:List Str} {z:Int} (h0:0 <= z) (h1:z < ns.length):∃ y ∈ ns,atI (ns.map D.str) z = some (.str y):=by
 obtain ⟨j,rfl⟩:=YA5 h0
 have hj:j < ns.length:=by omega
 exact ⟨ns[j],YCN hj,zaD (by rw [YAt,YAn hj];rfl)⟩
abbrev TxD (d:D):Prop:=∃ y,d = .str y/\Tx y
theorem zoe {s:Ya} {k:Yk} {x:Str} {m:D} {n:Bool} {pool:List Str} (ok:Yok s) (hm:m.old = yMod s) (hl:pool.length = 16) (hn:∀ y ∈ pool,zbb y = true):zbh [.box,m,.lst n (pool.map D.str),yD k x] (fun d=>∃ y,d = yD k y/\Tx y):=by
 refine w_in (ρ:=[.val .box,.val (yMod s),.val (.lst false (pool.map D.str)),.val (yD k x),.un,.un,.un,.un]) (by unfold zaw;simp [hm,zcc,zaT (zaF zaH pool)];rw [D.old]) ?_
 refine zjr (P:=(· = .int 1)) (zew (ze1 ev_k) (zd1 (b:=0) rfl (zqg (zih (t:=[.str (ywd k),.str x]) (ev_v rfl)) ev_k) (by show (0:Int) < 2 - 1;decide) (by show (2:Int) - 1 < 2 ^ 64;decide)) fun a b ha hb Q q=>?_) fun d hd=>?_
 ·obtain ⟨z,rfl,z0,z1⟩:=hb
  subst ha
  have z1:z < 2 - 1:=z1
  have ez:z = 0:=by omega
  subst ez
  exact q _ rfl
 subst hd
 show seqW _ _ _ [.val .box,.val (yMod s),.val (.lst false (pool.map D.str)),.val (yD k x),.val (.int 1),.un,.un,.un]
 have ex:Ev (binW ixXD (vW 3) (vW 4)) [.val .box,.val (yMod s),.val (.lst false (pool.map D.str)),.val (yD k x),.val (.int 1),.un,.un,.un] (.str x):=zgd (t:=[.str (ywd k),.str x]) (k:=1) (ev_v rfl) (ev_v rfl) (zaD (j:=1) rfl)
 have e1:EvT (truW (isiW "str" (binW ixXD (vW 3) (vW 4)))) [.val .box,.val (yMod s),.val (.lst false (pool.map D.str)),.val (yD k x),.val (.int 1),.un,.un,.un] true:=by
  refine zfO (fun P p=>?_)
  unfold isiW
  exact ex _ p
 refine zaK e1 (ziJ ?_)
 obtain ⟨p0,hp0⟩:∃ p0,pool[0]? = some p0:=⟨pool[0],YAn (by omega)⟩
 have np:zbb p0 = true:=hn p0 (YCd hp0)
 have l8:=zs9 np
 have op:=zfi np
 have ep:∀ {ρ:Env},ρ[2]? = some (.val (.lst false (pool.map D.str)))->Ev (binW ixXD (vW 2) (kW (.int 0))) ρ (.str p0):=fun h=>zrP (k:=0) (ev_v h) ev_k hp0
 have c1:=zgY p0 none (some 1)
 have c7:=zgY p0 none (some 7)
 have c3:=zgY p0 none (some 3)
 have good:∀ u:Str,u.length <= 64->(∀ ch ∈ sg u,ch ∈ sg (cutS p0 none (some 1)))->Tx (p0 ++ u):=fun u h1 h2=>⟨ziY op (zhH fun ch hc=>zgF op ch (zj4 (h2 ch hc))),by rw [ziG];omega⟩
 have t3:Tx (cutS p0 none (some 7) ++ "A"):=⟨ziY (zlE op _ _) ok_lit,by rw [ziG];show _ + 1 <= _;omega⟩
 have t4:Tx (cutS p0 none (some 3) ++ " a"):=⟨ziY (zlE op _ _) ok_lit,by rw [ziG];show _ + 2 <= _;omega⟩
 have t1:Tx "" := ⟨ok_lit,by decide +kernel⟩
 have t5:Tx "1" := ⟨ok_lit,by decide +kernel⟩
 obtain ⟨ms,em,lm,tm⟩:=zn0 ok
 have bad:EvLP (zab (kW (.str "")) (zab (binW addD (binW ixXD (vW 2) (kW (.int 0))) (binW zja (slXW (binW ixXD (vW 2) (kW (.int 0))) noO (zd5 (kW (.int 1)))) (kW (.int 8)))) (zab (binW addD (slXW (binW ixXD (vW 2) (kW (.int 0))) noO (zd5 (kW (.int 7)))) (kW (.str "A"))) (zab (binW addD (slXW (binW ixXD (vW 2) (kW (.int 0))) noO (zd5 (kW (.int 3)))) (kW (.str " a"))) (zab (kW (.str "1")) nilA))))) [.val .box,.val (yMod s),.val (.lst false (pool.map D.str)),.val (yD k x),.val (.int 1),.un,.un,.un] (fun ds=>∃ bs:List Str,ds = bs.map D.str/\bs.length = 5/\∀ y ∈ bs,Tx y):=by
  refine zeo (PL:=fun ds=>∃ bs:List Str,ds = bs.map D.str/\bs.length = 4/\∀ y ∈ bs,Tx y) (ze1 ev_k) (zeo (P:=TxD) (PL:=fun ds=>∃ bs:List Str,ds = bs.map D.str/\bs.length = 3/\∀ y ∈ bs,Tx y) ?_ (zeo (P:=TxD) (PL:=fun ds=>∃ bs:List Str,ds = bs.map D.str/\bs.length = 2/\∀ y ∈ bs,Tx y) (fun Q q=>ziZ (zji (ep rfl) zht (zer ev_k) (by omega)) ev_k (by show _ + 1 <= _;omega) Q (q _ ⟨_,rfl,t3⟩)) (zeo (P:=TxD) (PL:=fun ds=>∃ bs:List Str,ds = bs.map D.str/\bs.length = 1/\∀ y ∈ bs,Tx y) (fun Q q=>ziZ (zji (ep rfl) zht (zer ev_k) (by omega)) ev_k (by show _ + 2 <= _;omega) Q (q _ ⟨_,rfl,t4⟩)) (zeo (ze1 ev_k) zph ?_) ?_) ?_) ?_) ?_
  ·refine zew (P:=(· = .str p0)) (P':=fun d=>∃ u:Str,d = .str u/\u.length <= 64/\∀ ch ∈ sg u,ch ∈ sg (cutS p0 none (some 1))) (ze1 (ep rfl)) (fun Q q=>?_) fun a b ha hb Q q=>?_
   ·refine zji (ep rfl) zht (zer ev_k) (by omega) _ ?_
    exact ⟨⟨by decide,by decide,by omega⟩,fun u h1 h2=>q _ ⟨u,rfl,YAF h1 (by show 8 * _ <= 64;omega),h2⟩⟩
   ·obtain ⟨u,rfl,h1,h2⟩:=hb
    subst ha
    exact ⟨by omega,q _ ⟨_,rfl,good u h1 h2⟩⟩
  ·rintro d ds rfl rfl;exact ⟨["1"],rfl,rfl,by simpa using t5⟩
  ·rintro d ds ⟨y,rfl,ty⟩ ⟨bs,rfl,hb,tb⟩;exact ⟨y :: bs,rfl,by simp [hb],fun z hz=>(YAr.mp hz).elim (fun e=>e ▸ ty) (tb z)⟩
  ·rintro d ds ⟨y,rfl,ty⟩ ⟨bs,rfl,hb,tb⟩;exact ⟨y :: bs,rfl,by simp [hb],fun z hz=>(YAr.mp hz).elim (fun e=>e ▸ ty) (tb z)⟩
  ·rintro d ds ⟨y,rfl,ty⟩ ⟨bs,rfl,hb,tb⟩;exact ⟨y :: bs,rfl,by simp [hb],fun z hz=>(YAr.mp hz).elim (fun e=>e ▸ ty) (tb z)⟩
  ·rintro d ds rfl ⟨bs,rfl,hb,tb⟩;exact ⟨"" :: bs,rfl,by simp [hb],fun z hz=>(YAr.mp hz).elim (fun e=>e ▸ t1) (tb z)⟩
 refine zjr (zp9 bad fun ds ⟨bs,e,hb,_⟩=>by rw [e,YAd];omega) fun d hd=>?_
 obtain ⟨_,rfl,bs,rfl,hb,tb⟩:=hd
 show seqW _ _ _ [.val .box,.val (yMod s),.val (.lst false (pool.map D.str)),.val (yD k x),.val (.int 1),.val (.lst true (bs.map D.str)),.un,.un]
 have hh:=hl10 ok
 have hh2:=ok.h.ln
 have tall:∀ y ∈ pool ++ ms ++ nmsY s ++ bs,Tx y:=fun y hy=>by
  simp only [YAR] at hy
  rcases hy with ((z | z) | z) | z
  ·exact Tx.name (hn y z)
  ·exact tm y z
  ·exact Tx.name (ok.h.ok y z)
  ·exact tb y z
 refine zaR (d:=.lst true ((pool ++ ms ++ nmsY s ++ bs).map D.str)) (by
  rw [YAT,YAT,YAT,<- em]
  refine zcj (zcj (zcj (ev_v rfl) (zaY (zac (ev_v rfl) ev_nil) (zgB ok)) ?_) (zaG (zkd (ev_m rfl (m2 s)) (by omega))) ?_) (ev_v rfl) ?_ <;> simp only [YAs,YAd,em] <;> omega) ?_
 have hl2:((pool ++ ms ++ nmsY s ++ bs).map D.str).length = (pool ++ ms ++ nmsY s ++ bs).length:=YAd _
 have hl3:16 <= (pool ++ ms ++ nmsY s ++ bs).length/\(pool ++ ms ++ nmsY s ++ bs).length <= 100:=by simp only [YAs,YAd];omega
 refine zsW (P:=TxD) (zew (ze1 (ev_v (i:=6) rfl)) (zd1 (b:=0) rfl (zeT (ev_v (i:=6) rfl)) (by rw [hl2];omega) (by rw [hl2];omega)) fun a b ha hb Q q=>?_) fun d hd=>?_
 ·obtain ⟨z,rfl,z0,z1⟩:=hb
  subst ha
  rw [hl2] at z1
  obtain ⟨y,hy,e⟩:=zoV z0 z1
  show (match atI ((pool ++ ms ++ nmsY s ++ bs).map D.str) z with | some d=>Q d | none=>False)
  rw [e]
  exact q _ ⟨y,rfl,tall y hy⟩
 ·obtain ⟨y,rfl,ty⟩:=hd
  have k1:cutD [D.str (ywd k),.str x] none (some 1) = [.str (ywd k)]:=rfl
  have k2:cutD [D.str (ywd k),.str x] (some 2) none = []:=rfl
  have v3:Ev (vW 3) [.val .box,.val (yMod s),.val (.lst false (pool.map D.str)),.val (yD k x),.val (.int 1),.val (.lst true (bs.map D.str)),.val (.lst true ((pool ++ ms ++ nmsY s ++ bs).map D.str)),.val (.str y)] (.tup [.str (ywd k),.str x]):=ev_v rfl
  have a1:=zoX v3 zht (zer (ev_v (i:=4) (d:=.int 1) rfl))
  have a2:=zoX v3 (zer (zgX (ev_v (i:=4) (d:=.int 1) rfl) (ev_k (d:=.int 1)))) zht
  refine ret_of (zg9 (zg9 (znZ a1 (congrArg D.tup k1)) (zdC (zac (ev_v (i:=7) rfl) ev_nil)) (by show 2 <= 100000;decide)) (znZ a2 (congrArg D.tup k2)) (by show 2 <= 100000;decide)) ⟨y,rfl,ty⟩
end Fd
set_option maxHeartbeats 400000
namespace Fd
open PySem L2
def s00:Ya:=⟨[],[],[],[],0,0,[]⟩
theorem zfA {t:Tg} {B:WF} {E:EnF} (I:List D->Sto->Env->Prop)
  (hs:∀ x rest S ρ (E':EnF),(∀ S ρ,I rest S ρ->E'.nx S ρ)->(∀ S ρ,I rest S ρ->E'.ct S ρ)->(∀ S d,E.rt S d->E'.rt S d)->(∀ S ρ,E.nx S ρ->E'.bk S ρ)->I (x :: rest) S ρ->gD t x ρ fun ρ'=>B E' S ρ') (hd:∀ S ρ,I [] S ρ->E.nx S ρ) :
  ∀ (xs:List D) (S:Sto) (ρ:Env),I xs S ρ->zd9 t B E xs S ρ
 | [],S,ρ,h=>hd S ρ h
 | x :: xs,S,ρ,h=>hs x xs S ρ { nx:=zd9 t B E xs,ct:=zd9 t B E xs,bk:=E.nx,rt:=E.rt } (zfA I hs hd xs) (zfA I hs hd xs) (fun S d z=>z) (fun S ρ z=>z) h
theorem zn5 {n:Nat} {F:FnF} {y:Str->Sto->Prop} {R:WOA} {ρ:Env} {S:Sto} {Q P:D->Sto->Prop} {Z:Str->Sto->Prop} {ds:List D} (hR:EvA R ρ S ds) (h:F ds S P Z) (k:∀ d S',P d S'->Q d S') (l:∀ n S',Z n S'->y n S') (hl:ds.length = n:=by rfl):zgT n F y R ρ S Q:=hR _ ⟨hl,zii h k l⟩
theorem zmw:zbm [] (· = .dct true BK (zbi s00)):=by
 refine w_in (ρ:=[]) rfl ?_
 exact ⟨by decide,by decide,by decide,by decide,by decide,rfl⟩
theorem zm3:zcw [] (fun v=>v.old = yMod s00):=by
 refine w_in (ρ:=[]) rfl ?_
 refine ⟨by decide,by decide,by decide,by decide,?_⟩
 refine zlY ?_
 simp only [YAm,YA7]
 rw [zaT (by simp),zhj (by simp),zbl]
 rfl
theorem zo8 {i:Nat} {f:Str} {C:Addr} {F:Sto->WL} {E:EnF} {S:Sto} {ρ:Env} {q:Addr} {o:Ob} {xs:List D} (hi:ρ[i]? = some (.val (.obj q))) (hF:EvL (F S) ρ xs) (hS:S q = some o) (hC:o.C = C) (hl:o.fs.length < 100) (h:E.nx (upS S q ⟨o.C,putO f (xs.map D.old) o.fs⟩) ρ):setO i f C F E S ρ:=by
 unfold setO;rw [hi];exact hF _ ⟨o,hS,hC,hl,h⟩
theorem zm8 {A:Ads} {S:Sto} {a:Addr}:zbd A [.obj a] (upS S a ⟨A.fen,[]⟩) (fun d S'=>d = .non/\S' = upS S a (fenO A [] [zaE s00] [])) (fun _ _=>False):=by
 refine zlx (zbk (n:=0) (za8 a)) ?_
 refine ⟨by decide,⟨A.fen,[]⟩,zaZ,rfl,by show 0 < 100;decide,?_⟩
 rw [zfE]
 have p1:putO "kept" ([].map D.old) ([]:List (Str × List D)) = [(("kept" : Str),[])]:=by kernel_rfl
 rw [p1]
 have eb:EvL (lstW (zab (zas 0 zbm nilA) nilA)) [.val (.obj a)] [.dct true BK (zbi s00)]:=zbB (zac (zaY ev_nil zmw) ev_nil)
 show seqF (setO 0 "books" A.fen fun S=>lstW (zab (zas 0 zbm nilA) nilA)) _ _ _ [.val (.obj a)]
 refine zo8 (q:=a) (o:=⟨A.fen,[("kept",[])]⟩) rfl eb zaZ rfl (by show 1 < 100;decide) ?_
 rw [zfE,YBV,zfQ (zd3 s00)]
 have p2:putO "books" [D.dct false BK (zbi s00)] [(("kept" : Str),([]:List D))] = [(("kept" : Str),[]),("books",[D.dct false BK (zbi s00)])]:=by kernel_rfl
 rw [p2]
 show setO 0 "undone" A.fen (fun S=>lstW nilA) _ _ [.val (.obj a)]
 refine zo8 (q:=a) (o:=⟨A.fen,[("kept",[]),("books",[D.dct false BK (zbi s00)])]⟩) rfl (zbB ev_nil) zaZ rfl (by show 2 < 100;decide) ?_
 rw [zfE]
 have p3:putO "undone" ([].map D.old) [(("kept" : Str),([]:List D)),("books",[D.dct false BK (zbi s00)])] = [(("kept" : Str),[]),("books",[D.dct false BK (zbi s00)]),("undone",[])]:=by kernel_rfl
 rw [p3]
 exact ⟨rfl,rfl⟩
theorem zpf:Yok s00:=⟨⟨by simp [s00],by simp [s00]⟩,⟨YCX,by simp [s00],by simp [s00]⟩,rfl,rfl,by simp [s00],by simp [s00],by simp [s00]⟩
theorem zpC {v:D} {s:Ya} (h:v.old = yMod s):isN v = false:=by
 cases v with
 | non=>rw [D.old] at h;cases h
 | _=>rfl
theorem yds (s:Ya) (k:Yk) (x:Str):(zfe s k x).ds = s.ds ++ [yD k x]:=by cases k <;> rfl
theorem znF {s:Ya} {k:Yk} {x:Str} (ok:Yok s) (hx:Tx x) (f:why s k x = none) (hl:s.ds.length < 1000):Yok (zfe s k x):=by
 have dd:∀ y ∈ (zfe s k x).ds,y.old = y/\zap y 3 = true:=fun y hy=>by
  rw [yds] at hy
  rcases YAR.mp hy with z | z
  ·exact ok.dd y z
  ·rw [YAB.mp z];exact ⟨zcc k x,zlG (by simp [zgl (zlk k),zgl hx.ok])⟩
 have dl:(zfe s k x).ds.length <= 1000:=by rw [yds,YAs];show s.ds.length + 1 <= 1000;omega
 have place:zbb x = true->s.pl.length < 12->Pls (s.pl ++ [nxY s.pl x]):=fun hn hl=>⟨fun p hp=>(YAR.mp hp).elim (ok.p.ok p) fun z=>by rw [YAB.mp z];exact hn,by rw [YAs];show s.pl.length + 1 <= 12;omega⟩
 have lp:=ok.p.ln
 have lh:=ok.h.ln
 cases k with
 | mark=>
  have f:zb2 s x = none:=f
  unfold zb2 at f
  by_cases e:zbb x = false
  ·rw [if_pos e] at f;cases f
  rw [if_neg e] at f
  by_cases g:0 < cntY s.pl x
  ·rw [if_pos g] at f;cases f
  rw [if_neg g] at f
  by_cases h:s.pl.length = 12
  ·rw [if_pos h] at f;cases f
  exact ⟨place (by simpa using e) (by omega),⟨ok.h.nd,ok.h.ok,ok.h.ln⟩,ok.rs,ok.sd,ok.hd,dd,dl⟩
 | settle=>
  have f:zbc s x = none:=f
  unfold zbc at f
  by_cases e:cntY s.pl x = 0
  ·rw [if_pos e] at f;cases f
  rw [if_neg e] at f
  by_cases h:s.pl.length = 12
  ·rw [if_pos h] at f;cases f
  have hm:x ∈ s.pl.map (·.1):=cnt_pos.mp (by omega)
  obtain ⟨p,hp,rfl⟩:=YBc.mp hm
  exact ⟨place (ok.p.ok p hp) (by omega),⟨ok.h.nd,ok.h.ok,ok.h.ln⟩,ok.rs,ok.sd,ok.hd,dd,dl⟩
 | hand=>
  have f:zbv s x = none:=f
  unfold zbv at f
  by_cases e:zbb x = false
  ·rw [if_pos e] at f;cases f
  rw [if_neg e] at f
  by_cases g:x ∈ nmsY s
  ·rw [if_pos g] at f;cases f
  rw [if_neg g] at f
  by_cases h:s.hs.length = 10
  ·rw [if_pos h] at f;cases f
  have en:nmsY (zfe s .hand x) = nmsY s ++ [x]:=by show (s.hs ++ [(x,true)]).map (·.1) = _;rw [YAT];rfl
  refine ⟨⟨ok.p.ok,ok.p.ln⟩,⟨?_,fun y hy=>?_,?_⟩,ok.rs,ok.sd,fun p hp=>?_,dd,dl⟩
  ·rw [en];exact List.nodup_append.mpr ⟨ok.h.nd,by simp,fun a ha b hb z=>by rw [YAB.mp hb] at z;exact g (z ▸ ha)⟩
  ·rw [en] at hy
   exact (YAR.mp hy).elim (ok.h.ok y) fun z=>by rw [YAB.mp z];simpa using e
  ·show (s.hs ++ [_]).length <= 10
   rw [YAs];show s.hs.length + 1 <= 10;omega
  ·exact (YAR.mp hp).elim (ok.hd p) fun z=>by rw [YAB.mp z]
structure Yat (A:Ads) (S:Sto) (q:Addr) (m:D) (s:Ya) (n:Nat):Prop where
 m:m.old = yMod s
 ok:Yok s
 dn:s.ds.length <= n
 ex:∃ bs us,S q = some (fenO A s.ds (bs ++ [zaE s]) us)/\bs.length <= n
theorem Yat.judged {A:Ads} {S:Sto} {q:Addr} {m:D} {s:Ya} {kd:Yk} {x:Str} {n:Nat} {i j k:Nat} {ρ:Env} {Q:D->Sto->Prop} (z:Yat A S q m s n) (hn:n < 900) (hx:Tx x) (hi:ρ[i]? = some (.val (.obj q))) (hj:ρ[j]? = some (.val m)) (hk:ρ[k]? = some (.val (yD kd x)))
  (h:∀ v S' s',Yat A S' q v s' (n + 1)->Q v S'):zgT 3 (zbw A) (fun _ _=>False) (zbz (zbS fun S=>vW i) (zbz (zbS fun S=>vW j) (zbz (zbS fun S=>vW k) nilO))) ρ S Q:=by
 obtain ⟨bs,us,hS,hb⟩:=z.ex
 have dn:=z.dn
 refine zn5 (zeN (ev_v hi) (zeN (ev_v hj) (zeN (ev_v hk) zjy))) (zk0 z.m hS z.ok hx (by omega)) (fun v S' hv=>?_) fun _ _ z=>z
 rcases hv with ⟨h1,h2,rfl⟩ | ⟨_,h2,rfl⟩
 ·exact h v _ (zfe s kd x) ⟨h2,znF z.ok hx h1 (by omega),by rw [yds,YAs];show s.ds.length + 1 <= n + 1;omega,bs ++ [zaE s],[],by rw [zaZ,yds];rfl,by rw [YAs];show bs.length + 1 <= n + 1;omega⟩
 ·exact h v _ s ⟨h2,z.ok,by omega,bs,us,hS,by omega⟩
end Fd
set_option maxHeartbeats 400000
namespace Fd
open PySem L2
theorem ze5 {X Y:WF} {E:EnF} {S:Sto} {ρ:Env} (I:Sto->Env->Prop) (hA:∀ E2:EnF,(∀ S ρ,I S ρ->E2.nx S ρ)->(∀ S d,E.rt S d->E2.rt S d)->X E2 S ρ) (hB:∀ S ρ,I S ρ->Y E S ρ):seqF X Y E S ρ:=hA { E with nx:=Y E } hB fun S d z=>z
theorem ztC {C:Sto->WT} {U:Sto->WS} {B:WF} {E:EnF} {S:Sto} {ρ:Env} (h:EvT (C S) ρ false) (q:B E S ρ):seqF (zcu fun S=>ifS (C S) (U S) nilS) B E S ρ:=h _ q
theorem zlI {V:Sto->WE} {E:EnF} {S:Sto} {ρ:Env} {i:Nat} {P:D->Prop} (h:EvP (V S) ρ P) (q:∀ d,P d->E.nx S (ρ.set i (.val d))):zcu (fun S=>asgW (.nm i) (V S)) E S ρ:=h _ fun d p=>by unfold gD;exact q d p
theorem zka {A:Ads} {S:Sto} {q:Addr} {m:D} {s:Ya} {n i j:Nat} {ρ:Env} (z:Yat A S q m s n) (hi:ρ[i]? = some (.val (.obj q))) (hj:ρ[j]? = some (.val m)):EvT (notT (truW (ziT S 2 (zaQ A) (zab (vW i) (zab (vW j) nilA))))) ρ false:=by
 obtain ⟨bs,us,hS,_⟩:=z.ex
 exact zjI (b:=true) (zfO fun P p=>(zac (ev_v hi) (zac (ev_v hj) ev_nil)) _ ⟨rfl,zdz (zmu z.m hS z.ok) fun e h=>by subst h;exact p⟩)
theorem wds (z:Int) (h0:0 <= z) (h1:z < 5):∃ k:Yk,atI [D.str "mark",.str "hand",.str "mark",.str "hand",.str "settle"] z = some (.str (ywd k)):=by
 obtain ⟨j,rfl⟩:=YA5 h0
 match j,(show j < 5 by omega) with
 | 0,_=>exact ⟨.mark,zaD (j:=0) rfl⟩
 | 1,_=>exact ⟨.hand,zaD (j:=1) rfl⟩
 | 2,_=>exact ⟨.mark,zaD (j:=2) rfl⟩
 | 3,_=>exact ⟨.hand,zaD (j:=3) rfl⟩
 | 4,_=>exact ⟨.settle,zaD (j:=4) rfl⟩
theorem zpR (A:Ads):lawF 6 (zc6 A):=by
 unfold lawF
 show zc6 A _ _ [.un,.val .box,.un,.un,.un,.un,.un,.un]
 unfold zc6
 refine ze5 (fun S ρ=>(∀ a,S a = none)/\∃ pool:List Str,pool.length = 16/\(∀ y ∈ pool,zbb y = true)/\ρ = [.un,.val .box,.val (.lst true (pool.map D.str)),.un,.un,.un,.un,.un]) (fun E2 h2 _=>?_) ?_
 ·refine ⟨rfl,zdz (zmW 16 (by decide) (by decide)) fun d hd=>?_⟩
  obtain ⟨ns,rfl,hl,hn⟩:=hd
  unfold gD
  exact h2 _ _ ⟨fun _=>rfl,ns,by omega,hn,rfl⟩
 rintro S ρ ⟨hS,pool,hl,hn,rfl⟩
 refine ze5 (fun S ρ=>∃ q,S q = some (fenO A [] ([] ++ [zaE s00]) [])/\ρ = [.un,.val .box,.val (.lst true (pool.map D.str)),.val (.obj q),.un,.un,.un,.un]) (fun E2 h2 _=>?_) ?_
 ·show zpx A.fen (zbd A) (fun _ _=>False) _ S _
  intro a ha
  refine zii zm8 (fun d S' h=>⟨h.1,?_⟩) fun _ _ z=>z
  unfold gD
  exact h2 _ _ ⟨a,by rw [h.2,zaZ];rfl,rfl⟩
 rintro S ρ ⟨q,hq,rfl⟩
 refine ze5 (fun S ρ=>∃ m,Yat A S q m s00 0/\ρ = [.un,.val .box,.val (.lst true (pool.map D.str)),.val (.obj q),.val m,.un,.un,.un]) (fun E2 h2 _=>?_) ?_
 ·refine ⟨rfl,zdz zm3 fun d hd=>?_⟩
  unfold gD
  exact h2 _ _ ⟨d,⟨hd,zpf,YAk _,[],[],hq,YAk _⟩,rfl⟩
 rintro S ρ ⟨m,z,rfl⟩
 refine ztC (C:=fun S=>notT (truW (ziT S 2 (zaQ A) (zab (vW 3) (zab (vW 4) nilA))))) (zka z rfl rfl) ?_
 refine ze5 (fun S ρ=>True) (fun E2 h2 hrt=>?_) ?_
 ·have er:EvP (binW addD (kW (.int 8)) (zas 2 zai (zab (vW 1) (zab (kW (.int 25)) nilA)))) [.un,.val .box,.val (.lst true (pool.map D.str)),.val (.obj q),.val m,.un,.un,.un] (fun d=>∃ n:Nat,d = .int n/\n <= 40):=zew (ze1 ev_k) (zd1 (b:=1) rfl ev_k (by decide) (by decide)) fun a b ha hb Q qq=>by
   obtain ⟨w,rfl,w0,w1⟩:=hb
   subst ha
   obtain ⟨j,rfl⟩:=YA5 w0
   exact qq _ ⟨8 + j,by simp,by omega⟩
  refine er _ ?_
  rintro d ⟨n,rfl,hn40⟩
  refine ⟨⟨by omega,by omega⟩,?_⟩
  refine zfA (fun rest S ρ=>∃ s m n s5 s6 s7,ρ = [.un,.val .box,.val (.lst true (pool.map D.str)),.val (.obj q),.val m,s5,s6,s7]/\Yat A S q m s n/\n + rest.length <= 100) ?_ ?_ _ _ _ ⟨s00,m,0,.un,.un,.un,rfl,z,by rw [zdN];omega⟩
  ·rintro x rest S ρ E' hnx _ hrt' _ ⟨s,m,n,s5,s6,s7,rfl,z,hln⟩
   rw [YAP] at hln
   unfold gD
   refine ze5 (fun S' ρ=>S' = S/\∃ k:Yk,ρ = [.un,.val .box,.val (.lst true (pool.map D.str)),.val (.obj q),.val m,.val x,.val (.str (ywd k)),s7]) (fun E2 h2 _=>?_) ?_
   ·refine zlI (V:=fun _=>binW ixXD (valW (lstW (zab (kW (.str "mark")) (zab (kW (.str "hand")) (zab (kW (.str "mark")) (zab (kW (.str "hand")) (zab (kW (.str "settle")) nilA))))))) (zas 2 zai (zab (vW 1) (zab (kW (.int 5)) nilA)))) (P:=fun d=>∃ k,d = .str (ywd k)) (zew (ze1 (zaG (zbB (zac ev_k (zac ev_k (zac ev_k (zac ev_k (zac ev_k ev_nil)))))))) (zd1 (b:=1) rfl ev_k (by decide) (by decide)) fun a b ha hb Q qq=>?_) ?_
    ·obtain ⟨w,rfl,w0,w1⟩:=hb
     subst ha
     obtain ⟨k,e⟩:=wds w w0 w1
     show (match atI [D.str "mark",.str "hand",.str "mark",.str "hand",.str "settle"] w with | some d=>Q d | none=>False)
     rw [e]
     exact qq _ ⟨k,rfl⟩
    ·rintro d ⟨k,rfl⟩
     exact h2 _ _ ⟨rfl,k,rfl⟩
   rintro S' ρ ⟨rfl,k,rfl⟩
   refine ze5 (fun S2 ρ=>S2 = S'/\∃ y,Tx y/\ρ = [.un,.val .box,.val (.lst true (pool.map D.str)),.val (.obj q),.val m,.val x,.val (.str (ywd k)),.val (yD k y)]) (fun E2 h2 _=>?_) ?_
   ·refine zlI (V:=fun _=>tupW (zab (vW 6) (zab (binW ixXD (vW 2) (zas 2 zai (zab (vW 1) (zab (kW (.int 16)) nilA)))) nilA))) (P:=fun d=>∃ y,Tx y/\d = yD k y) (fun Q qq=>?_) ?_
    ·have ey:EvP (binW ixXD (vW 2) (zas 2 zai (zab (vW 1) (zab (kW (.int 16)) nilA)))) [.un,.val .box,.val (.lst true (pool.map D.str)),.val (.obj q),.val m,.val x,.val (.str (ywd k)),s7] TxD:=zew (ze1 (ev_v rfl)) (zd1 (b:=1) rfl ev_k (by decide) (by decide)) fun a b ha hb Q qq=>by
      obtain ⟨w,rfl,w0,w1⟩:=hb
      subst ha
      obtain ⟨y,hy,e⟩:=zoV (ns:=pool) w0 (by omega)
      show (match atI (pool.map D.str) w with | some d=>Q d | none=>False)
      rw [e]
      exact qq _ ⟨y,rfl,Tx.name (hn y hy)⟩
     refine (ev_v rfl:Ev (vW 6) _ (.str (ywd k))) _ (ey _ ?_)
     rintro d ⟨y,rfl,ty⟩
     exact ⟨by show 2 <= 100000;decide,qq _ ⟨y,ty,rfl⟩⟩
    ·rintro d ⟨y,ty,rfl⟩
     exact h2 _ _ ⟨rfl,y,ty,rfl⟩
   rintro S2 ρ ⟨rfl,y,ty,rfl⟩
   refine ze5 (fun S3 ρ=>S3 = S2/\∃ y,Tx y/\ρ = [.un,.val .box,.val (.lst true (pool.map D.str)),.val (.obj q),.val m,.val x,.val (.str (ywd k)),.val (yD k y)]) (fun E2 h2 _=>?_) ?_
   ·refine tk (b:=1) (ρ:=[.un,.val .box,.val (.lst true (pool.map D.str)),.val (.obj q),.val m,.val x,.val (.str (ywd k)),.val (yD k y)]) rfl ev_k (by decide) (by decide) fun w w0 w1=>?_
    refine ev_k _ (zoC ?_)
    dsimp only
    cases decide (w = 0) with
    | false=>exact h2 _ _ ⟨rfl,y,ty,rfl⟩
    | true=>
     refine ⟨rfl,zdz (zoe z.ok z.m hl hn) fun d hd=>?_⟩
     obtain ⟨y',rfl,ty'⟩:=hd
     unfold gD
     exact h2 _ _ ⟨rfl,y',ty',rfl⟩
   rintro S3 ρ ⟨rfl,y,ty,rfl⟩
   refine ze5 (fun S ρ=>∃ s' m',Yat A S q m' s' (n + 1)/\ρ = [.un,.val .box,.val (.lst true (pool.map D.str)),.val (.obj q),.val m',.val x,.val (.str (ywd k)),.val (yD k y)]) (fun E2 h2 _=>?_) ?_
   ·refine z.judged (by omega) ty rfl rfl rfl fun v S' s' z'=>?_
    unfold gD
    exact h2 _ _ ⟨s',v,z',rfl⟩
   rintro S4 ρ ⟨s',m',z',rfl⟩
   refine zth (C:=orT (blW (isNW (vW 4))) (notT (truW (ziT S4 2 (zaQ A) (zab (vW 3) (zab (vW 4) nilA)))))) (zaC (zow (zbQ (zr4 (ev_v rfl))) fun _=>zka z' rfl rfl) (by rw [zpC z'.m];rfl)) ?_
   exact hnx _ _ ⟨s',m',n + 1,_,_,_,rfl,z',by omega⟩
  ·intro S ρ _
   exact h2 _ _ trivial
 ·intro S ρ _
  rfl
end Fd
namespace Fen
open PySem L2
def top (i:Nat):Stmt:=PySem.Challenge.pw_fenlevel_k25_marks_and_hands.main.body.getD i (.Pass ⟨0,0,0,0⟩)
abbrev zpO:Stmt:=top 0
abbrev zdj:Stmt:=top 24
abbrev zf3:Stmt:=top 25
abbrev zdT:Stmt:=top 27
abbrev zdV:Stmt:=top 28
abbrev zcL:Stmt:=top 29
abbrev zcQ:Stmt:=top 30
abbrev zcM:Stmt:=top 37
abbrev zcK:Stmt:=top 38
abbrev zby:Stmt:=top 39
abbrev zf6:Stmt:=top 40
abbrev zfq:Stmt:=top 41
abbrev zho:Stmt:=top 42
abbrev zbM:Stmt:=top 43
abbrev zbW:Stmt:=top 44
abbrev zdO:Stmt:=top 45
abbrev zex:Stmt:=top 46
abbrev zeC:Stmt:=top 47
abbrev zbV:Stmt:=top 48
abbrev zcY:Stmt:=top 49
abbrev zdJ:Stmt:=top 50
abbrev zcI:Stmt:=top 51
abbrev zb9:Stmt:=top 53
abbrev zbg:Stmt:=top 55
abbrev sBox:Stmt:=top 58
abbrev zjk:Stmt:=top 59
abbrev zlU:Stmt:=top 60
abbrev zhQ:Stmt:=top 61
abbrev zh1:Stmt:=top 62
abbrev ziz:Stmt:=top 63
abbrev zhN:Stmt:=top 64
abbrev ziw:Stmt:=top 65
abbrev zed:Stmt:=top 66
abbrev zmS:Stmt:=top 67
abbrev zee:Stmt:=top 68
abbrev zlF:Stmt:=top 69
abbrev zlJ:Stmt:=top 70
abbrev sDue:Stmt:=top 71
abbrev zhX:Stmt:=top 72
abbrev zhw:Stmt:=top 73
abbrev zhP:Stmt:=top 74
abbrev zhZ:Stmt:=top 75
abbrev zdX:Stmt:=top 76
abbrev zd6:Stmt:=top 77
abbrev zlC:Stmt:=top 78
abbrev zfn:Stmt:=top 79
abbrev zdb:Stmt:=top 80
abbrev sLaw:Stmt:=top 81
def clB:Stmt->Nat->Stmt
 | .ClassDef _ _ _ b _ _ _ _ _ _ _,j=>b.getD j (.Pass ⟨0,0,0,0⟩)
 | _,_=>.Pass ⟨0,0,0,0⟩
abbrev zb0:Stmt:=clB (top 20) 0
abbrev zbu:Stmt:=clB (top 56) 0
abbrev zd4:Stmt:=clB (top 56) 1
abbrev zfz:Stmt:=clB (top 56) 2
abbrev zf0:Stmt:=clB (top 56) 3
abbrev zgM:Stmt:=clB (top 56) 4
abbrev zdP:Stmt:=clB (top 56) 5
abbrev zfs:Stmt:=clB (top 56) 6
abbrev zdL:Stmt:=clB (top 56) 7
abbrev zeU:Stmt:=clB (top 56) 8
abbrev zfD:Stmt:=clB (top 56) 9
abbrev zeS:Stmt:=clB (top 56) 10
abbrev zdk:Stmt:=clB (top 56) 11
abbrev zfX:Stmt:=clB (top 56) 12
abbrev zez:Stmt:=clB (top 56) 13
abbrev zcO:Stmt:=clB (top 56) 14
abbrev zfu:Stmt:=clB (top 56) 15
abbrev zcP:Stmt:=clB (top 56) 16
abbrev zcR:Stmt:=clB (top 56) 17
abbrev zch:Stmt:=clB (top 56) 18
abbrev zcs:Stmt:=clB (top 56) 19
abbrev zbP:Stmt:=clB (top 56) 20
abbrev zde:Stmt:=clB (top 56) 21
abbrev zbx:Stmt:=clB (top 56) 22
abbrev zdM:Stmt:=clB (top 56) 23
abbrev zeB:Stmt:=clB (top 56) 24
abbrev zcT:Stmt:=clB (top 56) 25
abbrev zfH:Stmt:=clB (top 56) 26
abbrev zcq:Stmt:=clB (top 56) 27
abbrev zeM:Stmt:=clB (top 56) 28
abbrev zdF:Stmt:=clB (top 56) 29
abbrev zdd:Stmt:=clB (top 56) 30
abbrev zgG:Stmt:=clB (top 56) 31
section
variable {P:Program} {w:PySem.World} {K:PySem.W.Frag} {mg:Str->Option Value} {base:Heap}
theorem zsU:FnScope ["_law_script"] ["_law_script"] (zaj sBox):=⟨rfl,rfl,rfl,by decide +kernel,rfl,by decide +kernel,by decide +kernel⟩
theorem zrv {f:Addr} {fd:FuncData} (F:Fun K "_law_box" "_law_box" sBox f fd) (T:Txt K mg):FnOk P w K mg base CX0 1 f fd ["_law_script"] (zpk K):=by
 refine F.ok zsU (fun vs H Q E h=>?_) (fun cdv A outer s H vs Q E hr h=>?_)
 ·obtain ⟨a,ns,rfl,_⟩:=h
  rfl
 ·obtain ⟨a,ns,rfl,hS,hl,k⟩:=h
  refine ⟨_,zdc (ze2 (zo5 (zav (zbX zc8 rfl T.list YBm (zav (zjE sl_list (pv 0) zlW (zl0 zaN)) za1)) (zav zaN (zav zaN (zav zaN za1)))))),?_⟩
  refine ⟨_,rfl,_,rfl,a,_,rfl,hS,fun p hp=>?_⟩
  rw [ztu hl]
  refine ⟨p,_,rfl,.inl (SqL.of zae),fun c hc=>⟨by show 4 <= sizeLine;decide,fun b hb=>?_⟩⟩
  have hcp:c ≠ p:=fun z=>by rw [z,zae] at hc;cases hc
  have hbc:b ≠ c:=fun z=>by rw [z,zae] at hb;cases hb
  have hb1:upd H p (.lst (ns.map V.int)) b = none:=by rw [upd_ne hbc] at hb;exact hb
  have hbp:b ≠ p:=fun z=>by rw [z,zae] at hb1;cases hb1
  have hc0:H c = none:=by rw [upd_ne hcp] at hc;exact hc
  have hb0:H b = none:=by rw [upd_ne hbp] at hb1;exact hb1
  refine k b c _ hb0 ⟨⟨0,0,17,zae,by decide,by decide,by decide,by decide⟩,by rw [upd_ne hbc.symm,zae],hl⟩ fun x o e=>?_
  rw [upd_ne (zam e hb0),upd_ne (zam e hc0),upd_ne (zam e hp)]
  exact e
theorem scTake:FnScope ["_law_box_here","_law_many","_law_rest","_law_cell","_law_seed"] ["_law_box_here","_law_many"] (zaj zjk):=⟨rfl,rfl,rfl,by decide +kernel,rfl,by decide +kernel,by decide +kernel⟩
theorem ziS {f:Addr} {fd:FuncData} (F:Fun K "_law_take" "_law_take" zjk f fd) (T:Txt K mg):FnOk P w K mg base CX0 1 f fd ["_law_box_here","_law_many"] zsA:=by
 refine F.ok scTake (fun vs H Q E h=>?_) (fun cdv A outer s H vs Q E hr h=>?_)
 ·obtain ⟨b,c,ns,m,rfl,_⟩:=h
  rfl
 ·obtain ⟨b,c,ns,m,rfl,B,m0,m1,k⟩:=h
  refine ⟨_,zaJ (zkw (zha zsu (zfP ix_list (pv 0) zaN (fun _ _=>rfl)) zaN (zeq _))
    (zaJ (zc3 (i:=2) scTake.nd rfl (Or.inl rfl) (zfP ix_list (pv 0) zaN (fun _ _=>rfl)))
    (zaJ (zin (zdx zj3 (pv 2) (pv 1)) (zj7 (pv 0) zaN zdR))
    (zdc (ze2 (zdx zgp (pv 2) (pv 1)))))) zfw)
   (zaJ (zc3 (i:=3) scTake.nd rfl (Or.inl rfl) zaN)
   (zaJ (zkw (zha zs3 (zfP ix_list (pv 0) zaN (fun _ _=>rfl)) (zdW call_len_seq rfl T.len YCY (zav (zfP ix_list (pv 0) zaN (fun _ _=>rfl)) za1)) (zeq _))
    (zaJ (zc3 (i:=3) scTake.nd rfl (Or.inl rfl) (zfP ix_list (zfP ix_list (pv 0) zaN (fun _ _=>rfl)) (zfP ix_list (pv 0) zaN (fun _ _=>rfl)) (fun _ _=>rfl)))
    (zdc (zpH (pv 0) zaN zoy zaN zry zdR))) zfw)
   (zaJ (zkw (zha zrZ (pv 3) (zdx zk6 zaN zaN) (zeq _))
    (zaJ (zin (zdx zj3 (pv 3) (pv 1)) (zj7 (pv 0) zaN zdR))
    (zdc (ze2 (zdx zgp (pv 3) (pv 1))))) zfw)
   (zaJ (zc3 (i:=4) scTake.nd rfl (Or.inl rfl) (zfP ix_list (pv 0) zaN (fun _ _=>rfl)))
   (zaJ (zc3 (i:=4) scTake.nd rfl (Or.inl rfl) (zdx op_add (zdx op_add (zdx zk6 (pv 4) zaN) (zdx op_mul zaN (pv 4))) (zdx op_mul zaN (zdx zgp (pv 3) zaN))))
   (zaJ (zin (zdx zgp (zdx op_add (pv 4) zaN) zaN) (zj7 (pv 0) zaN zdR))
   (zdc (ze2 (zdx zgp (zdx zpj (zfP ix_list (pv 0) zaN (fun _ _=>rfl)) zaN) (pv 1)))))))))),?_⟩
  obtain ⟨p,r,d,e,hp0,hr0,hd0,hd1⟩:=B.ex
  refine ⟨_,rfl,b,_,_,.int r,rfl,rfl,SqL.of e,rfl,_,_,rfl,rfl,_,rfl,?_⟩
  refine ite2 (fun h0=>?_) (fun h0=>?_)
  ·refine ⟨_,rfl,b,_,_,.int r,rfl,rfl,SqL.of e,rfl,?_⟩
   refine ⟨_,rfl,_,rfl,_,_,rfl,rfl,⟨m0,m1⟩,_,rfl,b,_,_,2,rfl,rfl,e,rfl,?_⟩
   refine ⟨_,rfl,_,rfl,_,_,rfl,rfl,m0,?_⟩
   exact k _ _ (YBl _ (by omega)) (YA6 _ m0) (B.put hp0 (YCU hr0 (by omega)) hd0 hd1) Ext.upd
  refine ⟨_,rfl,b,_,_,.int p,rfl,rfl,SqL.of e,rfl,_,rfl,b,_,_,.ref c,rfl,rfl,SqL.of e,rfl,c,_,rfl,.inl (SqL.of B.cells),_,_,rfl,rfl,_,rfl,?_⟩
  refine ite2 (fun h1=>?_) (fun h1=>?_)
  ·have hlt:=YAE h1
   rw [YAd] at hlt
   obtain ⟨z,hz⟩:∃ z,ns[p.toNat]? = some z:=⟨_,YAn (by omega)⟩
   have hat:atI (ns.map V.int) p = some (.int z):=by
    have q:=zaD (xs:=ns.map V.int) (j:=p.toNat) (v:=.int z) (by rw [YAt,hz];rfl)
    rwa [Int.toNat_of_nonneg hp0] at q
   refine ⟨_,rfl,b,_,_,.ref c,rfl,rfl,SqL.of e,rfl,_,rfl,b,_,_,.int p,rfl,rfl,SqL.of e,rfl,c,_,_,.int z,rfl,rfl,SqL.of B.cells,hat,?_⟩
   refine ⟨_,rfl,b,_,1,.int p,rfl,rfl,SqL.of e,rfl,_,_,rfl,rfl,b,_,_,1,rfl,rfl,e,rfl,?_⟩
   have e1:upd H b (boxV c (p + 1) r d) b = some (boxV c (p + 1) r d):=zae
   have hp1:0 <= p + 1:=by omega
   have B1:=B.put hp1 hr0 hd0 hd1
   have X1:Ext b H (upd H b (boxV c (p + 1) r d)):=Ext.upd
   refine ⟨_,rfl,_,_,rfl,rfl,⟨by decide,by decide,by decide⟩,_,_,rfl,rfl,_,rfl,?_⟩
   refine ite2 (fun h2=>?_) (fun h2=>?_)
   ·refine ⟨_,rfl,_,rfl,_,_,rfl,rfl,⟨m0,m1⟩,_,rfl,b,_,_,2,rfl,rfl,e1,rfl,_,rfl,_,rfl,_,_,rfl,rfl,m0,?_⟩
    have hz0:(0:Int) <= z:=by
     have:=YAE h2
     exact Int.le_trans (by decide) this
    exact k _ _ (YBl _ (by omega)) (YA6 _ m0) (B1.put hp1 (YCU hz0 (by omega)) hd0 hd1) (X1.trans Ext.upd)
   ·refine ⟨_,rfl,b,_,_,.int d,rfl,rfl,SqL.of e1,rfl,?_⟩
    refine ⟨_,rfl,_,_,rfl,rfl,⟨by decide,by decide,by omega⟩,_,rfl,_,_,rfl,rfl,.inl ⟨by decide,by decide⟩,_,_,rfl,rfl,_,rfl,_,_,rfl,rfl,(by show (0:Int) < 2147483629;decide),_,_,rfl,rfl,.inl ⟨by decide,by decide⟩,_,_,rfl,rfl,?_⟩
    refine ⟨_,rfl,_,_,rfl,rfl,_,_,rfl,rfl,(by show (0:Int) < 2147483629;decide),_,rfl,b,_,_,3,rfl,rfl,e1,rfl,?_⟩
    refine ⟨_,rfl,b,_,_,_,rfl,rfl,SqL.of zae,rfl,_,_,rfl,rfl,⟨by decide,by decide⟩,_,rfl,_,_,rfl,rfl,m0,?_⟩
    exact k _ _ (YBl _ (by omega)) (YA6 _ m0) (B1.put hp1 hr0 (YBl _ (by decide)) (YA6 _ (by decide))) (X1.trans Ext.upd)
  ·have e1:=e
   have hp1:=hp0
   have B1:=B
   have X1:Ext b H H:=Ext.refl _ _
   refine ⟨_,rfl,_,_,rfl,rfl,⟨by decide,by decide,by decide⟩,_,_,rfl,rfl,_,rfl,?_⟩
   refine ite2 (fun h2=>?_) (fun h2=>?_)
   ·refine ⟨_,rfl,_,rfl,_,_,rfl,rfl,⟨m0,m1⟩,_,rfl,b,_,_,2,rfl,rfl,e1,rfl,_,rfl,_,rfl,_,_,rfl,rfl,m0,?_⟩
    have hz0:(0:Int) <= 0:=Int.le_refl _
    exact k _ _ (YBl _ (by omega)) (YA6 _ m0) (B1.put hp1 (YCU hz0 (by omega)) hd0 hd1) (X1.trans Ext.upd)
   ·refine ⟨_,rfl,b,_,_,.int d,rfl,rfl,SqL.of e1,rfl,?_⟩
    refine ⟨_,rfl,_,_,rfl,rfl,⟨by decide,by decide,by omega⟩,_,rfl,_,_,rfl,rfl,.inl ⟨by decide,by decide⟩,_,_,rfl,rfl,_,rfl,_,_,rfl,rfl,(by show (0:Int) < 2147483629;decide),_,_,rfl,rfl,.inl ⟨by decide,by decide⟩,_,_,rfl,rfl,?_⟩
    refine ⟨_,rfl,_,_,rfl,rfl,_,_,rfl,rfl,(by show (0:Int) < 2147483629;decide),_,rfl,b,_,_,3,rfl,rfl,e1,rfl,?_⟩
    refine ⟨_,rfl,b,_,_,_,rfl,rfl,SqL.of zae,rfl,_,_,rfl,rfl,⟨by decide,by decide⟩,_,rfl,_,_,rfl,rfl,m0,?_⟩
    exact k _ _ (YBl _ (by omega)) (YA6 _ m0) (B1.put hp1 hr0 (YBl _ (by decide)) (YA6 _ (by decide))) (X1.trans Ext.upd)
end
end Fen
namespace Fd
open PySem L2
section
variable {P:Program} {w:World} {K:PySem.W.Frag} {mg:Str->Option Value} {base:Heap}
theorem ziS {f:Addr} {fd:FuncData} (F:Fun K "_law_take" "_law_take" Fen.zjk f fd) (T:Bt mg):FnOk P w K mg base CX0 1 f fd ["_law_box_here","_law_many"] (spD K 2 zai):=by
 refine (Fen.ziS F ⟨T.list,T.len,T.range⟩).imp fun vs H Q E ⟨β,G,ds,gh,bx,hv,hl,P',q,hP⟩=>?_
 unfold zai at q
 split at q
 ·rename_i m
  obtain ⟨v1,v2,rfl,e1,e2⟩:=zs6 hv
  cases e1;cases e2
  obtain ⟨cc,p,r,d,ns,hb,p0,r0,d0,d1,hc,hn⟩:=bx.ex
  refine ⟨β,cc,ns,m,rfl,⟨⟨p,r,d,hb,p0,r0,d0,d1⟩,gh _ _ hc,hn⟩,q.1.1,q.1.2,fun x H' x0 x1 B X=>?_⟩
  refine hP _ (q.2 x x0 x1) _ H' G ⟨Same.refl _,fun a o e=>?_,fun a o n e=>X a o n e,fun a e=>.inl e,⟨?_,bx.still⟩,fun z=>by (rw [hb] at z;cases z),fun cc2 p2 r2 d2 h2=>by
   rw [hb] at h2
   cases h2
   obtain ⟨p',r',d',e',_⟩:=B.ex
   exact ⟨p',r',d',e'⟩⟩ rfl
  ·have na:a ≠ β:=fun z=>by rw [z,bx.still] at e;cases e
   exact X a o na (gh a o e)
  ·obtain ⟨p',r',d',e',q'⟩:=B.ex
   exact ⟨cc,p',r',d',ns,e',q'.1,q'.2.1,q'.2.2.1,q'.2.2.2,hc,hn⟩
 ·exact q.elim
def zls (K:PySem.W.Frag):Sp:=fun vs H Q _=>∃ (a:Addr) (ns:List Int),vs = [.ref a]/\SqL K H a (ns.map V.int)/\ns.length <= 63/\∀ H',Q (.bl true) H'
theorem zp8 {f:Addr} {fd:FuncData} {st:Stmt} {rest:List Stmt} {N:List Str} {n k:Nat} {B:WF} {p1 p2 p3 p4 p5:Pos} (F:Fun K "law" "law" st f fd)
  (hbd:zaX st = .Assign [.Name "_law_box_here" p1] (.Call (.Name "_law_box" p2) [.Name "_law_script" p3] [] p4) p5 :: rest)
  (cB:Cal P w K mg base "_law_box" 1 ["_law_script"] (Fen.zpk K))
  (hB:∀ {cdv:Value} {A:Around} {outer:List PySem.Env} {s:Shared} {H:Hp} {E:XK} {β:Addr} {H1 G1:Hp},(("_law_script" :: "_law_box_here" :: N:List Str)).Nodup->Room k (A.deeper (PyProof.Rows.envOfC "law" (zaj st) s.heap.objs.size f cdv)) ->
   OSs (cxOf CX0 P w K mg base ("_law_script" :: "_law_box_here" :: N) "law" (zaj st) f cdv A outer s H E).nox ⟨K,β,H1,G1,fun _=>none⟩ rest B)
  (h:lawF n B) (hN:N.length = n:=by rfl) (S:FnScope ("_law_script" :: "_law_box_here" :: N) ["_law_script"] (zaj st):=by exact ⟨rfl,rfl,rfl,by decide +kernel,rfl,by decide +kernel,by decide +kernel⟩)
  (hgl:(zaj st).names.lookup ("_law_box" : Str) = some .globalImplicit:=by decide +kernel) (hs0:(zaj st).names.lookup ("_law_script" : Str) = some .local:=by decide +kernel) (hs1:(zaj st).names.lookup ("_law_box_here" : Str) = some .local\/(zaj st).names.lookup ("_law_box_here" : Str) = some .cell:=by decide +kernel) (hk:1 <= k:=by decide):FnOk P w K mg base CX0 (k + 1) f fd ["_law_script"] (zls K):=by
 refine F.ok S (fun vs H Q E ⟨a,ns,e,_⟩=>by rw [e];rfl) (fun cdv A outer s H vs Q E hr ⟨a,ns,e,hS,hl,q⟩=>?_)
 subst e
 have hrest:PSs (cxOf CX0 P w K mg base ("_law_script" :: "_law_box_here" :: N) "law" (zaj st) f cdv A outer s H E).nox rest (fun D σ H'=>∃ β H1 G1,tOS ⟨K,β,H1,G1,fun _=>none⟩ B D σ H'):=fun pins s' σ H' D I ⟨β,H1,G1,z⟩=>(@hB cdv A outer s H E β H1 G1 S.nd hr).pss pins s' σ H' D I z
 rw [hbd]
 obtain ⟨fB,fdB,FB,mB,kB,bB⟩:=cB.ex
 refine ⟨_,zaJ (zc3 (i:=1) S.nd rfl hs1 (zda FB (hr.mono hk) hgl mB kB bB .nil zjf (zav (zbe (i:=0) rfl (.inl hs0)) za1)) rfl (.inl rfl)) hrest,?_⟩
 refine ⟨.ref a,rfl,a,ns,rfl,hS,hl,fun b cc H1 hb Bx Sm=>?_⟩
 obtain ⟨p,r,d,e,p0,r0,d0,d1⟩:=Bx.ex
 have hcc:=Bx.cells
 have nb:b ≠ cc:=Bx.ne
 let G1:Hp:=fun x=>if x = cc then some (.lst (ns.map V.int)) else none
 have gcc:G1 cc = some (.lst (ns.map V.int)):=by show (if cc = cc then _ else _) = _;rw [if_pos rfl]
 have gb:G1 b = none:=by show (if b = cc then _ else _) = _;rw [if_neg nb]
 have gh:Same G1 H1:=fun x o ex=>by
  have ex':(if x = cc then some (HO.lst (ns.map V.int)) else none) = some o:=ex
  split at ex'
  ·rename_i z;rw [z,hcc];exact ex'
  ·cases ex'
 have bx:BoxD b H1 G1:=⟨⟨cc,p,r,d,ns,e,p0,r0,d0,d1,gcc,Bx.few⟩,gb⟩
 have kn:∃ ad,Kn K b G1 (fun _=>none) (fun _=>none) ad:=⟨fun _=>[],fun p o z=>(by cases z),fun p o i a x z=>(by cases z),fun p q i j a z=>absurd rfl z,fun a o z=>(by cases z),fun a z=>absurd rfl z⟩
 have ou:Out ⟨K,b,H1,G1,fun _=>none⟩ (fun _=>none) G1:=⟨fun a z=>absurd rfl z,Same.refl _,fun a z=>.inl z,gh,Dm.refl _⟩
 refine ⟨b,H1,G1,.un :: .val .box :: List.replicate n .un,G1,fun _=>none,fun _=>none,⟨G1,ou,⟨?_,Stp.refl gh bx,fun i sl ei=>?_,fun i j x xs ys ei=>?_,kn⟩⟩,(@hB cdv A outer s H E b H1 G1 S.nd hr).mono { nx:=fun _ _=>False,rt:=fun _ d=>d = .bl true,bk:=fun _ _=>False,ct:=fun _ _=>False } _ _ _ ⟨fun _ ρ z=>z.elim,fun _ d z v H' G' M' G2 _ _ t _ ev=>?_,fun _ ρ z=>z.elim,fun _ ρ z=>z.elim⟩ h⟩
 ·simp [L2.zcV,hN]
 ·match i with
  | 0=>cases ei;trivial
  | 1=>cases ei;exact ⟨.ref b,rfl,rfl⟩
  | i + 2=>
   rw [YAu,YAu,YBg] at ei
   split at ei <;> cases ei
   trivial
 ·match i with
  | 0=>cases ei
  | 1=>cases ei
  | i + 2=>
   rw [YAu,YAu,YBg] at ei
   split at ei <;> cases ei
 ·subst z
  cases ev
  exact q H'
end
end Fd
namespace Fd
open PySem L2 Fen
section
variable {P:Program} {w:World} {K:PySem.W.Frag} {mg:Str->Option Value} {base:Heap}
local macro_rules | `(tactic| decreasing_trivial)=>`(tactic| first | assumption | exact Bt.len ‹_› | exact Bd.dict ‹_› | exact Bd.abs ‹_› | exact zrI ‹_› | exact Bt.range ‹_› | exact Bt.list ‹_› | exact Bt.isinstance ‹_› | exact Bt.all ‹_› | exact Bt.tuple ‹_› | exact Bt.sorted ‹_› | exact Bt.set ‹_› | exact Bt.zip ‹_› | exact Bt.enumerate ‹_› | exact Bt.any ‹_› | exact Bt.min ‹_› | exact Bt.max ‹_› | exact Bt.int ‹_› | exact Bt.bool ‹_› | exact Bt.str ‹_› | exact Room.mono ‹_› (by first | decide | omega) | exact Room.units ‹_› | exact YBm | exact PyProof.Rows.boot_tuple | exact PyProof.Rows.boot_int | exact PyProof.Rows.boot_bool | exact PyProof.Rows.boot_str | decide | exact ndB_of (by kernel_rfl))
structure Xa where
 (aBadName aTaken aFull aNoMark:Addr)
structure Xh (K:PySem.W.Frag) (mg:Str->Option Value) (a:Xa):Prop where
 m_BadName:mg "BadName" = some (.ref a.aBadName)
 m_Taken:mg "Taken" = some (.ref a.aTaken)
 m_Full:mg "Full" = some (.ref a.aFull)
 m_NoMark:mg "NoMark" = some (.ref a.aNoMark)
 o_BadName:PySem.W.excIn K a.aBadName zkY "ValueError.__new__" = true
 o_Taken:PySem.W.excIn K a.aTaken zkY "ValueError.__new__" = true
 o_Full:PySem.W.excIn K a.aFull zkY "ValueError.__new__" = true
 o_NoMark:PySem.W.excIn K a.aNoMark zkY "ValueError.__new__" = true
structure Fc (K:PySem.W.Frag) (mg:Str->Option Value) (A:Ads):Prop where
 cls:Cls K A.fen
 n_kept:NoAttr K A.fen "kept"
 n_books:NoAttr K A.fen "books"
 n_undone:NoAttr K A.fen "undone"
 m_Fen:mg "Fen" = some (.ref A.fen)
theorem ze3 (F:Fun K "_law_same" "_law_same" zlU f fd) (hm:mg "_law_same" = some (.ref f)) (hb:Binds K fd ["_law_found","_law_due_here"] []) (T:Bt mg)  : ∀ n,FnOk P w K mg base CX0 (1 + n) f fd ["_law_found","_law_due_here"] (spD K 2 (zaS n))
 | 0=>⟨fun vs H Q E ⟨β,G,ds,_,_,_,h,_⟩=>h,fun A outer s H args us vs Q E _ _ _ _ ⟨β,G,ds,_,_,_,_,P,z,_⟩=>z.elim⟩
 | n + 1=>by
  have cSelf:Cal P w K mg base "_law_same" (1 + n) ["_law_found","_law_due_here"] (spD K 2 (zaS n)):=Cal.of F (ze3 F hm hb T  n) hm hb
  exact zcp (N:=["_law_found","_law_due_here"]) (k:=1 + n) F fun _ _=>
   (zah (s_if (DW.dt (w_or (zeK (zeD (dv 1))) (zjn (zeK (zeD (dv 1)))))) (zah (s_if (DW.dt (w_or (t_ne (zeD (dv 0)) (zeD (dv 1))) (zjn (t_ne (zeD (dv 0)) (zeD (dv 1)))))) (zal (zao zmA)) zba)
  (zal (zao (zkv (d_eq (zck (zaa (dv 0) zag)) (zck (zaa (dv 1) zag))) (zkQ (zqq (zaa (DF.de (zbj (Nc:=["_law_one","_law_other"]) (.tp 2 (.cons (.nm 0) (.cons (.nm 1) .nil))) (zsm (dv 0) (dv 1)) (zea (n:=2) rfl (zaA (gn 0) (zaA (gn 1) zc1))) zcH (zat cSelf (zaa (dv 0) (zaa (dv 1) zag))))) zag))))))) zba)
  (zah (s_if (DW.dt (w_or (zqm (dv 0)) (zjn (zqm (dv 1))))) (zal (zao (zkv (zsg (dv 0)) (zkQ (zsg (dv 1)))))) zba)
  (zah (s_if (DW.dt (w_or (t_ne (zeD (dv 0)) (zeD (dv 1))) (zjn (t_ne (zeD (dv 0)) (zeD (dv 1)))))) (zal (zao zmA)) zba)
  (zal (zao (zkv (d_eq (zeD (dv 0)) (zeD (dv 1))) (zkQ (d_eq (dv 0) (dv 1)))))))))
variable {f:Addr} {fd:FuncData}
variable (A:Ads) (T:Bt mg) (T2:Bd mg) (fc:Fc K mg A) (xk:ErrF K mg "FenError" NTx NSx) (xv:mg "ValueError" = none) (gA:GDict P w K mg "ACTIONS" (kvA A)) (tb:TabP P w K mg base 4 2 (tabA A)) {fI:Addr} {fdI:FuncData} (mkI:Mk K A.fen fI) (okI:FnOk P w K mg base (CXN P w) 2 fI fdI ["self"] (spO K mg 1 (zbd A))) (bI:Binds K fdI ["self"] []) {t_LETTERS:Tok} {t_LONGEST_NAME:Tok} {t_MOST_HANDS:Tok} {t_MOST_STANDS:Tok} (g_LETTERS:mg "LETTERS" = some (.str "abcdefghijklmnopqrstuvwxyz" t_LETTERS)) (g_LONGEST_NAME:mg "LONGEST_NAME" = some (.int 8 t_LONGEST_NAME)) (g_MOST_HANDS:mg "MOST_HANDS" = some (.int 10 t_MOST_HANDS)) (g_MOST_STANDS:mg "MOST_STANDS" = some (.int 12 t_MOST_STANDS)) {xa:Xa} (xh:Xh K mg xa) (c__law_take:Cal P w K mg base "_law_take" 1 ["_law_box_here","_law_many"] (spD K 2 zai)) (c__law_names:Cal P w K mg base "_law_names" 2 ["_law_box_here","_law_many"] (spD K 2 zbT)) (c_empty_book:Cal P w K mg base "empty_book" 1 [] (spD K 0 zbm)) (c__law_model:Cal P w K mg base "_law_model" 1 [] (spD K 0 zcw)) (c__law_same:Cal P w K mg base "_law_same" (1 + 6) ["_law_found","_law_due_here"] (spD K 2 (zaS 6))) (c_marks_of:Cal P w K mg base "marks_of" 1 ["stands"] (spD K 1 zdo)) (m_now:Met P w K mg base CX0 A.fen "now" 1 ["self"] (spR K 1 (zaM A))) (m_marks:Met P w K mg base CX0 A.fen "marks" 2 ["self"] (spR K 1 (zcW A))) (m_hands:Met P w K mg base CX0 A.fen "hands" 2 ["self"] (spR K 1 (zcU A))) (m_asides:Met P w K mg base CX0 A.fen "asides" 2 ["self"] (spR K 1 (zcx A))) (m_stands:Met P w K mg base CX0 A.fen "stands" 2 ["self"] (spR K 1 (zcA A))) (m_allowed:Met P w K mg base CX0 A.fen "allowed" 2 ["self"] (spR K 1 (zb7 A))) (m_runs:Met P w K mg base CX0 A.fen "runs" 2 ["self"] (spR K 1 (zdt A))) (c_rows_that_count:Cal P w K mg base "rows_that_count" 1 ["book"] (spD K 1 za6)) (m_counting:Met P w K mg base CX0 A.fen "counting" 2 ["self"] (spR K 1 (zbK A))) (m_deeds:Met P w K mg base CX0 A.fen "deeds" 1 ["self"] (spR K 1 (zcX A))) (c__law_seen:Cal P w K mg base "_law_seen" 3 ["_law_fen"] (spR K 1 (zc0 A))) (c__law_marks:Cal P w K mg base "_law_marks" 1 ["_law_model_here"] (spD K 1 zbO)) (c__law_counted:Cal P w K mg base "_law_counted" 1 ["_law_model_here"] (spD K 1 zbL)) (c__law_due:Cal P w K mg base "_law_due" 2 ["_law_model_here"] (spD K 1 zdw)) (c__law_right:Cal P w K mg base "_law_right" 8 ["_law_fen","_law_model_here"] (spR K 2 (zaQ A))) (c__law_turns:Cal P w K mg base "_law_turns" 1 ["_law_model_here","_law_name"] (spD K 2 zaB)) (c__law_run_word:Cal P w K mg base "_law_run_word" 2 ["_law_model_here","_law_deed"] (spD K 2 zcm)) (c__law_named:Cal P w K mg base "_law_named" 1 ["_law_word_here"] (spD K 1 zbn)) (c__law_new_word:Cal P w K mg base "_law_new_word" 2 ["_law_model_here","_law_deed"] (spD K 2 zbq)) (c__law_word:Cal P w K mg base "_law_word" 3 ["_law_model_here","_law_deed"] (spD K 2 zcr)) (c__law_place:Cal P w K mg base "_law_place" 2 ["_law_model_here","_law_name"] (spD K 2 zcB)) (c__law_done:Cal P w K mg base "_law_done" 3 ["_law_model_here","_law_deed"] (spD K 2 zcf)) (c_with_entry:Cal P w K mg base "with_entry" 1 ["book","word","value"] (spD K 3 zbo)) (c_turns_of:Cal P w K mg base "turns_of" 1 ["stands","name"] (spD K 2 zbD)) (c_next_stand:Cal P w K mg base "next_stand" 2 ["stands","name"] (spD K 2 zcD)) (c_with_new_stand:CalX P w K mg base "with_new_stand" 3 ["book","name"] (spDX K mg 2 zaP)) (c_is_made_of:Cal P w K mg base "is_made_of" 1 ["text","signs","longest"] (spD K 3 zbN)) (c_is_name:Cal P w K mg base "is_name" 2 ["text"] (spD K 1 zcn)) (c_last_stand:CalX P w K mg base "last_stand" 2 ["stands","name"] (spDX K mg 2 zb4)) (c_book_behind:CalX P w K mg base "book_behind" 5 ["book","row"] (spDX K mg 2 (zbf A))) (m_deed:Met P w K mg base (CXN P w) A.fen "deed" 6 ["self","row"] (spO K mg 2 (zbF A))) (c__law_due_told:Cal P w K mg base "_law_due_told" 1 ["_law_model_here","_law_deed"] (spD K 2 za4)) (c__law_step:CalX P w K mg base "_law_step" 8 ["_law_fen","_law_model_here","_law_deed"] (spO K mg 3 (zb8 A))) (c__law_kinds:InOk P w K mg base 1 "_law_kinds" NSx zcC) (c__law_tried:CalX P w K mg base "_law_tried" 7 ["_law_fen","_law_deed"] (spO K mg 2 (zbR A))) (c__law_judged:CalX P w K mg base "_law_judged" 9 ["_law_fen","_law_model_here","_law_deed"] (spO K mg 3 (zbw A))) (c__law_bent_deed:Cal P w K mg base "_law_bent_deed" 2 ["_law_box_here","_law_model_here","_law_pool","_law_deed"] (spD K 4 zbh))
def zgS (F:Fun K "_law_names" "_law_names" zhQ f fd):FnOk P w K mg base CX0 2 f fd ["_law_box_here","_law_many"] (spD K 2 zbT):=
 zcp (N:=["_law_box_here","_law_many","_law_letters","_law_size","_law_place_here","_law_like","_law_first","_law_rows","_law_k","_law_row"]) F fun _ _=>
 (zah (za2 2 zad)
  (zah (za2 3 (zaU zaf (zat c__law_take (zaa (dv 0) (zaa zaf zag)))))
  (zah (za2 4 (zat c__law_take (zaa (dv 0) (zaa (dv 3) zag))))
  (zah (za2 5 (d_eq (zat c__law_take (zaa (dv 0) (zaa zaf zag))) zaf))
  (zah (zl9 6 (Nc:=["_law_k","_law_box_here"]) (.nm 0) (zjO (dv 3)) (gn 0) zcH (zat c__law_take (zaa (dv 1) (zaa zaf zag))))
  (zah (zpV 7 (zaW zag))
  (zah (zqO (.nm 8) (zjO (dv 1)) (gn 8) (zah (zpV 9 (zjK (dv 6)))
  (zah (s_if (zg2 (zeK (dv 5))) (zal (zrJ 9 (Nc:=["_law_step_here","_law_box_here"]) (.nm 0) (zjO (zaU (zaU (dv 4) zaf) (zat c__law_take (zaa (dv 0) (zaa (zrQ (dv 3) (dv 4)) zag))))) (gn 0) zcH (zat c__law_take (zaa (dv 1) (zaa zaf zag))))) zba)
  (zah (ztx 9 (ztp (zaU (zaq (dv 6) (dv 4)) (zsN zaf (dv 8))) zaf) (dv 4))
  (zal (zqc 9 (zrr 7 (zrn zad (DF.de (zbj (Nc:=["_law_one","_law_letters"]) (.nm 0) (zb3 (dv 9)) (gn 0) zcH (zaq (dv 1) (dv 0))))))))))))
  (zal (zqc 7 (zao (dv 7)))))))))))
def zhf (F:Fun K "empty_book" "empty_book" zcM f fd):FnOk P w K mg base CX0 1 f fd [] (spD K 0 zbm):=
 zcp (N:=[]) F fun _ _=>
 (zal (zao (zoM (zbZ (zcJ zag) (zbZ (zcJ zag) (zbZ (zcJ zag) (zbZ (zcJ zag) (zbZ zaf (zbZ zaf zo0)))))))))
def zf5 (F:Fun K "__init__" "Fen.__init__" zbu f fd):FnOk P w K mg base (CXN P w) 2 f fd ["self"] (spO K mg 1 (zbd A)):=
 zh8 (N:=["self"]) F fun Y hY _ _=>
 (zaI (zgI 0 (fun S M G1=>(zaW zag)) fc.cls fc.n_kept)
  (zaI (zgI 0 (fun S M G1=>(zaW (zaa (zmI c_empty_book) zag))) fc.cls fc.n_books)
  (zdE (zgI 0 (fun S M G1=>(zaW zag)) fc.cls fc.n_undone))))
def zgN (F:Fun K "_law_model" "_law_model" zh1 f fd):FnOk P w K mg base CX0 1 f fd [] (spD K 0 zcw):=
 zcp (N:=[]) F fun _ _=>
 (zal (zao (zoM (zbZ (DF.de (zaW zag)) (zbZ zqv (zbZ (DF.de (zaW zag)) (zbZ zaf (zbZ zaf (zbZ (DF.de (zaW zag)) zo0)))))))))
def zjj (F:Fun K "marks_of" "marks_of" zdT f fd):FnOk P w K mg base CX0 1 f fd ["stands"] (spD K 1 zdo):=
 zcp (N:=["stands"]) F fun _ _=>
 (zal (zao (DF.de (zbj (Nc:=["name","turn"]) (.tp 2 (.cons (.nm 0) (.cons (.nm 1) .nil))) (zb3 (dv 0)) (zea (n:=2) rfl (zaA (gn 0) (zaA (gn 1) zc1))) (zdD (t_eq (dv 1) zaf)) (dv 0)))))
def zkz (F:Fun K "now" "Fen.now" zd4 f fd):FnOk P w K mg base CX0 1 f fd ["self"] (spR K 1 (zaM A)):=
 zdi (N:=["self"]) F fun S _ _=>
 (zal (zao (zs2 0 (ziL zaf) zbC fc.cls fc.n_books)))
def zhu (F:Fun K "marks" "Fen.marks" zcP f fd):FnOk P w K mg base CX0 2 f fd ["self"] (spR K 1 (zcW A)):=
 zdi (N:=["self"]) F fun S _ _=>
 (zal (zao (zat c_marks_of (zaa (zar (za9 m_now zbC) zad) zag))))
def zid (F:Fun K "hands" "Fen.hands" zcR f fd):FnOk P w K mg base CX0 2 f fd ["self"] (spR K 1 (zcU A)):=
 zdi (N:=["self"]) F fun S _ _=>
 (zal (zao (DF.de (zjK (zar (za9 m_now zbC) zad)))))
def zgW (F:Fun K "asides" "Fen.asides" zch f fd):FnOk P w K mg base CX0 2 f fd ["self"] (spR K 1 (zcx A)):=
 zdi (N:=["self","book"]) F fun S _ _=>
 (zah (za2 1 (za9 m_now zbC))
  (zal (zao (DF.de (zbj (Nc:=["hand","book"]) (.nm 0) (zb3 (zar (dv 1) zad)) (gn 0) (zdD (zmF (dv 0) (zar (dv 1) zad))) (dv 0))))))
def zgJ (F:Fun K "stands" "Fen.stands" zcs f fd):FnOk P w K mg base CX0 2 f fd ["self"] (spR K 1 (zcA A)):=
 zdi (N:=["self"]) F fun S _ _=>
 (zal (zao (DF.de (zjK (zar (za9 m_now zbC) zad)))))
def zf9 (F:Fun K "allowed" "Fen.allowed" zbP f fd):FnOk P w K mg base CX0 2 f fd ["self"] (spR K 1 (zb7 A)):=
 zdi (N:=["self"]) F fun S _ _=>
 (zal (zao (zar (za9 m_now zbC) zad)))
def ziN (F:Fun K "runs" "Fen.runs" zde f fd):FnOk P w K mg base CX0 2 f fd ["self"] (spR K 1 (zdt A)):=
 zdi (N:=["self"]) F fun S _ _=>
 (zal (zao (DF.de (zjK (zar (za9 m_now zbC) zad)))))
def zep (F:Fun K "rows_that_count" "rows_that_count" zbg f fd):FnOk P w K mg base CX0 1 f fd ["book"] (spD K 1 za6):=
 zcp (N:=["book"]) F fun _ _=>
 (zal (zao (DF.de (zbj (Nc:=["run","book"]) (.nm 0) (zb3 (zar (dv 0) zad)) (gn 0) (zdD (znJ (zaq (dv 0) zaf) (zar (dv 1) zad))) (dv 0)))))
def zfv (F:Fun K "counting" "Fen.counting" zbx f fd):FnOk P w K mg base CX0 2 f fd ["self"] (spR K 1 (zbK A)):=
 zdi (N:=["self"]) F fun S _ _=>
 (zal (zao (DF.de (zbj (Nc:=["run"]) (.nm 0) (zb3 (zat c_rows_that_count (zaa (za9 m_now zbC) zag))) (gn 0) zcH (zaq (dv 0) zaf)))))
def zhC (F:Fun K "deeds" "Fen.deeds" zcO f fd):FnOk P w K mg base CX0 1 f fd ["self"] (spR K 1 (zcX A)):=
 zdi (N:=["self"]) F fun S _ _=>
 (zal (zao (DF.de (zty 0 zbC fc.cls fc.n_kept))))
def zif (F:Fun K "_law_seen" "_law_seen" zlJ f fd):FnOk P w K mg base CX0 3 f fd ["_law_fen"] (spR K 1 (zc0 A)):=
 zdi (N:=["_law_fen","_law_found"]) F fun S _ _=>
 (zah (za2 1 (DF.de (zaW (zaa (za9 m_marks zbC) (zaa (za9 m_hands zbC) (zaa (za9 m_asides zbC) (zaa (za9 m_stands zbC) (zaa (za9 m_allowed zbC) (zaa (za9 m_runs zbC) (zaa (za9 m_counting zbC) zag))))))))))
  (zal (zao (zaU (dv 1) (DF.de (zaW (zaa (za9 m_deeds zbC) zag)))))))
def zgL (F:Fun K "_law_marks" "_law_marks" ziw f fd):FnOk P w K mg base CX0 1 f fd ["_law_model_here"] (spD K 1 zbO):=
 zcp (N:=["_law_model_here"]) F fun _ _=>
 (zal (zao (DF.de (zbj (Nc:=["_law_name","_law_turn"]) (.tp 2 (.cons (.nm 0) (.cons (.nm 1) .nil))) (zb3 (zar (dv 0) zad)) (zea (n:=2) rfl (zaA (gn 0) (zaA (gn 1) zc1))) (zdD (t_eq (dv 1) zaf)) (dv 0)))))
def zfC (F:Fun K "_law_counted" "_law_counted" zed f fd):FnOk P w K mg base CX0 1 f fd ["_law_model_here"] (spD K 1 zbL):=
 zcp (N:=["_law_model_here"]) F fun _ _=>
 (zal (zao (DF.de (zbj (Nc:=["_law_row","_law_model_here"]) (.nm 0) (zb3 (zar (dv 0) zad)) (gn 0) (zdD (zeK (zar (zar (dv 1) zad) (zaq (dv 0) zaf)))) (dv 0)))))
def ziP (F:Fun K "_law_due" "_law_due" sDue f fd):FnOk P w K mg base CX0 2 f fd ["_law_model_here"] (spD K 1 zdw):=
 zcp (N:=["_law_model_here","_law_places","_law_rows","_law_asides","_law_found"]) F fun _ _=>
 (zah (za2 1 (zar (dv 0) zad))
  (zah (zl9 2 (Nc:=["_law_row","_law_places"]) (.nm 0) (zb3 (zar (dv 0) zad)) (gn 0) zcH (zaU (zaU (zaU (zcJ (zaa (zaq (dv 0) zaf) zag)) (zaq (dv 1) (zaq (dv 0) zaf))) (zaq (dv 1) (zaq (dv 0) zaf))) (zia (dv 0) (ze6 zaf) zeZ)))
  (zah (zl9 3 (Nc:=["_law_hand","_law_model_here"]) (.nm 0) (zsf (zar (dv 0) zad)) (gn 0) (zdD (zg2 (zeK (zar (zar (dv 1) zad) (dv 0))))) (dv 0))
  (zah (za2 4 (DF.de (zaW (zaa (zat c__law_marks (zaa (dv 0) zag)) (zaa (DF.de (zo2 (zar (dv 0) zad))) (zaa (dv 3) (zaa (dv 1) (zaa (zar (dv 0) zad) (zaa (dv 2) zag)))))))))
  (zal (zao (zaU (dv 4) (DF.de (zaW (zaa (DF.de (zbj (Nc:=["_law_row"]) (.nm 0) (zb3 (zat c__law_counted (zaa (dv 0) zag))) (gn 0) zcH (zaq (dv 0) zaf))) (zaa (zar (dv 0) zad) zag)))))))))))
def zhb (F:Fun K "_law_right" "_law_right" zhX f fd):FnOk P w K mg base CX0 8 f fd ["_law_fen","_law_model_here"] (spR K 2 (zaQ A)):=
 zdi (N:=["_law_fen","_law_model_here"]) F fun S _ _=>
 (zal (zao (zat c__law_same (zaa (zjm c__law_seen (zaa (dv 0) zag) zbC) (zaa (zat c__law_due (zaa (dv 1) zag)) zag)))))
def zhg (F:Fun K "_law_turns" "_law_turns" ziz f fd):FnOk P w K mg base CX0 1 f fd ["_law_model_here","_law_name"] (spD K 2 zaB):=
 zcp (N:=["_law_model_here","_law_name"]) F fun _ _=>
 (zal (zao (zck (zaa (DF.de (zbj (Nc:=["_law_place_here","_law_name"]) (.nm 0) (zb3 (zar (dv 0) zad)) (gn 0) (zdD (t_eq (zaq (dv 0) zaf) (dv 1))) (dv 0))) zag))))
def zfd (F:Fun K "_law_run_word" "_law_run_word" zd6 f fd):FnOk P w K mg base CX0 2 f fd ["_law_model_here","_law_deed"] (spD K 2 zcm):=
 zcp (N:=["_law_model_here","_law_deed","_law_word_here","_law_one","_law_other","_law_rise","_law_hand"]) F fun _ _=>
 (zah (zmM (.tp 5 (.cons (.nm 2) (.cons (.nm 3) (.cons (.nm 4) (.cons (.nm 5) (.cons (.nm 6) .nil)))))) (dv 1) (zea (n:=5) rfl (zaA (gn 2) (zaA (gn 3) (zaA (gn 4) (zaA (gn 5) (zaA (gn 6) zc1)))))))
  (zah (s_if (DW.dt (w_or (t_eq (zat c__law_turns (zaa (dv 0) (zaa (dv 3) zag))) zaf) (zjn (t_eq (zat c__law_turns (zaa (dv 0) (zaa (dv 4) zag))) zaf)))) (zal (zao zad)) zba)
  (zah (s_if (t_eq (dv 3) (dv 4)) (zal (zao zad)) zba)
  (zah (s_if (zj2 (dv 6) (zar (dv 0) zad)) (zal (zao zad)) zba)
  (zah (s_if (zg2 (zq4 (ziL zaf) (dv 5) zaf)) (zal (zao zad)) zba)
  (zal (zao (zaq (DF.de (zaW (zaa zad (zaa zad zag)))) (zdB (zaa (d_eq (zck (zaa (zar (dv 0) zad) zag)) zaf) zag))))))))))
def zgE (F:Fun K "_law_named" "_law_named" zhZ f fd):FnOk P w K mg base CX0 1 f fd ["_law_word_here"] (spD K 1 zbn):=
 zcp (N:=["_law_word_here"]) F fun _ _=>
 (zal (zao (zkv (zjR zaf (zck (zaa (dv 0) zag)) zaf) (zkQ (zqq (zaa (DF.de (zbj (Nc:=["_law_sign"]) (.nm 0) (zb3 (dv 0)) (gn 0) zcH (zrA (dv 0) zad))) zag))))))
def ze9 (F:Fun K "_law_new_word" "_law_new_word" zdX f fd):FnOk P w K mg base CX0 2 f fd ["_law_model_here","_law_deed"] (spD K 2 zbq):=
 zcp (N:=["_law_model_here","_law_deed"]) F fun _ _=>
 (zah (s_if (zg2 (zeK (zat c__law_named (zaa (zaq (dv 1) zaf) zag)))) (zal (zao zad)) zba)
  (zah (s_if (t_eq (zaq (dv 1) zaf) zad) (zah (s_if (zsI (zaq (dv 1) zaf) (zar (dv 0) zad)) (zal (zao zad)) zba)
  (zal (zao (zaq (DF.de (zaW (zaa zad (zaa zad zag)))) (zdB (zaa (d_eq (zrc (zar (dv 0) zad)) zaf) zag)))))) zba)
  (zah (s_if (t_gt (zat c__law_turns (zaa (dv 0) (zaa (zaq (dv 1) zaf) zag))) zaf) (zal (zao zad)) zba)
  (zal (zao (zaq (DF.de (zaW (zaa zad (zaa zad zag)))) (zdB (zaa (d_eq (zck (zaa (zar (dv 0) zad) zag)) zaf) zag))))))))
def zic (F:Fun K "_law_word" "_law_word" zlC f fd):FnOk P w K mg base CX0 3 f fd ["_law_model_here","_law_deed"] (spD K 2 zcr):=
 zcp (N:=["_law_model_here","_law_deed"]) F fun _ _=>
 (zah (s_if (t_eq (zaq (dv 1) zaf) zad) (zal (zao (zat c__law_run_word (zaa (dv 0) (zaa (dv 1) zag))))) zba)
  (zah (s_if (zmF (zaq (dv 1) zaf) (zcJ (zaa zad (zaa zad zag)))) (zal (zao (zat c__law_new_word (zaa (dv 0) (zaa (dv 1) zag))))) zba)
  (zah (s_if (t_eq (zaq (dv 1) zaf) zad) (zah (s_if (t_eq (zat c__law_turns (zaa (dv 0) (zaa (zaq (dv 1) zaf) zag))) zaf) (zal (zao zad)) zba)
  (zal (zao (zaq (DF.de (zaW (zaa zad (zaa zad zag)))) (zdB (zaa (d_eq (zck (zaa (zar (dv 0) zad) zag)) zaf) zag)))))) zba)
  (zah (s_if (zmF (zaq (dv 1) zaf) (zcJ (zaa zad (zaa zad zag)))) (zah (s_if (zg2 (zeK (zs0 (zaa (DF.de (zbj (Nc:=["_law_row","_law_deed"]) (.nm 0) (zb3 (zar (dv 0) zad)) (gn 0) zcH (d_eq (zaq (dv 0) zaf) (zaq (dv 1) zaf)))) zag)))) (zal (zao zad)) zba)
  (zal (zao (zaq (DF.de (zaW (zaa zad (zaa zad zag)))) (zdB (zaa (zkv (d_eq (zaq (dv 1) zaf) zad) (zkQ (zrC (zjR (ziL zaf) (zaq (dv 1) zaf) zaf)))) zag)))))) zba)
  (zah (s_if (t_eq (zaq (dv 1) zaf) zad) (zal (zao (zaq (DF.de (zaW (zaa zad (zaa zad zag)))) (zdB (zaa (zjR zaf (zaq (dv 1) zaf) zaf) zag))))) zba)
  (zah (s_if (zj2 (zaq (dv 1) zaf) (zar (dv 0) zad)) (zal (zao zad)) zba)
  (zah (s_if (t_eq (zaq (dv 1) zaf) zad) (zal (zao (zaq (DF.de (zaW (zaa zad (zaa zad zag)))) (zdB (zaa (zar (zar (dv 0) zad) (zaq (dv 1) zaf)) zag))))) zba)
  (zal (zao (zaq (DF.de (zaW (zaa zad (zaa zad zag)))) (zdB (zaa (zar (zar (dv 0) zad) (zaq (dv 1) zaf)) zag))))))))))))
def zgK (F:Fun K "_law_place" "_law_place" zhN f fd):FnOk P w K mg base CX0 2 f fd ["_law_model_here","_law_name"] (spD K 2 zcB):=
 zcp (N:=["_law_model_here","_law_name"]) F fun _ _=>
 (zal (zao (zrb (zar (dv 0) zad) (zcJ (zaa (dv 1) (zaa (zat c__law_turns (zaa (dv 0) (zaa (dv 1) zag))) zag))))))
def zit (F:Fun K "_law_done" "_law_done" zmS f fd):FnOk P w K mg base CX0 3 f fd ["_law_model_here","_law_deed"] (spD K 2 zcf):=
 zcp (N:=["_law_model_here","_law_deed","_law_word_here","_law_heeded","_law_row","_law_rows"]) F fun _ _=>
 (zah (zsG 0 (dv 0))
  (zah (ziF 0 (zaU (d_og 0 zad) (DF.de (zaW (zaa (dv 1) zag)))) zad)
  (zah (za2 2 (zaq (dv 1) zaf))
  (zah (s_if (DW.dt (w_or (t_eq (dv 2) zad) (zjn (t_eq (dv 2) zad)))) (zal (ziF 0 (zaU (d_og 0 zad) (DF.de (zaW (zaa (zcJ (zaa (zaq (dv 1) zaf) (zaa (zaU (zlq 0 c__law_turns (zaa (zaq (dv 1) zaf) zag)) zaf) zag))) zag)))) zad)) (zal (s_if (zmF (dv 2) (zcJ (zaa zad (zaa zad (zaa zad zag))))) (ztf 3 (d_og 0 zad) (d_ne (dv 2) zad) (zaq (dv 1) zaf)
  (zal (ziF 0 (dv 3) zad))) (zal (s_if (t_eq (dv 2) zad) (zah (zqS 0 zad zaf)
  (zah (za2 4 (zaU (zcJ (zaa (d_og 0 zad) (zaa (zlq 0 c__law_place (zaa (zaq (dv 1) zaf) zag)) (zaa (zlq 0 c__law_place (zaa (zaq (dv 1) zaf) zag)) zag)))) (zia (dv 1) (ze6 zaf) zeZ)))
  (zal (ziF 0 (zaU (d_og 0 zad) (DF.de (zaW (zaa (dv 4) zag)))) zad)))) (zal (s_if (t_eq (dv 2) zad) (zal (ziF 0 (DF.de (zbj (Nc:=["_law_row","_law_deed"]) (.nm 0) (zb3 (d_og 0 zad)) (gn 0) (zdD (t_ne (zaq (dv 0) zaf) (zaq (dv 1) zaf))) (dv 0))) zad)) (zal (s_if (t_eq (dv 2) zad) (zah (zpV 5 (zaW zag))
  (zah (zqO (.nm 4) (zb3 (d_og 0 zad)) (gn 4) (zal (zrr 5 (zaq (DF.de (zaW (zaa (dv 4) (zaa (zaU (zia (dv 4) zeZ (ze6 zaf)) (zcJ (zaa (zaq (dv 1) zaf) (zaa (zaq (dv 4) zaf) zag)))) zag)))) (zdB (zaa (d_eq (zaq (dv 4) zaf) (zaq (dv 1) zaf)) zag))))))
  (zal (zqc 5 (ziF 0 (dv 5) zad))))) (zal (ziF 0 (zaq (dv 1) zaf) zad)))))))))))
  (zal (zsq 0))))))
def zgQ (F:Fun K "with_entry" "with_entry" zcK f fd):FnOk P w K mg base CX0 1 f fd ["book","word","value"] (spD K 3 zbo):=
 zcp (N:=["book","word","value","fresh"]) F fun _ _=>
 (zsj 0 1 2 3 (x := "fresh") (nb := "book") (nw := "word") (nv := "value") (hb:=(zbe (i:=0) (x := "book") rfl (.inl rfl))) (hw:=(zbe (i:=1) (x := "word") rfl (.inl rfl))) (hv:=(zbe (i:=2) (x := "value") rfl (.inl rfl))))
def ziV (F:Fun K "turns_of" "turns_of" zdV f fd):FnOk P w K mg base CX0 1 f fd ["stands","name"] (spD K 2 zbD):=
 zcp (N:=["stands","name"]) F fun _ _=>
 (zal (zao (zck (zaa (DF.de (zbj (Nc:=["each","turn","name"]) (.tp 2 (.cons (.nm 0) (.cons (.nm 1) .nil))) (zb3 (dv 0)) (zea (n:=2) rfl (zaA (gn 0) (zaA (gn 1) zc1))) (zdD (t_eq (dv 0) (dv 2))) (dv 1))) zag))))
def zgH (F:Fun K "next_stand" "next_stand" zcL f fd):FnOk P w K mg base CX0 2 f fd ["stands","name"] (spD K 2 zcD):=
 zcp (N:=["stands","name"]) F fun _ _=>
 (zal (zao (zcJ (zaa (dv 1) (zaa (zaU (zat c_turns_of (zaa (dv 0) (zaa (dv 1) zag))) zaf) zag)))))
def zev (F:Fun K "with_new_stand" "with_new_stand" zby f fd):FnOk P w K mg base (CXN P w) 3 f fd ["book","name"] (spDX K mg 2 zaP):=
 zgA (N:=["book","name","stands"]) F fun Y hY _ _=>
 (zah (DS.nox (za2 2 (zar (dv 0) zad)))
  (zah (s_if (DT.nox (t_ge (zck (zaa (dv 2) zag)) (zmj g_MOST_STANDS))) (zal (zdK (zaa zad zag) (fun _ _ _ _ _ _ _ _ I t m y=>zfo I m (hY _ _ _ _ y xh.m_Full t)) xh.o_Full xh.m_Full)) zba)
  (zal (DS.nox (zao (zat c_with_entry (zaa (dv 0) (zaa zad (zaa (zaU (dv 2) (zcJ (zaa (zat c_next_stand (zaa (dv 2) (zaa (dv 1) zag))) zag))) zag)))))))))
def zg5 (F:Fun K "is_made_of" "is_made_of" zdj f fd):FnOk P w K mg base CX0 1 f fd ["text","signs","longest"] (spD K 3 zbN):=
 zcp (N:=["text","signs","longest"]) F fun _ _=>
 (zal (zao (zkv (zjR zaf (zck (zaa (dv 0) zag)) (dv 2)) (zkQ (zqq (zaa (DF.de (zbj (Nc:=["sign","signs"]) (.nm 0) (zb3 (dv 0)) (gn 0) zcH (zrA (dv 0) (dv 1)))) zag))))))
def zkJ (F:Fun K "is_name" "is_name" zf3 f fd):FnOk P w K mg base CX0 2 f fd ["text"] (spD K 1 zcn):=
 zcp (N:=["text"]) F fun _ _=>
 (zal (zao (zat c_is_made_of (zaa (dv 0) (zaa (zr0 g_LETTERS) (zaa (zmj g_LONGEST_NAME) zag))))))
def zfV (F:Fun K "mark_entered" "mark_entered" zbM f fd):FnOk P w K mg base (CXN P w) 4 f fd ["book","row"] (spDX K mg 2 zcg):=
 zgA (N:=["book","row","word","name"]) F fun Y hY _ _=>
 (zah (DS.nox (zmM (.tp 2 (.cons (.nm 2) (.cons (.nm 3) .nil))) (dv 1) (zea (n:=2) rfl (zaA (gn 2) (zaA (gn 3) zc1)))))
  (zah (s_if (DT.nox (zg2 (zeK (zat c_is_name (zaa (dv 3) zag))))) (zal (zdK (zaa zad zag) (fun _ _ _ _ _ _ _ _ I t m y=>zfo I m (hY _ _ _ _ y xh.m_BadName t)) xh.o_BadName xh.m_BadName)) zba)
  (zah (s_if (DT.nox (t_gt (zat c_turns_of (zaa (zar (dv 0) zad) (zaa (dv 3) zag))) zaf)) (zal (zdK (zaa zad zag) (fun _ _ _ _ _ _ _ _ I t m y=>zfo I m (hY _ _ _ _ y xh.m_Taken t)) xh.o_Taken xh.m_Taken)) zba)
  (zal (zao (zjd c_with_new_stand (DA.nox (zaa (dv 0) (zaa (dv 3) zag))) (zoA hY)))))))
def zfM (F:Fun K "hand_entered" "hand_entered" zbW f fd):FnOk P w K mg base (CXN P w) 3 f fd ["book","row"] (spDX K mg 2 zcl):=
 zgA (N:=["book","row","word","name","hands"]) F fun Y hY _ _=>
 (zah (DS.nox (zmM (.tp 2 (.cons (.nm 2) (.cons (.nm 3) .nil))) (dv 1) (zea (n:=2) rfl (zaA (gn 2) (zaA (gn 3) zc1)))))
  (zah (DS.nox (za2 4 (zar (dv 0) zad)))
  (zah (s_if (DT.nox (zg2 (zeK (zat c_is_name (zaa (dv 3) zag))))) (zal (zdK (zaa zad zag) (fun _ _ _ _ _ _ _ _ I t m y=>zfo I m (hY _ _ _ _ y xh.m_BadName t)) xh.o_BadName xh.m_BadName)) zba)
  (zah (s_if (DT.nox (zmF (dv 3) (dv 4))) (zal (zdK (zaa zad zag) (fun _ _ _ _ _ _ _ _ I t m y=>zfo I m (hY _ _ _ _ y xh.m_Taken t)) xh.o_Taken xh.m_Taken)) zba)
  (zah (s_if (DT.nox (t_ge (zck (zaa (dv 4) zag)) (zmj g_MOST_HANDS))) (zal (zdK (zaa zad zag) (fun _ _ _ _ _ _ _ _ I t m y=>zfo I m (hY _ _ _ _ y xh.m_Full t)) xh.o_Full xh.m_Full)) zba)
  (zal (DS.nox (zao (zat c_with_entry (zaa (dv 0) (zaa zad (zaa (zaU (dv 4) (zcJ (zaa (dv 3) zag))) zag))))))))))))
def zgP (F:Fun K "last_stand" "last_stand" zcQ f fd):FnOk P w K mg base (CXN P w) 2 f fd ["stands","name"] (spDX K mg 2 zb4):=
 zgA (N:=["stands","name","turns"]) F fun Y hY _ _=>
 (zah (DS.nox (za2 2 (zat c_turns_of (zaa (dv 0) (zaa (dv 1) zag)))))
  (zah (s_if (DT.nox (t_eq (dv 2) zaf)) (zal (zdK (zaa zad zag) (fun _ _ _ _ _ _ _ _ I t m y=>zfo I m (hY _ _ _ _ y xh.m_NoMark t)) xh.o_NoMark xh.m_NoMark)) zba)
  (zal (DS.nox (zao (zcJ (zaa (dv 1) (zaa (dv 2) zag))))))))
def zfx (F:Fun K "mark_settled" "mark_settled" zbV f fd):FnOk P w K mg base (CXN P w) 4 f fd ["book","row"] (spDX K mg 2 zce):=
 zgA (N:=["book","row","word","name","settling","turn"]) F fun Y hY _ _=>
 (zah (DS.nox (zmM (.tp 2 (.cons (.nm 2) (.cons (.nm 3) .nil))) (dv 1) (zea (n:=2) rfl (zaA (gn 2) (zaA (gn 3) zc1)))))
  (zah (zmM (.tp 2 (.cons (.nm 4) (.cons (.nm 5) .nil))) (zjd c_last_stand (DA.nox (zaa (zar (dv 0) zad) (zaa (dv 3) zag))) (zoA hY)) (zea (n:=2) rfl (zaA (gn 4) (zaA (gn 5) zc1))))
  (zal (zao (zjd c_with_new_stand (DA.nox (zaa (dv 0) (zaa (dv 4) zag))) (zoA hY))))))
def zgc (F:Fun K "book_behind" "book_behind" zb9 f fd):FnOk P w K mg base (CXN P w) 5 f fd ["book","row"] (spDX K mg 2 (zbf A)):=
 zgA (N:=["book","row","action"]) F fun Y hY _ _=>
 (zah (DS.nox (za2 2 (ztw gA (zaq (dv 1) zaf))))
  (zal (zao (zp1 (tb.at ‹_›) (DA.nox (zaa (dv 0) (zaa (dv 1) zag))) (zoA hY)))))
def zi0 (F:Fun K "deed" "Fen.deed" zdk f fd):FnOk P w K mg base (CXN P w) 6 f fd ["self","row"] (spO K mg 2 (zbF A)):=
 zh8 (N:=["self","row","book"]) F fun Y hY _ _=>
 (zaI (zmg 2 (zp2 c_book_behind (za7 (oe_l fun S M G1=>(DE.nox (za9 m_now zlp))) (za7 (oe_l fun S M G1=>(DE.nox (dv 1))) zeX)) (ztA hY)))
  (zaI (zoQ 0 (fun S M G1=>(dv 1)) fc.cls fc.n_kept)
  (zaI (zoQ 0 (fun S M G1=>(dv 2)) fc.cls fc.n_books)
  (zaI (zgI 0 (fun S M G1=>(zaW zag)) fc.cls fc.n_undone)
  (zaI (zaV fun S M G1=>(DS.nox (s_if (t_eq (zaq (dv 1) zaf) zad) (zal (zao (zar (dv 2) zad))) zba)))
  (zdE (zaV fun S M G1=>(DS.nox (zao zgq)))))))))
def zfc (F:Fun K "_law_due_told" "_law_due_told" zee f fd):FnOk P w K mg base CX0 1 f fd ["_law_model_here","_law_deed"] (spD K 2 za4):=
 zcp (N:=["_law_model_here","_law_deed"]) F fun _ _=>
 (zal (zao (zaq (DF.de (zaW (zaa zgq (zaa (zaU (zar (dv 0) zad) zaf) zag)))) (zdB (zaa (d_eq (zaq (dv 1) zaf) zad) zag)))))
def zh0 (F:Fun K "_law_step" "_law_step" zlF f fd):FnOk P w K mg base (CXN P w) 8 f fd ["_law_fen","_law_model_here","_law_deed"] (spO K mg 3 (zb8 A)):=
 zh8 (N:=["_law_fen","_law_model_here","_law_deed"]) F fun Y hY _ _=>
 (OSs.nox (zaI (zoF (zoY c__law_same (za7 (zsi m_deed (fun S M G1=>dv 0) (za7 (oe_l fun S M G1=>(dv 2)) zeX) zli) (za7 (oe_l fun S M G1=>(zat c__law_due_told (zaa (dv 1) (zaa (dv 2) zag)))) zeX))) (zdE (zaV fun S M G1=>(zao zgq))) zlg)
  (zdE (zaV fun S M G1=>(zao (zat c__law_done (zaa (dv 1) (zaa (dv 2) zag))))))))
def zg8 (F:Fun K "_law_kinds" "_law_kinds" zhw f fd) (hm:mg "_law_kinds" = some (.ref f)) (hb:Binds K fd ["_law_e"] []):InOk P w K mg base 1 "_law_kinds" NSx zcC:=
 zsC (N:=["_law_e","_law_h","_law_w"]) F hm hb fun nm ea C oe _ hn hmn hoc h=>
 (zah (za2 1 (DF.de (zaW (zaa (zc5 xk (dv 0) YAf hoc hn hmn) (zaa (zc5 xk (dv 0) YAf hoc hn hmn) (zaa (zc5 xk (dv 0) YAf hoc hn hmn) (zaa (zc5 xk (dv 0) YAf hoc hn hmn) zag)))))))
  (zah (za2 1 (zaU (dv 1) (DF.de (zaW (zaa (zc5 xk (dv 0) YAf hoc hn hmn) (zaa (zc5 xk (dv 0) YAf hoc hn hmn) (zaa (zc5 xk (dv 0) YAf hoc hn hmn) (zaa (zc5 xk (dv 0) YAf hoc hn hmn) zag))))))))
  (zah (za2 1 (zaU (dv 1) (DF.de (zaW (zaa (zc5 xk (dv 0) YAf hoc hn hmn) (zaa (zc5 xk (dv 0) YAf hoc hn hmn) (zaa (zc5 xk (dv 0) YAf hoc hn hmn) (zaa (zc5 xk (dv 0) YAf hoc hn hmn) zag))))))))
  (zah (za2 1 (zaU (dv 1) (DF.de (zaW (zaa (zc5 xk (dv 0) YAf hoc hn hmn) (zaa (zc5 xk (dv 0) YAf hoc hn hmn) (zaa (zc5 xk (dv 0) YAf hoc hn hmn) (zaa (zc5 xk (dv 0) YAf hoc hn hmn) zag))))))))
  (zah (za2 1 (zaU (dv 1) (DF.de (zaW (zaa (zc5 xk (dv 0) YAf hoc hn hmn) (zaa (zc5 xk (dv 0) YAf hoc hn hmn) (zaa (zrC (zs8 xk (dv 0) YAf hoc hn hmn xv)) zag)))))))
  (zah (za2 2 zad)
  (zah (za2 2 (zpq (zaU (dv 2) zad) zad))
  (zal (zao (DF.de (zk7 (Nc:=["_law_at","_law_w","_law_h"]) (.nm 0) h (zck (zaa (dv 2) zag)) (gn 0) (zdD (zeK (zaq (dv 2) (dv 0)))) (zaq (dv 1) (dv 0)) T.range)))))))))))
def zgV (F:Fun K "_law_tried" "_law_tried" zhP f fd):FnOk P w K mg base (CXN P w) 7 f fd ["_law_fen","_law_deed"] (spO K mg 2 (zbR A)):=
 zh8 (N:=["_law_fen","_law_deed","_law_found","_law_kinds_here","_law_e"]) F fun Y hY _ _=>
 (OSs.nox (zaI (zaV fun S M G1=>(za2 2 zgq))
  (zaI (zaV fun S M G1=>(za2 3 (DF.de (zaW zag))))
  (zaI (zpW 2 4 3 m_deed c__law_kinds xk znj (fun S M G1=>dv 0) (za7 (oe_l fun S M G1=>(dv 1)) zeX))
  (zdE (zaV fun S M G1=>(zao (zcJ (zaa (dv 2) (zaa (dv 3) zag))))))))))
def zgb (F:Fun K "_law_judged" "_law_judged" zfn f fd):FnOk P w K mg base (CXN P w) 9 f fd ["_law_fen","_law_model_here","_law_deed"] (spO K mg 3 (zbw A)):=
 zh8 (N:=["_law_fen","_law_model_here","_law_deed","_law_word_here"]) F fun Y hY _ _=>
 (OSs.nox (zaI (zaV fun S M G1=>(za2 3 (zat c__law_word (zaa (dv 1) (zaa (dv 2) zag)))))
  (zaI (zsP (fun S M G1=>(t_eq (dv 3) zad)) (zdE (zqV (ziE c__law_step (za7 (oe_l fun S M G1=>(dv 0)) (za7 (oe_l fun S M G1=>(dv 1)) (za7 (oe_l fun S M G1=>(dv 2)) zeX))) zli))) zlg)
  (zaI (zoF (zoY c__law_same (za7 (ziE c__law_tried (za7 (oe_l fun S M G1=>(dv 0)) (za7 (oe_l fun S M G1=>(dv 2)) zeX)) zli) (za7 (oe_l fun S M G1=>(zcJ (zaa zgq (zaa (DF.de (zaW (zaa (dv 3) zag))) zag)))) zeX))) (zdE (zaV fun S M G1=>(zao zgq))) zlg)
  (zdE (zaV fun S M G1=>(zao (dv 1))))))))
def zeO (F:Fun K "_law_bent_deed" "_law_bent_deed" zdb f fd):FnOk P w K mg base CX0 2 f fd ["_law_box_here","_law_model_here","_law_pool","_law_deed"] (spD K 4 zbh):=
 zcp (N:=["_law_box_here","_law_model_here","_law_pool","_law_deed","_law_at","_law_bad","_law_some","_law_thing"]) F fun _ _=>
 (zah (za2 4 (zaU zaf (zat c__law_take (zaa (dv 0) (zaa (zrQ (zck (zaa (dv 3) zag)) zaf) zag)))))
  (zah (s_if (zeK (zeD (zaq (dv 3) (dv 4)))) (zah (za2 5 (DF.de (zaW (zaa zad (zaa (zaU (zaq (dv 2) zaf) (zsy (zia (zaq (dv 2) zaf) zeZ (ze6 zaf)) zaf)) (zaa (zaU (zia (zaq (dv 2) zaf) zeZ (ze6 zaf)) zad) (zaa (zaU (zia (zaq (dv 2) zaf) zeZ (ze6 zaf)) zad) (zaa zad zag))))))))
  (zah (za2 6 (zaU (zaU (zaU (dv 2) (zat c__law_marks (zaa (dv 1) zag))) (DF.de (zo2 (zar (dv 1) zad)))) (dv 5)))
  (zal (za2 7 (zaq (dv 6) (zat c__law_take (zaa (dv 0) (zaa (zck (zaa (dv 6) zag)) zag)))))))) (zah (za2 6 (DF.de (zaW (zaa zaf (zaa (ziL zaf) (zaa zaf (zaa zaf (zaa zaf (zaa zaf (zaa zaf (zaa (ziL zaf) (zaa (ziL zaf) (zaa (zrp zaf zaf) (zaa (ziL (zrp zaf zaf)) zag))))))))))))))
  (zal (za2 7 (zaq (zaU (dv 6) (DF.de (zaW (zaa (zar (dv 1) zad) (zaa (zaU (zar (dv 1) zad) zaf) zag))))) (zat c__law_take (zaa (dv 0) (zaa (zaU (zck (zaa (dv 6) zag)) zaf) zag))))))))
  (zal (zao (zaU (zaU (zia (dv 3) zeZ (ze6 (dv 4))) (zcJ (zaa (dv 7) zag))) (zia (dv 3) (ze6 (zaU (dv 4) zaf)) zeZ))))))
def zsn (F:Fun K "law" "law" sLaw f fd) (cB:Cal P w K mg base "_law_box" 1 ["_law_script"] (Fen.zpk K)) (hw:lawF 6 (zc6 A)):FnOk P w K mg base CX0 10 f fd ["_law_script"] (zls K):=by
 refine zp8 (N:=["_law_pool","_law_fen","_law_model_here","_law_k","_law_word_here","_law_deed"]) (k:=9) F rfl cB (fun _ _=>?_) hw
 unfold zc6
 exact (zaI (zaV fun S M G1=>(za2 2 (zat c__law_names (zaa (dv 1) (zaa zaf zag)))))
  (zaI (zmg 3 (zq3 mkI okI fc.m_Fen bI zli))
  (zaI (zaV fun S M G1=>(za2 4 (zmI c__law_model)))
  (zaI (zaV fun S M G1=>(s_if (zg2 (zeK (zjm c__law_right (zaa (dv 3) (zaa (dv 4) zag)) zlp))) (zal (zao zmA)) zba))
  (zaI (zrT (.nm 5) (fun S M G1=>(zjO (zaU zaf (zat c__law_take (zaa (dv 1) (zaa zaf zag)))))) (gn 5) (zaI (zaV fun S M G1=>(za2 6 (zaq (DF.de (zaW (zaa zad (zaa zad (zaa zad (zaa zad (zaa zad zag))))))) (zat c__law_take (zaa (dv 1) (zaa zaf zag))))))
  (zaI (zaV fun S M G1=>(za2 7 (zcJ (zaa (dv 6) (zaa (zaq (dv 2) (zat c__law_take (zaa (dv 1) (zaa zaf zag)))) zag)))))
  (zaI (zaV fun S M G1=>(s_if (t_eq (zat c__law_take (zaa (dv 1) (zaa zaf zag))) zaf) (zal (za2 7 (zat c__law_bent_deed (zaa (dv 1) (zaa (dv 4) (zaa (dv 2) (zaa (dv 7) zag))))))) zba))
  (zaI (zmg 4 (ziE c__law_judged (za7 (oe_l fun S M G1=>(dv 3)) (za7 (oe_l fun S M G1=>(dv 4)) (za7 (oe_l fun S M G1=>(dv 7)) zeX))) zli))
  (zdE (zaV fun S M G1=>(s_if (DW.dt (w_or (zqm (dv 4)) (zjn (zg2 (zeK (zjm c__law_right (zaa (dv 3) (zaa (dv 4) zag)) zlp)))))) (zal (zao zmA)) zba))))))))
  (zdE (zaV fun S M G1=>(zao zmA))))))))
end
end Fd
namespace Hd
open PySem L2 Fen PySem.W PySem.Calls PyProof.Rows
noncomputable section
noncomputable abbrev dE (P:Params) (k:Str) (n:Nat) (v:Value):DictEntry:=⟨PyData.keyHash P k,.str k n,v⟩
noncomputable def dN:Stmt->Str
 | .FunctionDef x ..=>x
 | _ => ""
noncomputable abbrev cO (s:Stmt) (a:Nat) (l:Int) (lt:Nat) (n:Int) (v:Addr) (g h:Value) (q:Addr) (d:Nat):Obj:=⟨.type "code",none,.fields #[.str (dN s) a,.str (dN s) (a+1),.str "/claim/cut.py" (a+2),.int l lt,.int n 0,.int 0 0,.int 0 0,.int 3 0,.ref v,.bool true,.int 181 0,.ref (v+1),.none,g,h,.ref q,.int (d-1) 0,.int l lt,.str "/claim/cut.py" d],#[]⟩
noncomputable abbrev cQ (s:Stmt) (u:Str) (a:Nat) (l:Int) (lt:Nat) (n:Int) (v:Addr) (g h:Value) (q:Addr) (d:Nat):Obj:=⟨.type "code",none,.fields #[.str (dN s) a,.str u (a+1),.str "/claim/cut.py" (a+2),.int l lt,.int n 0,.int 0 0,.int 0 0,.int 3 0,.ref v,.bool true,.int 181 0,.ref (v+1),.none,g,h,.ref q,.int (d-1) 0,.int l lt,.str "/claim/cut.py" d],#[]⟩
noncomputable abbrev cP (s:Stmt) (a:Nat) (l:Int) (lt:Nat) (n:Int) (v:Addr) (d:Nat):Obj:=cO s a l lt n v .none .none (v+2) d
noncomputable abbrev fD (x:Str) (s:Stmt) (m:Str) (t:Nat) (c:Addr):FuncData:=PySem.W.fnOf x x (zcd s) (zaX s) (zaj s) .none .none .none (.str m t) none (.ref c) .none
noncomputable abbrev fO (s:Stmt) (m:Str) (t:Nat) (c:Addr):Obj:=⟨.type "function",none,.func (fD (dN s) s m t c),#[]⟩
noncomputable abbrev fI (s:Stmt):Obj:=⟨.none,none,.func ⟨dN s,dN s,zcd s,.stmts (zaX s),zaj s,0,[],.none,.none,.none,.none,none,.none,.none,0⟩,#[]⟩
noncomputable abbrev fQ (s:Stmt) (u m:Str) (t:Nat) (c:Addr):Obj:=⟨.type "function",none,.func (PySem.W.fnOf (dN s) u (zcd s) (zaX s) (zaj s) .none .none .none (.str m t) none (.ref c) .none),#[]⟩
noncomputable abbrev fJ (s:Stmt) (u:Str):Obj:=⟨.none,none,.func ⟨dN s,u,zcd s,.stmts (zaX s),zaj s,0,[],.none,.none,.none,.none,none,.none,.none,0⟩,#[]⟩
noncomputable abbrev cT:Obj:=⟨.type "tuple",none,.seq #[] 0,#[]⟩
noncomputable abbrev cF:Obj:=⟨.none,none,.fields #[],#[]⟩
noncomputable def tS:Nat->List Str->List Value
 | _,[]=>[]
 | n,x :: l=>.str x n :: tS (n + 1) l
noncomputable abbrev cN (n:Nat) (l:List Str):Obj:=⟨.type "tuple",none,.seq (tS n l).toArray 0,#[]⟩
noncomputable def cV:List (Int × Nat × Nat)->List Value
 | []=>[]
 | (l,t,c) :: r=>.int l t :: .int 0 0 :: .ref c :: cV r
noncomputable def bT (f:Nat->Obj) (n:Nat):Nat->Nat->Nat->BT
 | 0,_,_=>.nil
 | k + 1,a,b=>match Nat.blt b n with
  | true=>.node (f b) (bT f n k (Nat.mul 2 a) (Nat.add a b)) (bT f n k (Nat.mul 2 a) (Nat.add (Nat.mul 2 a) b))
  | false=>.nil
noncomputable abbrev kP:Obj:=⟨.type "builtin_function_or_method",none,.fields #[.builtin "type.__prepare__",.type "type"],#[]⟩
noncomputable abbrev kD (P:Params) (m:Str) (n:Nat) (x:Str) (l:Int) (t:Nat) (r:Addr):Obj:=⟨.type "dict",none,.dict #[dE P "__module__" t (.str m n),dE P "__qualname__" (t+2) (.str x (t+1)),dE P "__firstlineno__" (t+4) (.int l (t+3)),dE P "__static_attributes__" (t+5) (.ref r)] 4,#[]⟩
noncomputable abbrev kE (P:Params) (m:Str) (n:Nat) (l:Int) (t:Nat) (r:Addr):Obj:=⟨.type "dict",none,.dict #[dE P "__module__" t (.str m n),dE P "__firstlineno__" (t+4) (.int l (t+3)),dE P "__static_attributes__" (t+5) (.ref r),dE P "__doc__" (t+6) (.none)] 2,#[]⟩
noncomputable abbrev kC (x:Str) (l:Int) (t:Nat) (v:Addr):Obj:=⟨.type "code",none,.fields #[.str x t,.str x (t+1),.str "/claim/cut.py" (t+2),.int l 0,.int 0 0,.int 0 0,.int 0 0,.int 0 0,.ref v,.bool false,.int 181 0,.ref (v+1),.none,.none,.none,.none,.int (t+3:Nat) 0,.int l 0,.str "/claim/cut.py" (t+4)],#[]⟩
noncomputable abbrev kF (a b:Addr) (m:Str) (n:Nat):Obj:=⟨.type "frame",none,.plain,#[some (.ref a),some (.ref 3),some (.ref b),none,some (.str m n),none,some (.ref 0)]⟩
noncomputable abbrev kT (x:Str) (b s d q:Addr) (u v:Nat):Obj:=⟨.type "type",none,.cls ⟨x,[.ref b],[.ref s,.ref b,.type "ValueError",.type "Exception",.type "BaseException",.type "object"],d,x,true,[],[],false,none,false⟩,#[some (.ref q),none,some (.str x u),some (.str x v),some (.builtin "ValueError.__new__"),some (.bool true)]⟩
noncomputable abbrev kS (s:Addr):Obj:=⟨.type "super",none,.fields #[.ref s,.ref s,.ref s],#[]⟩
noncomputable abbrev kI (s:Addr):Obj:=⟨.type "builtin_function_or_method",none,.fields #[.builtin "object.__init_subclass__",.ref s],#[]⟩
noncomputable abbrev kQ (s:Addr):Obj:=⟨.type "tuple",none,.seq #[.ref s] 0,#[]⟩
noncomputable abbrev u0:Str := "__main__"
noncomputable abbrev u1:Str := "fenlevel.errors"
noncomputable abbrev u2:Str := "fenlevel.names"
noncomputable abbrev u3:Str := "fenlevel.stand"
noncomputable abbrev u4:Str := "fenlevel.deeds"
noncomputable abbrev u5:Str := "fenlevel.fen"
noncomputable abbrev u6:Str := "law_fenlevel_k25_marks_and_hands"
noncomputable def c0 (P:Params) (d c:Obj):List Obj:=[PySem.W.boot_o_0 P,PySem.W.boot_o_1 P,PySem.W.boot_o_2 P,d,PySem.W.boot_o_4 P,PySem.W.boot_o_5 P,PySem.W.boot_o_6 P,PySem.W.boot_o_7 P,PySem.W.boot_o_8 P,PySem.W.boot_o_9 P,PySem.W.boot_o_10 P,cT,c,kC "<module>" 1 182 11,kF 13 3 u0 164,cT,cF,cN 190 ["k"],cT,fI zpO,cO zpO 187 1 0 1 15 (.ref 17) (.ref 18) 19 192,fO zpO u0 164 20,⟨.type "tuple",none,.seq #[.type "ValueError"] 0,#[]⟩,kP]
noncomputable def c1 (P:Params):List Obj:=[kD P u1 194 "FenError" 5 203 29,cT,cF,kC "FenError" 5 198 25,kF 27 24 u1 194,cT,⟨.type "dict",none,.dict #[dE P "__module__" 203 (.str "fenlevel.errors" 194),dE P "__firstlineno__" 207 (.int 5 206),dE P "__static_attributes__" 208 (.ref 29),dE P "__weakref__" 210 (.ref 32),dE P "__doc__" 211 (.none)] 3,#[]⟩,⟨.type "type",none,.cls ⟨"FenError",[.type "ValueError"],[.ref 31,.type "ValueError",.type "Exception",.type "BaseException",.type "object"],30,"FenError",true,[],[.ref 44,.ref 56,.ref 68,.ref 80,.ref 92,.ref 104,.ref 116,.ref 128,.ref 140,.ref 152,.ref 164,.ref 176,.ref 188,.ref 200,.ref 212,.ref 224,.ref 236,.ref 255],false,none,false⟩,#[some (.ref 22),none,some (.str "FenError" 196),some (.str "FenError" 204),some (.builtin "ValueError.__new__"),some (.bool true)]⟩,⟨.type "getset_descriptor",none,.fields #[.str "__weakref__" 209,.ref 31,.builtin "ExceptionGroup.__weakref__",.none],#[]⟩,kS 31,kI 31,kQ 31,kP,kD P u1 194 "BadName" 7 221 42,cT,cF,kC "BadName" 7 216 38,kF 40 37 u1 194,cT,kE P u1 194 7 221 42,kT "BadName" 31 44 43 35 214 222,kS 44,kI 44,kQ 31]
noncomputable def c2 (P:Params):List Obj:=[kP,kD P u1 194 "Taken" 9 237 54,cT,cF,kC "Taken" 9 232 50,kF 52 49 u1 194,cT,kE P u1 194 9 237 54,kT "Taken" 31 56 55 47 230 238,kS 56,kI 56,kQ 31,kP,kD P u1 194 "Full" 11 253 66,cT,cF,kC "Full" 11 248 62,kF 64 61 u1 194,cT,kE P u1 194 11 253 66,kT "Full" 31 68 67 59 246 254,kS 68,kI 68,kQ 31]
noncomputable def c3 (P:Params):List Obj:=[kP,kD P u1 194 "NoMark" 13 269 78,cT,cF,kC "NoMark" 13 264 74,kF 76 73 u1 194,cT,kE P u1 194 13 269 78,kT "NoMark" 31 80 79 71 262 270,kS 80,kI 80,kQ 31,kP,kD P u1 194 "NoHand" 15 285 90,cT,cF,kC "NoHand" 15 280 86,kF 88 85 u1 194,cT,kE P u1 194 15 285 90,kT "NoHand" 31 92 91 83 278 286,kS 92,kI 92,kQ 31]
noncomputable def c4 (P:Params):List Obj:=[kP,kD P u1 194 "Same" 17 301 102,cT,cF,kC "Same" 17 296 98,kF 100 97 u1 194,cT,kE P u1 194 17 301 102,kT "Same" 31 104 103 95 294 302,kS 104,kI 104,kQ 31,kP,kD P u1 194 "BadRise" 19 317 114,cT,cF,kC "BadRise" 19 312 110,kF 112 109 u1 194,cT,kE P u1 194 19 317 114,kT "BadRise" 31 116 115 107 310 318,kS 116,kI 116,kQ 31]
noncomputable def c5 (P:Params):List Obj:=[kP,kD P u1 194 "NoRun" 21 333 126,cT,cF,kC "NoRun" 21 328 122,kF 124 121 u1 194,cT,kE P u1 194 21 333 126,kT "NoRun" 31 128 127 119 326 334,kS 128,kI 128,kQ 31,kP,kD P u1 194 "Aside" 23 349 138,cT,cF,kC "Aside" 23 344 134,kF 136 133 u1 194,cT,kE P u1 194 23 349 138,kT "Aside" 31 140 139 131 342 350,kS 140,kI 140,kQ 31]
noncomputable def c6 (P:Params):List Obj:=[kP,kD P u1 194 "NotAside" 25 365 150,cT,cF,kC "NotAside" 25 360 146,kF 148 145 u1 194,cT,kE P u1 194 25 365 150,kT "NotAside" 31 152 151 143 358 366,kS 152,kI 152,kQ 31,kP,kD P u1 194 "BadNumber" 27 381 162,cT,cF,kC "BadNumber" 27 376 158,kF 160 157 u1 194,cT,kE P u1 194 27 381 162,kT "BadNumber" 31 164 163 155 374 382,kS 164,kI 164,kQ 31]
noncomputable def c7 (P:Params):List Obj:=[kP,kD P u1 194 "NothingLeft" 29 397 174,cT,cF,kC "NothingLeft" 29 392 170,kF 172 169 u1 194,cT,kE P u1 194 29 397 174,kT "NothingLeft" 31 176 175 167 390 398,kS 176,kI 176,kQ 31,kP,kD P u1 194 "Steady" 31 413 186,cT,cF,kC "Steady" 31 408 182,kF 184 181 u1 194,cT,kE P u1 194 31 413 186,kT "Steady" 31 188 187 179 406 414,kS 188,kI 188,kQ 31]
noncomputable def c8 (P:Params):List Obj:=[kP,kD P u1 194 "NoDeed" 33 429 198,cT,cF,kC "NoDeed" 33 424 194,kF 196 193 u1 194,cT,kE P u1 194 33 429 198,kT "NoDeed" 31 200 199 191 422 430,kS 200,kI 200,kQ 31,kP,kD P u1 194 "Known" 35 445 210,cT,cF,kC "Known" 35 440 206,kF 208 205 u1 194,cT,kE P u1 194 35 445 210,kT "Known" 31 212 211 203 438 446,kS 212,kI 212,kQ 31]
noncomputable def c9 (P:Params):List Obj:=[kP,kD P u1 194 "NoFen" 37 461 222,cT,cF,kC "NoFen" 37 456 218,kF 220 217 u1 194,cT,kE P u1 194 37 461 222,kT "NoFen" 31 224 223 215 454 462,kS 224,kI 224,kQ 31,kP,kD P u1 194 "Settled" 39 477 234,cT,cF,kC "Settled" 39 472 230,kF 232 229 u1 194,cT,kE P u1 194 39 477 234,kT "Settled" 31 236 235 227 470 478,kS 236,kI 236,kQ 31]
noncomputable def c10 (P:Params):List Obj:=[kP,⟨.type "dict",none,.dict #[dE P "__module__" 493 (.str "fenlevel.errors" 194),dE P "__qualname__" 495 (.str "NoPage" 494),dE P "__firstlineno__" 497 (.int 41 496),dE P "__init__" 505 (.ref 252),dE P "__static_attributes__" 507 (.ref 253)] 5,#[]⟩,cT,⟨.none,none,.fields #[.int 43 0,.int 4 0,.ref 251],#[]⟩,kC "NoPage" 41 488 242,kF 244 241 u1 194,cT,cF,cN 501 ["self","row"],cT,fJ zb0 "NoPage.__init__",cQ zb0 "NoPage.__init__" 498 43 0 2 246 (.ref 248) (.ref 249) 250 504,fQ zb0 "NoPage.__init__" u1 194 251,cN 506 ["row"],⟨.type "dict",none,.dict #[dE P "__module__" 493 (.str "fenlevel.errors" 194),dE P "__firstlineno__" 497 (.int 41 496),dE P "__init__" 505 (.ref 252),dE P "__static_attributes__" 507 (.ref 253),dE P "__doc__" 508 (.none)] 2,#[]⟩,kT "NoPage" 31 255 254 239 486 494,kS 255,kI 255,cT,cF,fI zdj,cP zdj 517 48 0 3 258 521,fO zdj u2 511 261,cT]
noncomputable def c11 (P:Params):List Obj:=[cF,cN 526 ["text"],cT,fI zf3,cO zf3 523 50 0 1 263 (.ref 265) (.ref 266) 267 528,fO zf3 u2 511 268,cT,cF,fI zdT,cP zdT 532 53 0 1 270 536,fO zdT u3 530 273,cT,cF,fI zdV,cP zdV 538 55 0 2 275 542,fO zdV u3 530 278,cT,cF,cN 547 ["stands","name"],cT,fI zcL,cO zcL 544 57 0 2 280 (.ref 282) (.ref 283) 284 550,fO zcL u3 530 285,cT]
noncomputable def c12 (P:Params):List Obj:=[cF,cN 555 ["stands","name","turns"],cT,fI zcQ,cO zcQ 552 59 0 2 287 (.ref 289) (.ref 290) 291 559,fO zcQ u3 530 292,cT,cF,cT,cT,fI zcM,cO zcM 573 70 0 0 294 (.ref 296) (.ref 297) 298 577,fO zcM u4 561 299,cT,cF,cN 582 ["book","word","value","fresh"],cT,fI zcK,cO zcK 579 72 0 3 301 (.ref 303) (.ref 304) 305 587,fO zcK u4 561 306,cT,cF,cN 592 ["book","name","stands"],cT]
noncomputable def c13 (P:Params):List Obj:=[fI zby,cO zby 589 76 0 2 308 (.ref 310) (.ref 311) 312 596,fO zby u4 561 313,cT,cF,cN 601 ["book","name"],cT,fI zf6,cO zf6 598 81 0 2 315 (.ref 317) (.ref 318) 319 604,fO zf6 u4 561 320,cT,cF,cN 609 ["rise"],cT,fI zfq,cO zfq 606 84 0 1 322 (.ref 324) (.ref 325) 326 611,fO zfq u4 561 327,cT,cF,fI zho,cP zho 613 87 0 2 329 617,fO zho u4 561 332,cT,cF]
noncomputable def c14 (P:Params):List Obj:=[cN 622 ["book","row","word","name"],cT,fI zbM,cO zbM 619 90 0 2 334 (.ref 336) (.ref 337) 338 627,fO zbM u4 561 339,cT,cF,cN 632 ["book","row","word","name","hands"],cT,fI zbW,cO zbW 629 97 0 2 341 (.ref 343) (.ref 344) 345 638,fO zbW u4 561 346,cT,cF,cN 643 ["book","row","word","one","other","rise","hand","start","start_turn","end","end_turn","number","run"],cT,fI zdO,cO zdO 640 107 0 2 348 (.ref 350) (.ref 351) 352 657,fO zdO u4 561 353,cT,cF,fI zex,cP zex 659 120 0 2 355 663,fO zex u4 561 358]
noncomputable def c15 (P:Params):List Obj:=[cT,cF,fI zeC,cP zeC 665 124 0 2 360 669,fO zeC u4 561 363,cT,cF,cN 674 ["book","row","word","name","settling","turn"],cT,fI zbV,cO zbV 671 130 0 2 365 (.ref 367) (.ref 368) 369 681,fO zbV u4 561 370,cT,cF,cN 686 ["book","row","word","hand"],cT,fI zcY,cO zcY 683 134 0 2 372 (.ref 374) (.ref 375) 376 691,fO zcY u4 561 377,cT,cF,fI zdJ,cP zdJ 693 140 0 2 379 697,fO zdJ u4 561 382]
noncomputable def c16 (P:Params):List Obj:=[cT,cF,cN 702 ["book","row","word","many"],cT,fI zcI,cO zcI 699 146 0 2 384 (.ref 386) (.ref 387) 388 707,fO zcI u4 561 389,⟨.type "dict",none,.dict #[dE P "mark" 709 (.ref 340),dE P "hand" 710 (.ref 347),dE P "run" 711 (.ref 354),dE P "strike" 712 (.ref 359),dE P "mend" 713 (.ref 364),dE P "settle" 714 (.ref 371),dE P "aside" 715 (.ref 378),dE P "heed" 716 (.ref 383),dE P "allow" 717 (.ref 390)] 9,#[]⟩,cT,cF,cN 731 ["book","row","action"],cT,fI zb9,cO zb9 728 152 0 2 392 (.ref 394) (.ref 395) 396 735,fO zb9 u4 561 397,cT,cF,fI zbg,cP zbg 739 156 0 1 399 743,fO zbg u5 737 402,cT,kP,⟨.type "dict",none,.dict #[dE P "__module__" 752 (.str "fenlevel.fen" 737),dE P "__qualname__" 754 (.str "Fen" 753),dE P "__firstlineno__" 756 (.int 158 755),dE P "__init__" 763 (.ref 417),dE P "now" 770 (.ref 424),dE P "mark" 778 (.ref 431),dE P "hand" 786 (.ref 438),dE P "run" 797 (.ref 445),dE P "strike" 805 (.ref 452),dE P "mend" 814 (.ref 459),dE P "settle" 822 (.ref 466),dE P "aside" 830 (.ref 473),dE P "heed" 838 (.ref 480),dE P "allow" 846 (.ref 487),dE P "deed" 855 (.ref 494),dE P "back" 862 (.ref 501),dE P "again" 871 (.ref 508),dE P "deeds" 878 (.ref 515),dE P "twin" 885 (.ref 522),dE P "marks" 892 (.ref 529),dE P "hands" 899 (.ref 536),dE P "asides" 905 (.ref 541),dE P "stands" 912 (.ref 548),dE P "allowed" 919 (.ref 555),dE P "runs" 926 (.ref 562),dE P "counting" 932 (.ref 567),dE P "height" 941 (.ref 574),dE P "paper" 950 (.ref 581),dE P "readings" 959 (.ref 588),dE P "sank" 967 (.ref 595),dE P "false_sets" 974 (.ref 602),dE P "least" 981 (.ref 609),dE P "groups" 988 (.ref 616),dE P "parting" 997 (.ref 623),dE P "foe" 1006 (.ref 630),dE P "__static_attributes__" 1010 (.ref 631)] 36,#[]⟩,cT]
noncomputable def c17 (P:Params):List Obj:=[⟨.none,none,.fields #[.int 160 0,.int 4 0,.ref 416,.int 165 0,.int 4 0,.ref 423,.int 168 0,.int 4 0,.ref 430,.int 171 0,.int 4 0,.ref 437,.int 174 0,.int 4 0,.ref 444,.int 177 0,.int 4 0,.ref 451,.int 180 0,.int 4 0,.ref 458,.int 183 0,.int 4 0,.ref 465,.int 186 0,.int 4 0,.ref 472,.int 189 0,.int 4 0,.ref 479,.int 192 0,.int 4 0,.ref 486,.int 195 0,.int 4 0,.ref 493,.int 204 0,.int 4 0,.ref 500,.int 209 0,.int 4 0,.ref 507,.int 216 0,.int 4 0,.ref 514,.int 219 0,.int 4 0,.ref 521,.int 222 0,.int 4 0,.ref 528,.int 225 0,.int 4 0,.ref 535,.int 228 0,.int 4 0,.ref 540,.int 232 0,.int 4 0,.ref 547,.int 235 0,.int 4 0,.ref 554,.int 238 0,.int 4 0,.ref 561,.int 241 0,.int 4 0,.ref 566,.int 244 0,.int 4 0,.ref 573,.int 247 0,.int 4 0,.ref 580,.int 250 0,.int 4 0,.ref 587,.int 253 0,.int 4 0,.ref 594,.int 256 0,.int 4 0,.ref 601,.int 259 0,.int 4 0,.ref 608,.int 262 0,.int 4 0,.ref 615,.int 265 0,.int 4 0,.ref 622,.int 268 0,.int 4 0,.ref 629],#[]⟩,kC "Fen" 158 747 407,kF 409 406 u5 737,cT,cF,cN 760 ["self"],cT,fJ zbu "Fen.__init__",cQ zbu "Fen.__init__" 757 160 0 1 411 (.ref 413) (.ref 414) 415 762,fQ zbu "Fen.__init__" u5 737 416,cT,cF,cN 767 ["self"],cT,fJ zd4 "Fen.now",cQ zd4 "Fen.now" 764 165 0 1 418 (.ref 420) (.ref 421) 422 769,fQ zd4 "Fen.now" u5 737 423,cT,cF,cN 774 ["self","name"],cT,fJ zfz "Fen.mark",cQ zfz "Fen.mark" 771 168 0 2 425 (.ref 427) (.ref 428) 429 777,fQ zfz "Fen.mark" u5 737 430]
noncomputable def c18 (P:Params):List Obj:=[cT,cF,cN 782 ["self","name"],cT,fJ zf0 "Fen.hand",cQ zf0 "Fen.hand" 779 171 0 2 432 (.ref 434) (.ref 435) 436 785,fQ zf0 "Fen.hand" u5 737 437,cT,cF,cN 790 ["self","one","other","rise","hand"],cT,fJ zgM "Fen.run",cQ zgM "Fen.run" 787 174 0 5 439 (.ref 441) (.ref 442) 443 796,fQ zgM "Fen.run" u5 737 444,cT,cF,cN 801 ["self","number"],cT,fJ zdP "Fen.strike",cQ zdP "Fen.strike" 798 177 0 2 446 (.ref 448) (.ref 449) 450 804,fQ zdP "Fen.strike" u5 737 451,cT,cF,cN 809 ["self","number","rise"]]
noncomputable def c19 (P:Params):List Obj:=[cT,fJ zfs "Fen.mend",cQ zfs "Fen.mend" 806 180 0 3 453 (.ref 455) (.ref 456) 457 813,fQ zfs "Fen.mend" u5 737 458,cT,cF,cN 818 ["self","name"],cT,fJ zdL "Fen.settle",cQ zdL "Fen.settle" 815 183 0 2 460 (.ref 462) (.ref 463) 464 821,fQ zdL "Fen.settle" u5 737 465,cT,cF,cN 826 ["self","hand"],cT,fJ zeU "Fen.aside",cQ zeU "Fen.aside" 823 186 0 2 467 (.ref 469) (.ref 470) 471 829,fQ zeU "Fen.aside" u5 737 472,cT,cF,cN 834 ["self","hand"],cT,fJ zfD "Fen.heed",cQ zfD "Fen.heed" 831 189 0 2 474 (.ref 476) (.ref 477) 478 837]
noncomputable def c20 (P:Params):List Obj:=[fQ zfD "Fen.heed" u5 737 479,cT,cF,cN 842 ["self","many"],cT,fJ zeS "Fen.allow",cQ zeS "Fen.allow" 839 192 0 2 481 (.ref 483) (.ref 484) 485 845,fQ zeS "Fen.allow" u5 737 486,cT,cF,cN 850 ["self","row","book"],cT,fJ zdk "Fen.deed",cQ zdk "Fen.deed" 847 195 0 2 488 (.ref 490) (.ref 491) 492 854,fQ zdk "Fen.deed" u5 737 493,cT,cF,cN 859 ["self"],cT,fJ zfX "Fen.back",cQ zfX "Fen.back" 856 204 0 1 495 (.ref 497) (.ref 498) 499 861,fQ zfX "Fen.back" u5 737 500,cT,cF]
noncomputable def c21 (P:Params):List Obj:=[cN 866 ["self","row","book"],cT,fJ zez "Fen.again",cQ zez "Fen.again" 863 209 0 1 502 (.ref 504) (.ref 505) 506 870,fQ zez "Fen.again" u5 737 507,cT,cF,cN 875 ["self"],cT,fJ zcO "Fen.deeds",cQ zcO "Fen.deeds" 872 216 0 1 509 (.ref 511) (.ref 512) 513 877,fQ zcO "Fen.deeds" u5 737 514,cT,cF,cN 882 ["self"],cT,fJ zfu "Fen.twin",cQ zfu "Fen.twin" 879 219 0 1 516 (.ref 518) (.ref 519) 520 884,fQ zfu "Fen.twin" u5 737 521,cT,cF,cN 889 ["self"],cT,fJ zcP "Fen.marks"]
noncomputable def c22 (P:Params):List Obj:=[cQ zcP "Fen.marks" 886 222 0 1 523 (.ref 525) (.ref 526) 527 891,fQ zcP "Fen.marks" u5 737 528,cT,cF,cN 896 ["self"],cT,fJ zcR "Fen.hands",cQ zcR "Fen.hands" 893 225 0 1 530 (.ref 532) (.ref 533) 534 898,fQ zcR "Fen.hands" u5 737 535,cT,cF,fJ zch "Fen.asides",cQ zch "Fen.asides" 900 228 0 1 537 (.none) (.none) 539 904,fQ zch "Fen.asides" u5 737 540,cT,cF,cN 909 ["self"],cT,fJ zcs "Fen.stands",cQ zcs "Fen.stands" 906 232 0 1 542 (.ref 544) (.ref 545) 546 911,fQ zcs "Fen.stands" u5 737 547,cT,cF,cN 916 ["self"]]
noncomputable def c23 (P:Params):List Obj:=[cT,fJ zbP "Fen.allowed",cQ zbP "Fen.allowed" 913 235 0 1 549 (.ref 551) (.ref 552) 553 918,fQ zbP "Fen.allowed" u5 737 554,cT,cF,cN 923 ["self"],cT,fJ zde "Fen.runs",cQ zde "Fen.runs" 920 238 0 1 556 (.ref 558) (.ref 559) 560 925,fQ zde "Fen.runs" u5 737 561,cT,cF,fJ zbx "Fen.counting",cQ zbx "Fen.counting" 927 241 0 1 563 (.none) (.none) 565 931,fQ zbx "Fen.counting" u5 737 566,cT,cF,cN 936 ["self","one","other"],cT,fJ zdM "Fen.height",cQ zdM "Fen.height" 933 244 0 3 568 (.ref 570) (.ref 571) 572 940,fQ zdM "Fen.height" u5 737 573,cT]
noncomputable def c24 (P:Params):List Obj:=[cF,cN 945 ["self","one","other"],cT,fJ zeB "Fen.paper",cQ zeB "Fen.paper" 942 247 0 3 575 (.ref 577) (.ref 578) 579 949,fQ zeB "Fen.paper" u5 737 580,cT,cF,cN 954 ["self","one","other"],cT,fJ zcT "Fen.readings",cQ zcT "Fen.readings" 951 250 0 3 582 (.ref 584) (.ref 585) 586 958,fQ zcT "Fen.readings" u5 737 587,cT,cF,cN 963 ["self","name"],cT,fJ zfH "Fen.sank",cQ zfH "Fen.sank" 960 253 0 2 589 (.ref 591) (.ref 592) 593 966,fQ zfH "Fen.sank" u5 737 594,cT,cF,cN 971 ["self"],cT]
noncomputable def c25 (P:Params):List Obj:=[fJ zcq "Fen.false_sets",cQ zcq "Fen.false_sets" 968 256 0 1 596 (.ref 598) (.ref 599) 600 973,fQ zcq "Fen.false_sets" u5 737 601,cT,cF,cN 978 ["self"],cT,fJ zeM "Fen.least",cQ zeM "Fen.least" 975 259 0 1 603 (.ref 605) (.ref 606) 607 980,fQ zeM "Fen.least" u5 737 608,cT,cF,cN 985 ["self"],cT,fJ zdF "Fen.groups",cQ zdF "Fen.groups" 982 262 0 1 610 (.ref 612) (.ref 613) 614 987,fQ zdF "Fen.groups" u5 737 615,cT,cF,cN 992 ["self","one","other"],cT,fJ zdd "Fen.parting",cQ zdd "Fen.parting" 989 265 0 3 617 (.ref 619) (.ref 620) 621 996,fQ zdd "Fen.parting" u5 737 622]
noncomputable def c26 (P:Params):List Obj:=[cT,cF,cN 1001 ["self","one","other"],cT,fJ zgG "Fen.foe",cQ zgG "Fen.foe" 998 268 0 3 624 (.ref 626) (.ref 627) 628 1005,fQ zgG "Fen.foe" u5 737 629,cN 1007 ["books","kept","undone"],⟨.type "dict",none,.dict #[dE P "__module__" 752 (.str "fenlevel.fen" 737),dE P "__firstlineno__" 756 (.int 158 755),dE P "__init__" 763 (.ref 417),dE P "now" 770 (.ref 424),dE P "mark" 778 (.ref 431),dE P "hand" 786 (.ref 438),dE P "run" 797 (.ref 445),dE P "strike" 805 (.ref 452),dE P "mend" 814 (.ref 459),dE P "settle" 822 (.ref 466),dE P "aside" 830 (.ref 473),dE P "heed" 838 (.ref 480),dE P "allow" 846 (.ref 487),dE P "deed" 855 (.ref 494),dE P "back" 862 (.ref 501),dE P "again" 871 (.ref 508),dE P "deeds" 878 (.ref 515),dE P "twin" 885 (.ref 522),dE P "marks" 892 (.ref 529),dE P "hands" 899 (.ref 536),dE P "asides" 905 (.ref 541),dE P "stands" 912 (.ref 548),dE P "allowed" 919 (.ref 555),dE P "runs" 926 (.ref 562),dE P "counting" 932 (.ref 567),dE P "height" 941 (.ref 574),dE P "paper" 950 (.ref 581),dE P "readings" 959 (.ref 588),dE P "sank" 967 (.ref 595),dE P "false_sets" 974 (.ref 602),dE P "least" 981 (.ref 609),dE P "groups" 988 (.ref 616),dE P "parting" 997 (.ref 623),dE P "foe" 1006 (.ref 630),dE P "__static_attributes__" 1010 (.ref 631),dE P "__dict__" 1012 (.ref 634),dE P "__weakref__" 1014 (.ref 635),dE P "__doc__" 1015 (.none)] 4,#[]⟩,⟨.type "type",none,.cls ⟨"Fen",[.type "object"],[.ref 633,.type "object"],632,"Fen",true,[],[],false,none,false⟩,#[none,none,some (.str "Fen" 745),some (.str "Fen" 753),some (.builtin "object.__new__"),some (.bool true)]⟩,⟨.type "getset_descriptor",none,.fields #[.str "__dict__" 1011,.ref 633,.builtin "function.__dict__",.builtin "function.__dict__#set"],#[]⟩,⟨.type "getset_descriptor",none,.fields #[.str "__weakref__" 1013,.ref 633,.builtin "ExceptionGroup.__weakref__",.none],#[]⟩,kS 633,kI 633,cT,cF,cN 1023 ["_law_script"],cT,fI sBox,cO sBox 1020 271 0 1 638 (.ref 640) (.ref 641) 642 1025,fO sBox u6 1018 643,cT,cF,cN 1030 ["_law_box_here","_law_many","_law_rest","_law_cell","_law_seed"]]
noncomputable def c27 (P:Params):List Obj:=[cT,fI zjk,cO zjk 1027 273 0 2 645 (.ref 647) (.ref 648) 649 1036,fO zjk u6 1018 650,cT,cF,fI zlU,cP zlU 1038 289 0 2 652 1042,fO zlU u6 1018 655,cT,cF,fI zhQ,cP zhQ 1044 299 0 2 657 1048,fO zhQ u6 1018 660,cT,cF,cT,cT,fI zh1,cO zh1 1050 313 0 0 662 (.ref 664) (.ref 665) 666 1054,fO zh1 u6 1018 667,cT,cF,fI ziz]
noncomputable def c28 (P:Params):List Obj:=[cP ziz 1056 315 0 2 669 1060,fO ziz u6 1018 672,cT,cF,cN 1065 ["_law_model_here","_law_name"],cT,fI zhN,cO zhN 1062 317 0 2 674 (.ref 676) (.ref 677) 678 1068,fO zhN u6 1018 679,cT,cF,fI ziw,cP ziw 1070 319 0 1 681 1074,fO ziw u6 1018 684,cT,cF,fI zed,cP zed 1076 321 0 1 686 1080,fO zed u6 1018 689,cT,cF,fI zmS,cP zmS 1082 323 0 2 691 1086,fO zmS u6 1018 694]
noncomputable def c29 (P:Params):List Obj:=[cT,cF,cN 1091 ["_law_model_here","_law_deed"],cT,fI zee,cO zee 1088 347 0 2 696 (.ref 698) (.ref 699) 700 1094,fO zee u6 1018 701,cT,cF,cN 1099 ["_law_fen","_law_model_here","_law_deed"],cT,fI zlF,cO zlF 1096 349 0 3 703 (.ref 705) (.ref 706) 707 1103,fO zlF u6 1018 708,cT,cF,cN 1108 ["_law_fen","_law_found"],cT,fI zlJ,cO zlJ 1105 353 0 1 710 (.ref 712) (.ref 713) 714 1111,fO zlJ u6 1018 715,cT,cF,fI sDue]
noncomputable def c30 (P:Params):List Obj:=[cP sDue 1113 356 0 1 717 1117,fO sDue u6 1018 720,cT,cF,cN 1122 ["_law_fen","_law_model_here"],cT,fI zhX,cO zhX 1119 362 0 2 722 (.ref 724) (.ref 725) 726 1125,fO zhX u6 1018 727,cT,cF,fI zhw,cP zhw 1127 364 0 1 729 1131,fO zhw u6 1018 732,cT,cF,cN 1136 ["_law_fen","_law_deed","_law_found","_law_kinds_here","_law_e"],cT,fI zhP,cO zhP 1133 373 0 2 734 (.ref 736) (.ref 737) 738 1142,fO zhP u6 1018 739,cT,cF,fI zhZ]
noncomputable def c31 (P:Params):List Obj:=[cP zhZ 1144 381 0 1 741 1148,fO zhZ u6 1018 744,cT,cF,cN 1153 ["_law_model_here","_law_deed"],cT,fI zdX,cO zdX 1150 383 0 2 746 (.ref 748) (.ref 749) 750 1156,fO zdX u6 1018 751,cT,cF,cN 1161 ["_law_model_here","_law_deed","_law_word_here","_law_one","_law_other","_law_rise","_law_hand"],cT,fI zd6,cO zd6 1158 393 0 2 753 (.ref 755) (.ref 756) 757 1169,fO zd6 u6 1018 758,cT,cF,fI zlC,cP zlC 1171 404 0 2 760 1175,fO zlC u6 1018 763,cT,cF,cN 1180 ["_law_fen","_law_model_here","_law_deed","_law_word_here"]]
noncomputable def c32 (P:Params):List Obj:=[cT,fI zfn,cO zfn 1177 424 0 3 765 (.ref 767) (.ref 768) 769 1185,fO zfn u6 1018 770,cT,cF,cN 1190 ["_law_box_here","_law_model_here","_law_pool","_law_deed","_law_at","_law_bad","_law_some","_law_thing"],cT,fI zdb,cO zdb 1187 431 0 4 772 (.ref 774) (.ref 775) 776 1199,fO zdb u6 1018 777,cT,cF,cN 1204 ["_law_script","_law_box_here","_law_pool","_law_fen","_law_model_here","_law_k","_law_word_here","_law_deed"],cT,fI sLaw,cO sLaw 1201 441 0 1 779 (.ref 781) (.ref 782) 783 1213,fO sLaw u6 1018 784]
noncomputable def oB (P:Params) (d c:Obj):List Obj:=c0 P d c ++ (c1 P ++ (c2 P ++ (c3 P ++ (c4 P ++ (c5 P ++ (c6 P ++ (c7 P ++ (c8 P ++ (c9 P ++ (c10 P ++ (c11 P ++ (c12 P ++ (c13 P ++ (c14 P ++ (c15 P ++ (c16 P ++ (c17 P ++ (c18 P ++ (c19 P ++ (c20 P ++ (c21 P ++ (c22 P ++ (c23 P ++ (c24 P ++ (c25 P ++ (c26 P ++ (c27 P ++ (c28 P ++ (c29 P ++ (c30 P ++ (c31 P ++ (c32 P))))))))))))))))))))))))))))))))
noncomputable def e3 (P:Params):List DictEntry:=[dE P "__doc__" 166 (.none),dE P "__package__" 167 (.none),dE P "__loader__" 168 (.builtin "__main__.__loader__#opaque"),dE P "__spec__" 169 (.none),dE P "__annotations__" 170 (.ref 6),dE P "__builtins__" 171 (.ref 4),dE P "__file__" 173 (.str "/claim/cut.py" 172),dE P "__cached__" 174 (.none),dE P "_wall" 193 (.ref 21),dE P "FenError" 213 (.ref 31),dE P "BadName" 229 (.ref 44),dE P "Taken" 245 (.ref 56),dE P "Full" 261 (.ref 68),dE P "NoMark" 277 (.ref 80),dE P "NoHand" 293 (.ref 92),dE P "Same" 309 (.ref 104),dE P "BadRise" 325 (.ref 116),dE P "NoRun" 341 (.ref 128),dE P "Aside" 357 (.ref 140),dE P "NotAside" 373 (.ref 152),dE P "BadNumber" 389 (.ref 164),dE P "NothingLeft" 405 (.ref 176),dE P "Steady" 421 (.ref 188),dE P "NoDeed" 437 (.ref 200),dE P "Known" 453 (.ref 212),dE P "NoFen" 469 (.ref 224),dE P "Settled" 485 (.ref 236),dE P "NoPage" 510 (.ref 255),dE P "LETTERS" 514 (.str "abcdefghijklmnopqrstuvwxyz" 513),dE P "LONGEST_NAME" 516 (.int 8 515),dE P "is_made_of" 522 (.ref 262),dE P "is_name" 529 (.ref 269),dE P "marks_of" 537 (.ref 274),dE P "turns_of" 543 (.ref 279),dE P "next_stand" 551 (.ref 286),dE P "last_stand" 560 (.ref 293),dE P "MOST_STANDS" 564 (.int 12 563),dE P "MOST_HANDS" 566 (.int 10 565),dE P "MOST_RUNS" 568 (.int 40 567),dE P "MOST_FALSE" 570 (.int 3 569),dE P "HIGHEST_RISE" 572 (.int 1000000000 571),dE P "empty_book" 578 (.ref 300),dE P "with_entry" 588 (.ref 307),dE P "with_new_stand" 597 (.ref 314),dE P "need_hand" 605 (.ref 321),dE P "need_rise" 612 (.ref 328),dE P "need_run" 618 (.ref 333),dE P "mark_entered" 628 (.ref 340),dE P "hand_entered" 639 (.ref 347),dE P "run_entered" 658 (.ref 354),dE P "run_struck" 664 (.ref 359),dE P "run_mended" 670 (.ref 364),dE P "mark_settled" 682 (.ref 371),dE P "hand_set_aside" 692 (.ref 378),dE P "hand_heeded" 698 (.ref 383),dE P "number_allowed" 708 (.ref 390),dE P "ACTIONS" 727 (.ref 391),dE P "book_behind" 736 (.ref 398),dE P "rows_that_count" 744 (.ref 403),dE P "Fen" 1017 (.ref 633),dE P "_law_box" 1026 (.ref 644),dE P "_law_take" 1037 (.ref 651),dE P "_law_same" 1043 (.ref 656),dE P "_law_names" 1049 (.ref 661),dE P "_law_model" 1055 (.ref 668),dE P "_law_turns" 1061 (.ref 673),dE P "_law_place" 1069 (.ref 680),dE P "_law_marks" 1075 (.ref 685),dE P "_law_counted" 1081 (.ref 690),dE P "_law_done" 1087 (.ref 695),dE P "_law_due_told" 1095 (.ref 702),dE P "_law_step" 1104 (.ref 709),dE P "_law_seen" 1112 (.ref 716),dE P "_law_due" 1118 (.ref 721),dE P "_law_right" 1126 (.ref 728),dE P "_law_kinds" 1132 (.ref 733),dE P "_law_tried" 1143 (.ref 740),dE P "_law_named" 1149 (.ref 745),dE P "_law_new_word" 1157 (.ref 752),dE P "_law_run_word" 1170 (.ref 759),dE P "_law_word" 1176 (.ref 764),dE P "_law_judged" 1186 (.ref 771),dE P "_law_bent_deed" 1200 (.ref 778),dE P "law" 1214 (.ref 785)]
noncomputable def d3 (P:Params) (x:Str) (t k:Nat):Obj:=⟨.type "dict",none,.dict (dE P "__name__" 165 (.str x t) :: (e3 P).take k).toArray (k + 1),#[]⟩
noncomputable def v4:List Value:=cV [(1,0,20),(5,0,27),(7,0,40),(9,0,52),(11,0,64),(13,0,76),(15,0,88),(17,0,100),(19,0,112),(21,0,124),(23,0,136),(25,0,148),(27,0,160),(29,0,172),(31,0,184),(33,0,196),(35,0,208),(37,0,220),(39,0,232),(41,0,244),(48,0,261),(50,0,268),(53,0,273),(55,0,278),(57,0,285),(59,0,292),(70,0,299),(72,0,306),(76,0,313),(81,0,320),(84,0,327),(87,0,332),(90,0,339),(97,0,346),(107,0,353),(120,0,358),(124,0,363),(130,0,370),(134,0,377),(140,0,382),(146,0,389),(152,0,397),(156,0,402),(158,0,409),(271,0,643),(273,0,650),(289,0,655),(299,0,660),(313,0,667),(315,0,672),(317,0,679),(319,0,684),(321,0,689),(323,0,694),(347,0,701),(349,0,708),(353,0,715),(356,0,720),(362,0,727),(364,0,732),(373,0,739),(381,0,744),(383,0,751),(393,0,758),(404,0,763),(424,0,770),(431,0,777),(441,0,784)]
noncomputable def d4 (k:Nat):Obj:=⟨.none,none,.fields (v4.take k).toArray,#[]⟩
noncomputable def bE:List Stmt:=PySem.W.behindTheImports PySem.Challenge.pw_fenlevel_k25_marks_and_hands
noncomputable def eN:PySem.Env:={ scope:=(PySem.Challenge.pw_fenlevel_k25_marks_and_hands).main.scope,locals:=mainNs,globals:=mainNs,cells:=[],code:=.ref 13,frame:=some 14 }
noncomputable def cB:Code:=.body bE eN
noncomputable def fB:List Frame:=[topFrame ⟨0,0,0,0⟩]
noncomputable def sA (w:PySem.World) (os:OsState):Shared:=⟨⟨⟨(oB w.params (d3 w.params "__main__" 164 8) (d4 0)).take 15⟩,{}⟩,#[],{},187,os⟩
noncomputable def sB0 (w:PySem.World) (os:OsState):SharedT:=⟨bT (fun i=>(oB w.params (d3 w.params "__main__" 164 8) (d4 0)).getD i cT) 15 12 1 0,15,{},#[],{},187,os⟩
noncomputable def x31 (n:Nat):Obj:=⟨.type "type",none,.cls ⟨"FenError",[.type "ValueError"],[.ref 31,.type "ValueError",.type "Exception",.type "BaseException",.type "object"],30,"FenError",true,[],(([.ref 44,.ref 56,.ref 68,.ref 80,.ref 92,.ref 104,.ref 116,.ref 128,.ref 140,.ref 152,.ref 164,.ref 176,.ref 188,.ref 200,.ref 212,.ref 224,.ref 236,.ref 255]:List Value).take n),false,none,false⟩,#[some (.ref 22),none,some (.str "FenError" 196),some (.str "FenError" 204),some (.builtin "ValueError.__new__"),some (.bool true)]⟩
noncomputable def sB1 (w:PySem.World) (os:OsState):SharedT:=⟨bT (fun i=>bif Nat.beq i 31 then x31 0 else (oB w.params (d3 w.params "fenlevel.errors" 194 10) (d4 6)).getD i cT) 35 12 1 0,35,{},#[],{},214,os⟩
noncomputable def sB2 (w:PySem.World) (os:OsState):SharedT:=⟨bT (fun i=>bif Nat.beq i 31 then x31 1 else (oB w.params (d3 w.params "fenlevel.errors" 194 11) (d4 9)).getD i cT) 47 12 1 0,47,{},#[],{},230,os⟩
noncomputable def sB3 (w:PySem.World) (os:OsState):SharedT:=⟨bT (fun i=>bif Nat.beq i 31 then x31 2 else (oB w.params (d3 w.params "fenlevel.errors" 194 12) (d4 12)).getD i cT) 59 12 1 0,59,{},#[],{},246,os⟩
noncomputable def sB4 (w:PySem.World) (os:OsState):SharedT:=⟨bT (fun i=>bif Nat.beq i 31 then x31 3 else (oB w.params (d3 w.params "fenlevel.errors" 194 13) (d4 15)).getD i cT) 71 12 1 0,71,{},#[],{},262,os⟩
noncomputable def sB5 (w:PySem.World) (os:OsState):SharedT:=⟨bT (fun i=>bif Nat.beq i 31 then x31 4 else (oB w.params (d3 w.params "fenlevel.errors" 194 14) (d4 18)).getD i cT) 83 12 1 0,83,{},#[],{},278,os⟩
noncomputable def sB6 (w:PySem.World) (os:OsState):SharedT:=⟨bT (fun i=>bif Nat.beq i 31 then x31 5 else (oB w.params (d3 w.params "fenlevel.errors" 194 15) (d4 21)).getD i cT) 95 12 1 0,95,{},#[],{},294,os⟩
noncomputable def sB7 (w:PySem.World) (os:OsState):SharedT:=⟨bT (fun i=>bif Nat.beq i 31 then x31 6 else (oB w.params (d3 w.params "fenlevel.errors" 194 16) (d4 24)).getD i cT) 107 12 1 0,107,{},#[],{},310,os⟩
noncomputable def sB8 (w:PySem.World) (os:OsState):SharedT:=⟨bT (fun i=>bif Nat.beq i 31 then x31 7 else (oB w.params (d3 w.params "fenlevel.errors" 194 17) (d4 27)).getD i cT) 119 12 1 0,119,{},#[],{},326,os⟩
noncomputable def sB9 (w:PySem.World) (os:OsState):SharedT:=⟨bT (fun i=>bif Nat.beq i 31 then x31 8 else (oB w.params (d3 w.params "fenlevel.errors" 194 18) (d4 30)).getD i cT) 131 12 1 0,131,{},#[],{},342,os⟩
noncomputable def sB10 (w:PySem.World) (os:OsState):SharedT:=⟨bT (fun i=>bif Nat.beq i 31 then x31 9 else (oB w.params (d3 w.params "fenlevel.errors" 194 19) (d4 33)).getD i cT) 143 12 1 0,143,{},#[],{},358,os⟩
noncomputable def sB11 (w:PySem.World) (os:OsState):SharedT:=⟨bT (fun i=>bif Nat.beq i 31 then x31 10 else (oB w.params (d3 w.params "fenlevel.errors" 194 20) (d4 36)).getD i cT) 155 12 1 0,155,{},#[],{},374,os⟩
noncomputable def sB12 (w:PySem.World) (os:OsState):SharedT:=⟨bT (fun i=>bif Nat.beq i 31 then x31 11 else (oB w.params (d3 w.params "fenlevel.errors" 194 21) (d4 39)).getD i cT) 167 12 1 0,167,{},#[],{},390,os⟩
noncomputable def sB13 (w:PySem.World) (os:OsState):SharedT:=⟨bT (fun i=>bif Nat.beq i 31 then x31 12 else (oB w.params (d3 w.params "fenlevel.errors" 194 22) (d4 42)).getD i cT) 179 12 1 0,179,{},#[],{},406,os⟩
noncomputable def sB14 (w:PySem.World) (os:OsState):SharedT:=⟨bT (fun i=>bif Nat.beq i 31 then x31 13 else (oB w.params (d3 w.params "fenlevel.errors" 194 23) (d4 45)).getD i cT) 191 12 1 0,191,{},#[],{},422,os⟩
noncomputable def sB15 (w:PySem.World) (os:OsState):SharedT:=⟨bT (fun i=>bif Nat.beq i 31 then x31 14 else (oB w.params (d3 w.params "fenlevel.errors" 194 24) (d4 48)).getD i cT) 203 12 1 0,203,{},#[],{},438,os⟩
noncomputable def sB16 (w:PySem.World) (os:OsState):SharedT:=⟨bT (fun i=>bif Nat.beq i 31 then x31 15 else (oB w.params (d3 w.params "fenlevel.errors" 194 25) (d4 51)).getD i cT) 215 12 1 0,215,{},#[],{},454,os⟩
noncomputable def sB17 (w:PySem.World) (os:OsState):SharedT:=⟨bT (fun i=>bif Nat.beq i 31 then x31 16 else (oB w.params (d3 w.params "fenlevel.errors" 194 26) (d4 54)).getD i cT) 227 12 1 0,227,{},#[],{},470,os⟩
noncomputable def sB18 (w:PySem.World) (os:OsState):SharedT:=⟨bT (fun i=>bif Nat.beq i 31 then x31 17 else (oB w.params (d3 w.params "fenlevel.errors" 194 27) (d4 57)).getD i cT) 239 12 1 0,239,{},#[],{},486,os⟩
noncomputable def sB19 (w:PySem.World) (os:OsState):SharedT:=⟨bT (fun i=>(oB w.params (d3 w.params "fenlevel.stand" 530 34) (d4 72)).getD i cT) 280 12 1 0,280,{},#[],{},544,os⟩
noncomputable def sB20 (w:PySem.World) (os:OsState):SharedT:=⟨bT (fun i=>(oB w.params (d3 w.params "fenlevel.deeds" 561 50) (d4 105)).getD i cT) 355 12 1 0,355,{},#[],{},659,os⟩
noncomputable def sB21 (w:PySem.World) (os:OsState):SharedT:=⟨bT (fun i=>(oB w.params (d3 w.params "fenlevel.deeds" 561 56) (d4 123)).getD i cT) 391 12 1 0,391,{},#[],{},709,os⟩
noncomputable def sB22 (w:PySem.World) (os:OsState):SharedT:=⟨bT (fun i=>(oB w.params (d3 w.params "fenlevel.deeds" 561 57) (d4 123)).getD i cT) 392 12 1 0,392,{},#[],{},728,os⟩
noncomputable def sB23 (w:PySem.World) (os:OsState):SharedT:=⟨bT (fun i=>(oB w.params (d3 w.params "fenlevel.fen" 737 59) (d4 129)).getD i cT) 404 12 1 0,404,{},#[],{},745,os⟩
noncomputable def sB24 (w:PySem.World) (os:OsState):SharedT:=⟨bT (fun i=>(oB w.params (d3 w.params "fenlevel.fen" 737 60) (d4 132)).getD i cT) 638 12 1 0,638,{},#[],{},1018,os⟩
noncomputable def sB25 (w:PySem.World) (os:OsState):SharedT:=⟨bT (fun i=>(oB w.params (d3 w.params "law_fenlevel_k25_marks_and_hands" 1018 73) (d4 171)).getD i cT) 717 12 1 0,717,{},#[],{},1113,os⟩
noncomputable def sB26 (w:PySem.World) (os:OsState):SharedT:=⟨bT (fun i=>(oB w.params (d3 w.params "law_fenlevel_k25_marks_and_hands" 1018 84) (d4 204)).getD i cT) 786 12 1 0,786,{},#[],{},1215,os⟩
noncomputable def hE (P:Params):Heap:=⟨⟨oB P (d3 P "law_fenlevel_k25_marks_and_hands" 1018 84) (d4 204)⟩,{}⟩
noncomputable def St0:Prop:=∀ (w:PySem.World) (os:OsState),topGo treeTable PySem.Challenge.pw_fenlevel_k25_marks_and_hands w 11 (some (.ref 6)) 12 ⟨PySem.W.boot_heap w.params,Array.mk [],PySem.W.boot_drawn,PySem.W.boot_toks,os⟩ (topStub PySem.Challenge.pw_fenlevel_k25_marks_and_hands) = some (sA w os,⟨denote treeTable cB,cB,⟨0,0,0,0⟩,fB⟩)
noncomputable def St1:Prop:=∀ (w:PySem.World) (os:OsState),segRun treeTable PySem.Challenge.pw_fenlevel_k25_marks_and_hands w 11 (some (.ref 6)) 1 1 (sA w os) (blockOf bE eN cB ⟨0,0,0,0⟩ fB) = some (.next,(sB0 w os).abs,cB,⟨0,0,0,0⟩)
noncomputable def St2:Prop:=∀ (w:PySem.World) (os:OsState),segRunT treeTable PySem.Challenge.pw_fenlevel_k25_marks_and_hands w 11 (some (.ref 6)) 1 225 (sB0 w os) (piecesOf ((bE.drop 0).take 3) eN cB ⟨0,0,0,0⟩ fB) = some (.next,sB1 w os,cB,⟨5,0,6,8⟩)
noncomputable def St3:Prop:=∀ (w:PySem.World) (os:OsState),segRunT treeTable PySem.Challenge.pw_fenlevel_k25_marks_and_hands w 11 (some (.ref 6)) 1 214 (sB1 w os) (piecesOf ((bE.drop 3).take 1) eN cB ⟨5,0,6,8⟩ fB) = some (.next,sB2 w os,cB,⟨7,0,8,8⟩)
noncomputable def St4:Prop:=∀ (w:PySem.World) (os:OsState),segRunT treeTable PySem.Challenge.pw_fenlevel_k25_marks_and_hands w 11 (some (.ref 6)) 1 214 (sB2 w os) (piecesOf ((bE.drop 4).take 1) eN cB ⟨7,0,8,8⟩ fB) = some (.next,sB3 w os,cB,⟨9,0,10,8⟩)
noncomputable def St5:Prop:=∀ (w:PySem.World) (os:OsState),segRunT treeTable PySem.Challenge.pw_fenlevel_k25_marks_and_hands w 11 (some (.ref 6)) 1 214 (sB3 w os) (piecesOf ((bE.drop 5).take 1) eN cB ⟨9,0,10,8⟩ fB) = some (.next,sB4 w os,cB,⟨11,0,12,8⟩)
noncomputable def St6:Prop:=∀ (w:PySem.World) (os:OsState),segRunT treeTable PySem.Challenge.pw_fenlevel_k25_marks_and_hands w 11 (some (.ref 6)) 1 214 (sB4 w os) (piecesOf ((bE.drop 6).take 1) eN cB ⟨11,0,12,8⟩ fB) = some (.next,sB5 w os,cB,⟨13,0,14,8⟩)
noncomputable def St7:Prop:=∀ (w:PySem.World) (os:OsState),segRunT treeTable PySem.Challenge.pw_fenlevel_k25_marks_and_hands w 11 (some (.ref 6)) 1 214 (sB5 w os) (piecesOf ((bE.drop 7).take 1) eN cB ⟨13,0,14,8⟩ fB) = some (.next,sB6 w os,cB,⟨15,0,16,8⟩)
noncomputable def St8:Prop:=∀ (w:PySem.World) (os:OsState),segRunT treeTable PySem.Challenge.pw_fenlevel_k25_marks_and_hands w 11 (some (.ref 6)) 1 214 (sB6 w os) (piecesOf ((bE.drop 8).take 1) eN cB ⟨15,0,16,8⟩ fB) = some (.next,sB7 w os,cB,⟨17,0,18,8⟩)
noncomputable def St9:Prop:=∀ (w:PySem.World) (os:OsState),segRunT treeTable PySem.Challenge.pw_fenlevel_k25_marks_and_hands w 11 (some (.ref 6)) 1 214 (sB7 w os) (piecesOf ((bE.drop 9).take 1) eN cB ⟨17,0,18,8⟩ fB) = some (.next,sB8 w os,cB,⟨19,0,20,8⟩)
noncomputable def St10:Prop:=∀ (w:PySem.World) (os:OsState),segRunT treeTable PySem.Challenge.pw_fenlevel_k25_marks_and_hands w 11 (some (.ref 6)) 1 214 (sB8 w os) (piecesOf ((bE.drop 10).take 1) eN cB ⟨19,0,20,8⟩ fB) = some (.next,sB9 w os,cB,⟨21,0,22,8⟩)
noncomputable def St11:Prop:=∀ (w:PySem.World) (os:OsState),segRunT treeTable PySem.Challenge.pw_fenlevel_k25_marks_and_hands w 11 (some (.ref 6)) 1 214 (sB9 w os) (piecesOf ((bE.drop 11).take 1) eN cB ⟨21,0,22,8⟩ fB) = some (.next,sB10 w os,cB,⟨23,0,24,8⟩)
noncomputable def St12:Prop:=∀ (w:PySem.World) (os:OsState),segRunT treeTable PySem.Challenge.pw_fenlevel_k25_marks_and_hands w 11 (some (.ref 6)) 1 214 (sB10 w os) (piecesOf ((bE.drop 12).take 1) eN cB ⟨23,0,24,8⟩ fB) = some (.next,sB11 w os,cB,⟨25,0,26,8⟩)
noncomputable def St13:Prop:=∀ (w:PySem.World) (os:OsState),segRunT treeTable PySem.Challenge.pw_fenlevel_k25_marks_and_hands w 11 (some (.ref 6)) 1 214 (sB11 w os) (piecesOf ((bE.drop 13).take 1) eN cB ⟨25,0,26,8⟩ fB) = some (.next,sB12 w os,cB,⟨27,0,28,8⟩)
noncomputable def St14:Prop:=∀ (w:PySem.World) (os:OsState),segRunT treeTable PySem.Challenge.pw_fenlevel_k25_marks_and_hands w 11 (some (.ref 6)) 1 214 (sB12 w os) (piecesOf ((bE.drop 14).take 1) eN cB ⟨27,0,28,8⟩ fB) = some (.next,sB13 w os,cB,⟨29,0,30,8⟩)
noncomputable def St15:Prop:=∀ (w:PySem.World) (os:OsState),segRunT treeTable PySem.Challenge.pw_fenlevel_k25_marks_and_hands w 11 (some (.ref 6)) 1 214 (sB13 w os) (piecesOf ((bE.drop 15).take 1) eN cB ⟨29,0,30,8⟩ fB) = some (.next,sB14 w os,cB,⟨31,0,32,8⟩)
noncomputable def St16:Prop:=∀ (w:PySem.World) (os:OsState),segRunT treeTable PySem.Challenge.pw_fenlevel_k25_marks_and_hands w 11 (some (.ref 6)) 1 214 (sB14 w os) (piecesOf ((bE.drop 16).take 1) eN cB ⟨31,0,32,8⟩ fB) = some (.next,sB15 w os,cB,⟨33,0,34,8⟩)
noncomputable def St17:Prop:=∀ (w:PySem.World) (os:OsState),segRunT treeTable PySem.Challenge.pw_fenlevel_k25_marks_and_hands w 11 (some (.ref 6)) 1 214 (sB15 w os) (piecesOf ((bE.drop 17).take 1) eN cB ⟨33,0,34,8⟩ fB) = some (.next,sB16 w os,cB,⟨35,0,36,8⟩)
noncomputable def St18:Prop:=∀ (w:PySem.World) (os:OsState),segRunT treeTable PySem.Challenge.pw_fenlevel_k25_marks_and_hands w 11 (some (.ref 6)) 1 214 (sB16 w os) (piecesOf ((bE.drop 18).take 1) eN cB ⟨35,0,36,8⟩ fB) = some (.next,sB17 w os,cB,⟨37,0,38,8⟩)
noncomputable def St19:Prop:=∀ (w:PySem.World) (os:OsState),segRunT treeTable PySem.Challenge.pw_fenlevel_k25_marks_and_hands w 11 (some (.ref 6)) 1 214 (sB17 w os) (piecesOf ((bE.drop 19).take 1) eN cB ⟨37,0,38,8⟩ fB) = some (.next,sB18 w os,cB,⟨39,0,40,8⟩)
noncomputable def St20:Prop:=∀ (w:PySem.World) (os:OsState),segRunT treeTable PySem.Challenge.pw_fenlevel_k25_marks_and_hands w 11 (some (.ref 6)) 1 389 (sB18 w os) (piecesOf ((bE.drop 20).take 9) eN cB ⟨39,0,40,8⟩ fB) = some (.next,sB19 w os,cB,⟨55,0,56,63⟩)
noncomputable def St21:Prop:=∀ (w:PySem.World) (os:OsState),segRunT treeTable PySem.Challenge.pw_fenlevel_k25_marks_and_hands w 11 (some (.ref 6)) 1 398 (sB19 w os) (piecesOf ((bE.drop 29).take 17) eN cB ⟨55,0,56,63⟩ fB) = some (.next,sB20 w os,cB,⟨107,0,119,89⟩)
noncomputable def St22:Prop:=∀ (w:PySem.World) (os:OsState),segRunT treeTable PySem.Challenge.pw_fenlevel_k25_marks_and_hands w 11 (some (.ref 6)) 1 177 (sB20 w os) (piecesOf ((bE.drop 46).take 6) eN cB ⟨107,0,119,89⟩ fB) = some (.next,sB21 w os,cB,⟨146,0,150,44⟩)
noncomputable def St23f:Prop:=∀ (w:PySem.World) (os:OsState),segRunT treeTable PySem.Challenge.pw_fenlevel_k25_marks_and_hands (w.withFollow "special-get-raises" false) 11 (some (.ref 6)) 1 155 (sB21 (w.withFollow "special-get-raises" false) os) (piecesOf ((bE.drop 52).take 1) eN cB ⟨146,0,150,44⟩ fB) = some (.next,sB22 (w.withFollow "special-get-raises" false) os,cB,⟨151,0,151,7⟩)
noncomputable def St23t:Prop:=∀ (w:PySem.World) (os:OsState),segRunT treeTable PySem.Challenge.pw_fenlevel_k25_marks_and_hands (w.withFollow "special-get-raises" true) 11 (some (.ref 6)) 1 155 (sB21 (w.withFollow "special-get-raises" true) os) (piecesOf ((bE.drop 52).take 1) eN cB ⟨146,0,150,44⟩ fB) = some (.next,sB22 (w.withFollow "special-get-raises" true) os,cB,⟨151,0,151,7⟩)
noncomputable def St24:Prop:=∀ (w:PySem.World) (os:OsState),segRunT treeTable PySem.Challenge.pw_fenlevel_k25_marks_and_hands w 11 (some (.ref 6)) 1 67 (sB22 w os) (piecesOf ((bE.drop 53).take 3) eN cB ⟨151,0,151,7⟩ fB) = some (.next,sB23 w os,cB,⟨156,0,157,71⟩)
noncomputable def St25:Prop:=∀ (w:PySem.World) (os:OsState),segRunT treeTable PySem.Challenge.pw_fenlevel_k25_marks_and_hands w 11 (some (.ref 6)) 1 1207 (sB23 w os) (piecesOf ((bE.drop 56).take 1) eN cB ⟨156,0,157,71⟩ fB) = some (.next,sB24 w os,cB,⟨158,0,269,16⟩)
noncomputable def St26:Prop:=∀ (w:PySem.World) (os:OsState),segRunT treeTable PySem.Challenge.pw_fenlevel_k25_marks_and_hands w 11 (some (.ref 6)) 1 377 (sB24 w os) (piecesOf ((bE.drop 57).take 14) eN cB ⟨158,0,269,16⟩ fB) = some (.next,sB25 w os,cB,⟨353,0,355,42⟩)
noncomputable def St27:Prop:=∀ (w:PySem.World) (os:OsState),segRunT treeTable PySem.Challenge.pw_fenlevel_k25_marks_and_hands w 11 (some (.ref 6)) 1 337 (sB25 w os) (piecesOf ((bE.drop 71).take 11) eN cB ⟨353,0,355,42⟩ fB) = some (.next,sB26 w os,cB,⟨441,0,456,15⟩)
noncomputable def St28:Prop:=∀ (w:PySem.World) (os:OsState),topRun treeTable PySem.Challenge.pw_fenlevel_k25_marks_and_hands w 11 (some (.ref 6)) 2 (sB26 w os).abs ⟨doneF .next,cB,⟨441,0,456,15⟩,fB⟩ = some ⟨hE w.params,#[],{},1215,os⟩
noncomputable def vw:Program:={ PySem.Challenge.pw_fenlevel_k25_marks_and_hands with main:={ (PySem.Challenge.pw_fenlevel_k25_marks_and_hands).main with body:=[top 0,top 2,top 3,top 4,top 5,top 6,top 7,top 8,top 9,top 10,top 11,top 12,top 13,top 14,top 15,top 16,top 17,top 18,top 19,top 20,top 22,top 23,top 24,top 25,top 27,top 28,top 29,top 30,top 32,top 33,top 34,top 35,top 36,top 37,top 38,top 39,top 40,top 41,top 42,top 43,top 44,top 45,top 46,top 47,top 48,top 49,top 50,top 51,top 52,top 53,top 55,top 56,top 58,top 59,top 60,top 61,top 62,top 63,top 64,top 65,top 66,top 67,top 68,top 69,top 70,top 71,top 72,top 73,top 74,top 75,top 76,top 77,top 78,top 79,top 80,top 81] } }
noncomputable def hA:List Addr:=[3,261,262,268,269,273,274,278,279,285,286,292,293,299,300,306,307,313,314,339,340,346,347,370,371,397,398,402,403,643,644,650,651,655,656,660,661,667,668,672,673,679,680,684,685,689,690,694,695,701,702,708,709,715,716,720,721,727,728,732,733,739,740,744,745,751,752,758,759,763,764,770,771,777,778,784,785,416,417,423,424,493,494,514,515,528,529,535,536,540,541,547,548,554,555,561,562,566,567,24,30,31,37,43,44,49,55,56,61,67,68,73,79,80,85,91,92,97,103,104,109,115,116,121,127,128,133,139,140,145,151,152,157,163,164,169,175,176,181,187,188,193,199,200,205,211,212,217,223,224,229,235,236,241,254,255,391,406,632,633]
noncomputable def hK (P:Params):List (Nat × Obj):=hA.map fun a=>(a,(oB P (d3 P "law_fenlevel_k25_marks_and_hands" 1018 84) (d4 204)).getD a cT)
noncomputable def hH:PySem.W.Hook:=kHook hK hA (fun _=>by kernel_rfl)
noncomputable def xT (s:Shared):Bool:=xlAt vw [] s && recOk (RowW.records (PySem.Challenge.rw_fenlevel_k25_marks_and_hands).row.toRowW) s
noncomputable def StZ:Prop:=∀ w:PySem.World,((PySem.W.boot_heap w.params).isNs mainGlobals && (Array.mk []:Array GenState).size == 0,(PySem.W.boot_heap w.params).objs.size,(PySem.W.boot_heap w.params).nsMap mainGlobals "__annotations__") = (true,11,some (.ref 6))
noncomputable def StA:Prop:=∀ (w:PySem.World) (os:OsState),(staticsOk (importedModules (PySem.Challenge.pw_fenlevel_k25_marks_and_hands).main.body) (PySem.W.boot_heap w.params) (hE w.params) && namesBound PySem.Challenge.pw_fenlevel_k25_marks_and_hands (hE w.params) && gensDone ⟨hE w.params,#[],{},1215,os⟩ && laidKept (PySem.W.boot_heap w.params) (hE w.params)) = true
noncomputable def StB0:Prop:=∀ (w:PySem.World) (os:OsState),seen (List.map (fun x=>x.name) (recsOf vw)) (ownsOf vw) [] { heap:=(⟨hE w.params,#[],{},1215,os⟩:Shared).heap,drawn:=(⟨hE w.params,#[],{},1215,os⟩:Shared).drawn,toks:=(⟨hE w.params,#[],{},1215,os⟩:Shared).toks,os:=(⟨hE w.params,#[],{},1215,os⟩:Shared).os } = expectedOf vw
noncomputable def StB1:Prop:=∀ (w:PySem.World) (os:OsState),(⟨hE w.params,#[],{},1215,os⟩:Shared).heap.bltView = bltViewBooted
noncomputable def StB2:Prop:=∀ (w:PySem.World) (os:OsState),((⟨hE w.params,#[],{},1215,os⟩:Shared).heap.keysOk (looseW vw ["ACTIONS"]) (List.map (fun x=>x.name) (recsOf vw)) (List.map (fun x=>x.fst) (litsOf vw)) (List.map (fun x=>x.name) (clssOf vw (looseW vw ["ACTIONS"]))) && (⟨hE w.params,#[],{},1215,os⟩:Shared).heap.accountedOkI (importedModules (PySem.Challenge.pw_fenlevel_k25_marks_and_hands).main.body) && (⟨hE w.params,#[],{},1215,os⟩:Shared).heap.isNs mainGlobals && (⟨hE w.params,#[],{},1215,os⟩:Shared).heap.isNs builtinsNs && tablesOk vw (⟨hE w.params,#[],{},1215,os⟩:Shared).heap && xT (⟨hE w.params,#[],{},1215,os⟩:Shared) && if true = true then (⟨hE w.params,#[],{},1215,os⟩:Shared).gens.size == 0 else !leftWithCleanup (⟨hE w.params,#[],{},1215,os⟩:Shared).gens) = true
noncomputable def StB3:Prop:=∀ (w:PySem.World) (os:OsState),tabsOk vw (⟨hE w.params,#[],{},1215,os⟩:Shared) = true
noncomputable def StB4:Prop:=∀ (w:PySem.World) (os:OsState),pinSeenD vw (drecsOf vw) (⟨hE w.params,#[],{},1215,os⟩:Shared) = pinGoodD (drecsOf vw)
noncomputable def StB5:Prop:=∀ (w:PySem.World) (os:OsState),plainSeenE vw (looseW vw ["ACTIONS"]) (⟨hE w.params,#[],{},1215,os⟩:Shared) = plainGoodE vw (looseW vw ["ACTIONS"])
noncomputable def StB6:Prop:=∀ (w:PySem.World) (os:OsState),plainSeenD vw ["ACTIONS"] (⟨hE w.params,#[],{},1215,os⟩:Shared) = plainGoodD vw ["ACTIONS"]
noncomputable def StB7:Prop:=∀ (w:PySem.World) (os:OsState),wideSeen vw (⟨hE w.params,#[],{},1215,os⟩:Shared) = wideGood vw
noncomputable def StB8:Prop:=∀ (w:PySem.World) (os:OsState),clsSeenW vw ["ACTIONS"] (⟨hE w.params,#[],{},1215,os⟩:Shared) = clsGoodW vw ["ACTIONS"]
noncomputable def StC:Prop:=∀ (w:PySem.World) (os:OsState),hH.obs ⟨hE w.params,#[],{},1215,os⟩ = hH.val w
theorem pr0:(Function.const Prop true (St0/\St1/\St2/\St3/\St4/\St5/\St6/\St7/\St8/\St9/\St10/\St11/\St12/\St13/\St14/\St15/\St16/\St17/\St18/\St19/\St20/\St21/\St22/\St23f/\St23t/\St24/\St25/\St26/\St27/\St28/\StZ/\StA/\StC/\StB0/\StB1/\StB2/\StB3/\StB4/\StB5/\StB6/\StB7/\StB8)) = true:=by k_qdec
theorem th0:St0:=PySem.W.Fast.te937873346748051313.mpr (fun _ _=>by kernel_rfl)
theorem th1:St1:=PySem.W.Fast.te13982121027552719780.mpr (fun _ _=>by kernel_rfl)
theorem th2:St2:=PySem.W.Fast.te10105581574835445100.mpr (fun _ _=>by kernel_rfl)
theorem th3:St3:=PySem.W.Fast.te16437609458486848278.mpr (fun _ _=>by kernel_rfl)
theorem th4:St4:=PySem.W.Fast.te13904560402631476566.mpr (fun _ _=>by kernel_rfl)
theorem th5:St5:=PySem.W.Fast.te6988618110474044161.mpr (fun _ _=>by kernel_rfl)
theorem th6:St6:=PySem.W.Fast.te18292254230441717836.mpr (fun _ _=>by kernel_rfl)
theorem th7:St7:=PySem.W.Fast.te529641759280289813.mpr (fun _ _=>by kernel_rfl)
theorem th8:St8:=PySem.W.Fast.te7437064661015581292.mpr (fun _ _=>by kernel_rfl)
theorem th9:St9:=PySem.W.Fast.te4606531515639888929.mpr (fun _ _=>by kernel_rfl)
theorem th10:St10:=PySem.W.Fast.te15510853610054682074.mpr (fun _ _=>by kernel_rfl)
theorem th11:St11:=PySem.W.Fast.te5240782450552466234.mpr (fun _ _=>by kernel_rfl)
theorem th12:St12:=PySem.W.Fast.te7108782601475264861.mpr (fun _ _=>by kernel_rfl)
theorem th13:St13:=PySem.W.Fast.te17593090959831443907.mpr (fun _ _=>by kernel_rfl)
theorem th14:St14:=PySem.W.Fast.te17107273594779919526.mpr (fun _ _=>by kernel_rfl)
theorem th15:St15:=PySem.W.Fast.te17243388535409573341.mpr (fun _ _=>by kernel_rfl)
theorem th16:St16:=PySem.W.Fast.te14404611098126276643.mpr (fun _ _=>by kernel_rfl)
theorem th17:St17:=PySem.W.Fast.te5912113124307076037.mpr (fun _ _=>by kernel_rfl)
theorem th18:St18:=PySem.W.Fast.te9202431027644133851.mpr (fun _ _=>by kernel_rfl)
theorem th19:St19:=PySem.W.Fast.te1298850943296278361.mpr (fun _ _=>by kernel_rfl)
theorem th20:St20:=PySem.W.Fast.te423298498317574896.mpr (fun _ _=>by kernel_rfl)
theorem th21:St21:=PySem.W.Fast.te4749471772407743023.mpr (fun _ _=>by kernel_rfl)
theorem th22:St22:=PySem.W.Fast.te18414147907704405220.mpr (fun _ _=>by kernel_rfl)
theorem zsQ:St23f:=PySem.W.Fast.te1065193176661006034.mpr (fun _ _=>by kernel_rfl)
theorem zsE:St23t:=PySem.W.Fast.te1617264949379656403.mpr (fun _ _=>by kernel_rfl)
theorem th24:St24:=PySem.W.Fast.te5501303934203520444.mpr (fun _ _=>by kernel_rfl)
theorem th25:St25:=PySem.W.Fast.te15091059926794672290.mpr (fun _ _=>by kernel_rfl)
theorem th26:St26:=PySem.W.Fast.te18199379131982608850.mpr (fun _ _=>by kernel_rfl)
theorem th27:St27:=PySem.W.Fast.te10612502952372261059.mpr (fun _ _=>by kernel_rfl)
theorem th28:St28:=PySem.W.Fast.te13313099552810353380.mpr (fun _ _=>by kernel_rfl)
theorem thZ:StZ:=PySem.W.Fast.te16988565736444548789.mpr (fun _=>by kernel_rfl)
theorem thA:StA:=PySem.W.Fast.te17744963595637626835.mpr (fun _ _=>by kernel_rfl)
theorem thC:StC:=PySem.W.Fast.te1647357278597937641.mpr (fun _ _=>by kernel_rfl)
theorem thB0:StB0:=PySem.W.Fast.te16712540127745682568.mpr (fun _ _=>by kernel_rfl)
theorem thB1:StB1:=PySem.W.Fast.te9537947621804818233.mpr (fun _ _=>by kernel_rfl)
theorem thB2:StB2:=PySem.W.Fast.te6993315812243800469.mpr (fun _ _=>by kernel_rfl)
theorem thB3:StB3:=PySem.W.Fast.te11528826059950916358.mpr (fun _ _=>by kernel_rfl)
theorem thB4:StB4:=PySem.W.Fast.te10105630229643876845.mpr (fun _ _=>by kernel_rfl)
theorem thB5:StB5:=PySem.W.Fast.te14736738506286536821.mpr (fun _ _=>by kernel_rfl)
theorem thB6:StB6:=PySem.W.Fast.te7690871981798463819.mpr (fun _ _=>by kernel_rfl)
theorem thB7:StB7:=PySem.W.Fast.te7594569300429222660.mpr (fun _ _=>by kernel_rfl)
theorem thB8:StB8:=PySem.W.Fast.te15082058975717902005.mpr (fun _ _=>by kernel_rfl)
theorem th23:∀ (w:PySem.World) (os:OsState),segRunT treeTable PySem.Challenge.pw_fenlevel_k25_marks_and_hands w 11 (some (.ref 6)) 1 155 (sB21 w os) (piecesOf ((bE.drop 52).take 1) eN cB ⟨146,0,150,44⟩ fB) = some (.next,sB22 w os,cB,⟨151,0,151,7⟩):=fun w=>byRow2 "special-get-raises" (P:=fun w=>∀ os:OsState,segRunT treeTable PySem.Challenge.pw_fenlevel_k25_marks_and_hands w 11 (some (.ref 6)) 1 155 (sB21 w os) (piecesOf ((bE.drop 52).take 1) eN cB ⟨146,0,150,44⟩ fB) = some (.next,sB22 w os,cB,⟨151,0,151,7⟩)) (fun w=>zsQ w) (fun w=>zsE w) w
theorem gr {tb:String->Option Builtin} {p:Program} {w:PySem.World} {n₀:Nat} {ann:Option Value} {env:PySem.Env} {q:Pos} {n N:Nat} {s s' r:Shared} {c:Code} {pos p':Pos} (l:List Stmt) (a k:Nat) (h:segRun tb p w n₀ ann 1 n s (piecesOf ((l.drop a).take k) env c pos [topFrame q]) = some (.next,s',c,p'))
  (z:topRun tb p w n₀ ann N s' (restOf (l.drop (a + k)) env c p' [topFrame q]) = some r):topRun tb p w n₀ ann (n + N) s (restOf (l.drop a) env c pos [topFrame q]) = some r:=by
 have:=piece_app (rest:=(l.drop a).drop k) h (by rw [List.drop_drop];exact z)
 rwa [List.take_append_drop] at this
theorem zpG:bE.drop 82 = []:=by kernel_rfl
theorem zqB:∀ (w:PySem.World) (os:OsState),topRun treeTable PySem.Challenge.pw_fenlevel_k25_marks_and_hands w 11 (some (.ref 6)) (12 + (1 + (225 + (214 + (214 + (214 + (214 + (214 + (214 + (214 + (214 + (214 + (214 + (214 + (214 + (214 + (214 + (214 + (214 + (214 + (389 + (398 + (177 + (155 + (67 + (1207 + (377 + (337 + 2)))))))))))))))))))))))))))) ⟨PySem.W.boot_heap w.params,Array.mk [],PySem.W.boot_drawn,PySem.W.boot_toks,os⟩ (topStub PySem.Challenge.pw_fenlevel_k25_marks_and_hands) = some ⟨hE w.params,#[],{},1215,os⟩:=fun w os=>
 go_top (th0 w os) (piece_block (th1 w os) (gr bE 0 3 (YAQ (th2 w os)) (gr bE 3 1 (YAQ (th3 w os)) (gr bE 4 1 (YAQ (th4 w os)) (gr bE 5 1 (YAQ (th5 w os)) (gr bE 6 1 (YAQ (th6 w os)) (gr bE 7 1 (YAQ (th7 w os)) (gr bE 8 1 (YAQ (th8 w os)) (gr bE 9 1 (YAQ (th9 w os)) (gr bE 10 1 (YAQ (th10 w os)) (gr bE 11 1 (YAQ (th11 w os)) (gr bE 12 1 (YAQ (th12 w os)) (gr bE 13 1 (YAQ (th13 w os)) (gr bE 14 1 (YAQ (th14 w os)) (gr bE 15 1 (YAQ (th15 w os)) (gr bE 16 1 (YAQ (th16 w os)) (gr bE 17 1 (YAQ (th17 w os)) (gr bE 18 1 (YAQ (th18 w os)) (gr bE 19 1 (YAQ (th19 w os)) (gr bE 20 9 (YAQ (th20 w os)) (gr bE 29 17 (YAQ (th21 w os)) (gr bE 46 6 (YAQ (th22 w os)) (gr bE 52 1 (YAQ (th23 w os)) (gr bE 53 3 (YAQ (th24 w os)) (gr bE 56 1 (YAQ (th25 w os)) (gr bE 57 14 (YAQ (th26 w os)) (gr bE 71 11 (YAQ (th27 w os)) (by rw [zpG];exact piece_nil (th28 w os)))))))))))))))))))))))))))))
theorem left_o:LeftO PySem.Challenge.pw_fenlevel_k25_marks_and_hands vw ["ACTIONS"] xT hH.obs hH.val 14014:=
 LeftO.of_pieces (boot_open (by kernel_rfl) (by kernel_rfl) (fun _=>by kernel_rfl)) thZ zqB (by kernel_rfl) fun w=>funext fun os=>looks_pair (thA w os) (looks_pair (show openSeen vw ["ACTIONS"] (importedModules (PySem.Challenge.pw_fenlevel_k25_marks_and_hands).main.body) xT true ⟨hE w.params,#[],{},1215,os⟩ = openGood vw ["ACTIONS"] from congr (congrArg Prod.mk (thB0 w os)) (congr (congrArg Prod.mk (thB1 w os)) (congr (congrArg Prod.mk (thB2 w os)) (congr (congrArg Prod.mk (thB3 w os)) (congr (congrArg Prod.mk (thB4 w os)) (congr (congrArg Prod.mk (thB5 w os)) (congr (congrArg Prod.mk (thB6 w os)) (congr (congrArg Prod.mk (thB7 w os)) (thB8 w os))))))))) (thC w os))
end
end Hd
namespace Fd
open PySem L2 Fen Hd
theorem us0 {p:List Value->Prop} (k:p []):∀ us:List Value,us.length = 0->p us
 | [],_=>k
theorem usS {p:List Value->Prop} {n:Nat} (k:∀ (a:Value) (us:List Value),us.length = n->p (a :: us)):∀ us:List Value,us.length = n + 1->p us
 | a :: us,h=>k a us (Nat.succ.inj h)
noncomputable def fdOf (P:Params) (f:Addr):FuncData:=match List.lookup f (hK P) with
 | some ⟨_,_,.func d,_⟩=>d
 | _=>fD "" (.Pass ⟨0,0,0,0⟩) "" 0 0
noncomputable def fcOf (P:Params) (f:Addr):Addr:=match (fdOf P f).code with
 | .ref c=>c
 | _=>0
noncomputable def fmOf (P:Params) (f:Addr):Value:=(fdOf P f).pyModule
noncomputable abbrev fE (P:Params) (x u:Str) (s:Stmt) (f:Addr):FuncData:=PySem.W.fnOf x u (zcd s) (zaX s) (zaj s) .none .none .none (fmOf P f) none (.ref (fcOf P f)) .none
theorem fF {P:Params} (x u:Str) (s:Stmt) (f:Addr) (l:List.lookup f (hK P) = some ⟨.type "function",none,.func (fE P x u s f),#[]⟩:=by kernel_rfl) (y:PySem.W.codeIn (hK P) (.ref (fcOf P f)) u = true:=by kernel_rfl):Fun (hK P) x u s f (fE P x u s f):=⟨⟨_,_,_,_,_,_,_,_,_,rfl,l,y⟩,by simp only [PySem.W.keepIn,l]⟩
theorem mkB {w:PySem.World} {x u:Str} {s:Stmt} {f:Addr} {ps:List Str} (F:Fun (hK w.params) x u s f (fE w.params x u s f)) (b:∀ (kV doc pm:Value) (an:Option Addr) (cdv ct:Value) (us:List Value),us.length = ps.length->bindArgs (PySem.W.fnOf x u (zcd s) (zaX s) (zaj s) .none kV doc pm an cdv ct) ⟨us,[]⟩ = pure (ps.zip us):=by (intro _ _ _ _ _ _;repeat (first | exact us0 rfl | refine usS fun _=>?_))):Binds (hK w.params) (fE w.params x u s f) ps []:=F.binds b
theorem mkC {P:Program} {w:PySem.World} {base h:Heap} {mg:Str->Option Value} (X:PySem.W.Frag.In (hK w.params) h) (G:h.Ns mainGlobals mg) {k:Nat} {ps:List Str} {sp:Sp} (x:Str) (s:Stmt) (f:Addr) (ok:∀ {fd:FuncData},Fun (hK w.params) x x s f fd->FnOk P w (hK w.params) mg base CX0 k f fd ps sp)
  (F:Fun (hK w.params) x x s f (fE w.params x x s f):=by exact fF _ _ _ _) (m:PySem.W.nsIn (hK w.params) mainGlobals x = some (some (.ref f)):=by kernel_rfl)
  (b:∀ (kV doc pm:Value) (an:Option Addr) (cdv ct:Value) (us:List Value),us.length = ps.length->bindArgs (PySem.W.fnOf x x (zcd s) (zaX s) (zaj s) .none kV doc pm an cdv ct) ⟨us,[]⟩ = pure (ps.zip us):=by (intro _ _ _ _ _ _;repeat (first | exact us0 rfl | refine usS fun _=>?_))):Cal P w (hK w.params) mg base x k ps sp:=
 Cal.of F (ok F) (YAY X G m) (F.binds b)
theorem mkX {P:Program} {w:PySem.World} {base h:Heap} {mg:Str->Option Value} (X:PySem.W.Frag.In (hK w.params) h) (G:h.Ns mainGlobals mg) {k:Nat} {ps:List Str} {sp:Sp} (x:Str) (s:Stmt) (f:Addr) (ok:∀ {fd:FuncData},Fun (hK w.params) x x s f fd->FnOk P w (hK w.params) mg base (CXN P w) k f fd ps sp)
  (F:Fun (hK w.params) x x s f (fE w.params x x s f):=by exact fF _ _ _ _) (m:PySem.W.nsIn (hK w.params) mainGlobals x = some (some (.ref f)):=by kernel_rfl)
  (b:∀ (kV doc pm:Value) (an:Option Addr) (cdv ct:Value) (us:List Value),us.length = ps.length->bindArgs (PySem.W.fnOf x x (zcd s) (zaX s) (zaj s) .none kV doc pm an cdv ct) ⟨us,[]⟩ = pure (ps.zip us):=by (intro _ _ _ _ _ _;repeat (first | exact us0 rfl | refine usS fun _=>?_))):CalX P w (hK w.params) mg base x k ps sp:=
 CalX.of F (ok F) (YAY X G m) (F.binds b)
theorem mkM {P:Program} {w:PySem.World} {base:Heap} {mg:Str->Option Value} {CX:CXT} {C:Addr} (c:Cls (hK w.params) C) {k:Nat} {ps:List Str} {sp:Sp} (x u:Str) (s:Stmt) (f:Addr) (ok:∀ {fd:FuncData},Fun (hK w.params) x u s f fd->FnOk P w (hK w.params) mg base CX k f fd ps sp)
  (m:PySem.W.findIn (hK w.params) (.ref C) x = some (some (.ref f)):=by kernel_rfl) (i:PySem.W.isFn (hK w.params) (.ref f) = true:=by kernel_rfl) (F:Fun (hK w.params) x u s f (fE w.params x u s f):=by exact fF _ _ _ _)
  (b:∀ (kV doc pm:Value) (an:Option Addr) (cdv ct:Value) (us:List Value),us.length = ps.length->bindArgs (PySem.W.fnOf x u (zcd s) (zaX s) (zaj s) .none kV doc pm an cdv ct) ⟨us,[]⟩ = pure (ps.zip us):=by (intro _ _ _ _ _ _;repeat (first | exact us0 rfl | refine usS fun _=>?_))):Met P w (hK w.params) mg base CX C x k ps sp:=
 ⟨f,_,ok F,c,⟨m,i,F.kp⟩,F.binds b⟩
abbrev aD:Ads:=⟨633,340,347,354,359,364,371,378,383,390⟩
theorem all_mk {l:PySem.W.OpenLaw} {w:PySem.World} {h:Heap} {mg:Str->Option Value} {fa:Addr} (X:PySem.W.Frag.In (hK w.params) h) (G:h.Ns mainGlobals mg) (hfa:mg "law" = some (.ref fa)) :
  ∃ fd:FuncData,(∀ (s:Shared) (v:Value),BindsTo s fd ⟨[v],[]⟩ [("_law_script",v)])/\∀ base:Heap,PySem.W.Frag.In (hK w.params) base->base.Ns mainGlobals mg->FnOk l.prog w (hK w.params) mg base CX0 10 fa fd ["_law_script"] (zls (hK w.params)):=by
 have e:=hfa.symm.trans (YAY X G (v:=.ref 785) (by kernel_rfl))
 cases e
 have Z:∀ {x:Str},PySem.W.nsIn (hK w.params) mainGlobals x = some none->mg x = none:=PySem.W.mg_none_of X G
 have T:Bt mg:=by constructor <;> exact Z (by kernel_rfl)
 have T2:Bd mg:=by constructor <;> exact Z (by kernel_rfl)
 have cls:Cls (hK w.params) aD.fen:=⟨by kernel_rfl,by kernel_rfl,by kernel_rfl,by kernel_rfl⟩
 have fc:Fc (hK w.params) mg aD:=⟨cls,(show PySem.W.findIn (hK w.params) (.ref 633) "kept" = some none by kernel_rfl),(show PySem.W.findIn (hK w.params) (.ref 633) "books" = some none by kernel_rfl),(show PySem.W.findIn (hK w.params) (.ref 633) "undone" = some none by kernel_rfl),YAY X G (by kernel_rfl)⟩
 have xh:Xh (hK w.params) mg ⟨44,56,68,80⟩:=by constructor <;> first | exact YAY X G (by kernel_rfl) | kernel_rfl
 have mgo:∀ {x:Str} {v:Value},PySem.W.nsIn (hK w.params) mainGlobals x = some (some v)->mg x = some v:=YAY X G
 have xv:mg "ValueError" = none:=Z (by kernel_rfl)
 have xk:ErrF (hK w.params) mg "FenError" NTx NSx:=zrg (fe:=31) [("BadName",44),("Taken",56),("Full",68),("NoMark",80),("NoHand",92),("Same",104),("BadRise",116),("NoRun",128),("Aside",140),("NotAside",152),("BadNumber",164),("NothingLeft",176),("Steady",188),("NoDeed",200),("Known",212),("NoFen",224),("Settled",236),("NoPage",255)] [("BadName",44),("Taken",56),("Full",68),("NoMark",80)] rfl rfl (by simp only [YAW,YAw,YBA,YBH,YCG];and_intros <;> exact mgo (by kernel_rfl)) (by simp only [YAW,YAw,YBA,YBH,YCG];and_intros <;> exact mgo (by kernel_rfl)) (mgo (by kernel_rfl)) (by simp only [YAW,YAw,YBA,YBH,YCG];and_intros <;> kernel_rfl) (by simp only [YAW,YAw,YBA,YBH,YCG];and_intros <;> first | kernel_rfl | (constructor <;> kernel_rfl))
 have g_MOST_STANDS:mg "MOST_STANDS" = some (.int 12 563):=YAY X G (by kernel_rfl)
 have g_LONGEST_NAME:mg "LONGEST_NAME" = some (.int 8 515):=YAY X G (by kernel_rfl)
 have g_LETTERS:mg "LETTERS" = some (.str "abcdefghijklmnopqrstuvwxyz" 513):=YAY X G (by kernel_rfl)
 have g_MOST_HANDS:mg "MOST_HANDS" = some (.int 10 565):=YAY X G (by kernel_rfl)
 have gA:GDict l.prog w (hK w.params) mg "ACTIONS" (kvA aD):=ztH (ps:=[("mark",709,.ref 340),("hand",710,.ref 347),("run",711,.ref 354),("strike",712,.ref 359),("mend",713,.ref 364),("settle",714,.ref 371),("aside",715,.ref 378),("heed",716,.ref 383),("allow",717,.ref 390)]) (a:=391) (n:=9) X G (by kernel_rfl) (show List.lookup 391 (hK w.params) = _ by kernel_rfl) (show GRows (hK w.params) _ (kvA aD) by unfold kvA;exact (.cons zb5 (.cons zb5 (.cons zb5 (.cons zb5 (.cons zb5 (.cons zb5 (.cons zb5 (.cons zb5 (.cons zb5 .nil)))))))))) (by decide) (by simp only [YAm,YA7];decide +kernel)
 have F:=fF (P:=w.params) "law" "law" sLaw 785
 refine ⟨fE w.params "law" "law" sLaw 785,fun s v=>.of_eq rfl,fun base _ _=>?_⟩
 have M:=@mkC l.prog w base h mg X G
 have MX:=@mkX l.prog w base h mg X G
 have MM:=@mkM l.prog w base mg
 have cB:=M "_law_box" sBox 644 fun F=>Fen.zrv F ⟨T.list,T.len,T.range⟩
 have c__law_take:=M "_law_take" zjk 651 fun F=>ziS F T
 have c__law_names:=M "_law_names" zhQ 661 fun F=>zgS T c__law_take F
 have c_empty_book:=M "empty_book" zcM 300 fun F=>zhf F
 have FI:=fF (P:=w.params) "__init__" "Fen.__init__" zbu 417
 have okI:=zf5 (P:=l.prog) (w:=w) (base:=base) aD fc c_empty_book FI
 have bI:=mkB (ps:=["self"]) FI
 have mkI:Mk (hK w.params) aD.fen 417:=⟨by kernel_rfl,by kernel_rfl,by kernel_rfl,by kernel_rfl⟩
 have c__law_model:=M "_law_model" zh1 668 fun F=>zgN F
 have F__law_same:=fF (P:=w.params) "_law_same" "_law_same" zlU 656
 have b__law_same:=mkB (ps:=["_law_found","_law_due_here"]) F__law_same
 have m__law_same:mg "_law_same" = _:=YAY X G (v:=.ref 656) (by kernel_rfl)
 have r__law_same:=ze3 (P:=l.prog) (w:=w) (base:=base) F__law_same m__law_same b__law_same T
 have c_marks_of:=M "marks_of" zdT 274 fun F=>zjj F
 have m_now:=MM (C:=aD.fen) cls "now" "Fen.now" zd4 424 fun F=>zkz aD fc F
 have m_marks:=MM (C:=aD.fen) cls "marks" "Fen.marks" zcP 529 fun F=>zhu aD c_marks_of m_now F
 have m_hands:=MM (C:=aD.fen) cls "hands" "Fen.hands" zcR 536 fun F=>zid aD T m_now F
 have m_asides:=MM (C:=aD.fen) cls "asides" "Fen.asides" zch 541 fun F=>zgW aD m_now F
 have m_stands:=MM (C:=aD.fen) cls "stands" "Fen.stands" zcs 548 fun F=>zgJ aD T m_now F
 have m_allowed:=MM (C:=aD.fen) cls "allowed" "Fen.allowed" zbP 555 fun F=>zf9 aD m_now F
 have m_runs:=MM (C:=aD.fen) cls "runs" "Fen.runs" zde 562 fun F=>ziN aD T m_now F
 have c_rows_that_count:=M "rows_that_count" zbg 403 fun F=>zep F
 have m_counting:=MM (C:=aD.fen) cls "counting" "Fen.counting" zbx 567 fun F=>zfv aD m_now c_rows_that_count F
 have m_deeds:=MM (C:=aD.fen) cls "deeds" "Fen.deeds" zcO 515 fun F=>zhC aD T fc F
 have c__law_seen:=M "_law_seen" zlJ 716 fun F=>zif aD m_marks m_hands m_asides m_stands m_allowed m_runs m_counting m_deeds F
 have c__law_marks:=M "_law_marks" ziw 685 fun F=>zgL F
 have c__law_counted:=M "_law_counted" zed 690 fun F=>zfC F
 have c__law_due:=M "_law_due" sDue 721 fun F=>ziP T c__law_marks c__law_counted F
 have c__law_right:=M "_law_right" zhX 728 fun F=>zhb aD (Cal.of F__law_same (r__law_same 6) m__law_same b__law_same) c__law_seen c__law_due F
 have c__law_turns:=M "_law_turns" ziz 673 fun F=>zhg T F
 have c__law_run_word:=M "_law_run_word" zd6 759 fun F=>zfd T c__law_turns F
 have c__law_named:=M "_law_named" zhZ 745 fun F=>zgE T F
 have c__law_new_word:=M "_law_new_word" zdX 752 fun F=>ze9 T c__law_turns c__law_named F
 have c__law_word:=M "_law_word" zlC 764 fun F=>zic T c__law_turns c__law_run_word c__law_new_word F
 have c__law_place:=M "_law_place" zhN 680 fun F=>zgK c__law_turns F
 have c__law_done:=M "_law_done" zmS 695 fun F=>zit T T2 c__law_turns c__law_place F
 have c_with_entry:=M "with_entry" zcK 307 fun F=>zgQ T2 F
 have c_turns_of:=M "turns_of" zdV 279 fun F=>ziV T F
 have c_next_stand:=M "next_stand" zcL 286 fun F=>zgH c_turns_of F
 have c_with_new_stand:=MX "with_new_stand" zby 314 fun F=>zev T g_MOST_STANDS xh c_with_entry c_next_stand F
 have c_is_made_of:=M "is_made_of" zdj 262 fun F=>zg5 T F
 have c_is_name:=M "is_name" zf3 269 fun F=>zkJ g_LETTERS g_LONGEST_NAME c_is_made_of F
 have F_mark_entered:=fF (P:=w.params) "mark_entered" "mark_entered" zbM 340
 have o_mark_entered:=zfV (P:=l.prog) (w:=w) (base:=base) xh c_turns_of c_with_new_stand c_is_name F_mark_entered
 have b_mark_entered:=mkB (ps:=["book","row"]) F_mark_entered
 have F_hand_entered:=fF (P:=w.params) "hand_entered" "hand_entered" zbW 347
 have o_hand_entered:=zfM (P:=l.prog) (w:=w) (base:=base) T g_MOST_HANDS xh c_with_entry c_is_name F_hand_entered
 have b_hand_entered:=mkB (ps:=["book","row"]) F_hand_entered
 have c_last_stand:=MX "last_stand" zcQ 293 fun F=>zgP xh c_turns_of F
 have F_mark_settled:=fF (P:=w.params) "mark_settled" "mark_settled" zbV 371
 have o_mark_settled:=zfx (P:=l.prog) (w:=w) (base:=base) c_with_new_stand c_last_stand F_mark_settled
 have b_mark_settled:=mkB (ps:=["book","row"]) F_mark_settled
 have tb:TabP l.prog w (hK w.params) mg base 4 2 (tabA aD):=by unfold tabA;exact (TabP.cons F_mark_entered o_mark_entered b_mark_entered (TabP.cons F_hand_entered o_hand_entered b_hand_entered (TabP.cons F_mark_settled o_mark_settled b_mark_settled TabP.nil)))
 have c_book_behind:=MX "book_behind" zb9 398 fun F=>zgc aD gA tb F
 have m_deed:=MM (C:=aD.fen) cls "deed" "Fen.deed" zdk 494 fun F=>zi0 aD fc m_now c_book_behind F
 have c__law_due_told:=M "_law_due_told" zee 702 fun F=>zfc T F
 have c__law_step:=MX "_law_step" zlF 709 fun F=>zh0 aD (Cal.of F__law_same (r__law_same 6) m__law_same b__law_same) c__law_done m_deed c__law_due_told F
 have F__law_kinds:=fF (P:=w.params) "_law_kinds" "_law_kinds" zhw 733
 have b__law_kinds:=mkB (ps:=["_law_e"]) F__law_kinds
 have m__law_kinds:mg "_law_kinds" = _:=YAY X G (v:=.ref 733) (by kernel_rfl)
 have c__law_kinds:=zg8 (P:=l.prog) (w:=w) (base:=base) T xk xv F__law_kinds m__law_kinds b__law_kinds
 have c__law_tried:=MX "_law_tried" zhP 740 fun F=>zgV aD xk m_deed c__law_kinds F
 have c__law_judged:=MX "_law_judged" zfn 771 fun F=>zgb aD (Cal.of F__law_same (r__law_same 6) m__law_same b__law_same) c__law_word c__law_step c__law_tried F
 have c__law_bent_deed:=M "_law_bent_deed" zdb 778 fun F=>zeO T c__law_take c__law_marks F
 exact zsn aD T fc mkI okI bI c__law_take c__law_names c__law_model c__law_right c__law_judged c__law_bent_deed F cB (zpR aD)
theorem walk {l:PySem.W.OpenLaw} {q:Program} {loose:List Str} {XP:(Str->Option Value)->Heap->Prop} {YP:PySem.World->Heap->Prop} {d:DefRec} {K:Params->PySem.W.Frag} (hn:l.most = some 63) (hdf:d.params.defaults = [])
  (hY:∀ (w:PySem.World) (h:Heap),YP w h->(K w.params).In h)
  (F:∀ (w:PySem.World) (mg:Str->Option Value) (fa:Addr) (h:Heap),(K w.params).In h->h.Ns mainGlobals mg->mg d.name = some (.ref fa) ->
   ∃ fd:FuncData,(∀ (s:Shared) (u:Value),BindsTo s fd ⟨[u],[]⟩ [("_law_script",u)])/\∀ base:Heap,(K w.params).In base->base.Ns mainGlobals mg->FnOk l.prog w (K w.params) mg base CX0 10 fa fd ["_law_script"] (zls (K w.params))) :
  PySem.W.WalkO q loose XP YP l.row.toRowW d [] (fun f vs=>PySem.call f vs):=
 L2.zp5 (n:=63) (k:=10) (x := "_law_script") (CX:=fun _=>CX0) (sp:=fun w=>zls (K w.params)) hn (by decide) hdf ⟨rfl,by decide,by decide⟩ hY F (fun _ _ a ns hl _ hS=>⟨a,ns,rfl,hS,hl,fun _=>rfl⟩) fun _ _ _ _ _ z=>z
end Fd
open PySem PySem.W PyProof.Rows
set_option maxRecDepth 100000 in
set_option maxHeartbeats 0 in
theorem PySem.Challenge.cw_fenlevel_k25_marks_and_hands_holds : PySem.Challenge.rw_fenlevel_k25_marks_and_hands.Holds := by
 w_on;o_law
 refine holds_open (q:=Hd.vw) (loose:=["ACTIONS"]) (Xt:=Hd.xT) (XP:=XL Hd.vw []) (Yf:=Hd.hH.obs) (Ya:=Hd.hH.val) (YP:=Hd.hH.says) (N:=14014) Hd.left_o Hd.hH.of Hd.hH.keeps (fun s e=>xl_of s (YCf.mp e).1) XL.keeps (by rfl) (by rfl) (by rfl) (fun s e=>recFacts_of (YCf.mp e).2) (by rfl) (by first | assumption | decide +kernel) (by decide +kernel) ⟨rfl,rfl,rfl,rfl,rfl,by decide +kernel⟩ ?hw ?hc
 (case hw=>w_witness2)
 exact Fd.walk (l:=PySem.Challenge.rw_fenlevel_k25_marks_and_hands) rfl rfl (fun w h Y=>PySem.W.kIn_of Y) (fun w mg fa h KX G hmg=>Fd.all_mk KX G hmg)
