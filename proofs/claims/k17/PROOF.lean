import PyProof.Rows.All
import Wide.All
import OpenK.AllK
import Wide.FinOn
import Lean
import PyProof.EqAt
import PyProof.EqKinds
import PyProof.TupleCall
import PyProof.SetKind
import PyProof.Rows.SortShell
import PyProof.SetRoads
import PyProof.ListNew
import PyProof.CollectWalk
import PyProof.Rows.SetFrom
import PyProof.NeKinds
import PyProof.IsiHeapPairs
import PyProof.IsiNone
import PyProof.IsiPairs
import PyProof.ZipIter
import PyProof.Draws
import PyProof.WalksMore
import PyProof.EnumMake
import PyProof.EnumFor
import PyProof.ListRange
import PyProof.RangeFor
import PyProof.DictUpdate
import PyProof.DictItemsLoops
import PyProof.DictWalks
import PyProof.DictIter
import PyProof.P3Eq
import PyProof.P3In
import PyProof.NeData
import KE.KSortAsk
import KE.KSortTup
import PyProof.TupleKey
import PyProof.DictFindH
import PyProof.MeetsDict
import PySem.Challenge.RW_fenlevel_k17_whole_sure_goes_on
abbrev oS:=PySem.W.Frag
set_option compiler.extract_closed false
noncomputable section
set_option linter.all false
def YAa:=@PySem.wpAny_bind
def YAb:=@PySem.wpAny_pure
def YAc:=@List.length_map
def YAd:=@List.getElem?_eq_getElem
def YAe:=@PySem.Heap.get?_push_of_some
def YAf:=@List.map_cons
def YAg:=@List.mem_singleton
def YAh:=@List.getElem?_eq_some_iff
def YAi:=@List.mem_cons_self
def YAj:=@List.getElem?_set_ne
def YAk:=@List.getElem?_map
def YAl:=@Nat.le_refl
def YAm:=@List.mem_append
def YAn:=@List.mem_cons_of_mem
def YAo:=@PySem.Heap.get?_push_size
def YAp:=@PySem.Heap.lt_size
def YAq:=@List.mem_append_right
def YAr:=@List.getElem?_set_self
def YAs:=@List.mem_cons
def YAt:=@Nat.ne_of_lt
def YAu:=@Nat.lt_of_lt_of_le
def YAv:=@List.map_append
def YAw:=@List.length_append
def YAx:=@List.mem_append_left
def YAy:=@Bool.false_ne_true
def YAz:=@List.size_toArray
def YAA:=@List.mem_of_getElem?
def YAB:=@List.mem_map
def YAC:=@List.getD_eq_getElem?_getD
def YAD:=@Nat.zero_le
def YAE:=@Int.toNat_natCast
def YAF:=@List.map_map
def YAG:=@PySem.wpAny_newObj_type
def YAH:=@List.append_assoc
def YAI:=@PySem.Heap.get?_update_self
def YAJ:=@List.drop_eq_getElem_cons
def YAK:=@Bool.false_eq_true
def YAL:=@PySem.sizeLine_eq
def YAM:=@Array.getElem?_eq_getElem
def YAN:=@PySem.wpAny_call_entry
def YAO:=@List.mem_map_of_mem
def YAP:=@List.append_nil
def YAQ:=@PyProof.Rows.slot_tuple_getitem
def YAR:=@PySem.wpAny_holding
def YAS:=@decide_eq_true
def YAT:=@List.not_mem_nil
def YAU:=@PySem.Heap.get?_update_other
def YAV:=@of_decide_eq_true
def YAW:=@List.mem_range
def YAX:=@Bool.and_eq_true
def YAY:=@decide_eq_false
def YAZ:=@Nat.le_trans
def YA0:=@Nat.ne_of_gt
def YA1:=@List.pairwise_iff_getElem
def YA2:=@List.length_cons
def YA3:=@List.mem_filter
def YA4:=@List.getElem?_of_mem
def YA5:=@PySem.wpAny_mono
def YA6:=@PySem.wpAny_callSpecial?_slot
def YA7:=@List.map_congr_left
def YA8:=@Nat.lt_succ_of_lt
def YA9:=@Nat.lt_irrefl
def YBa:=@List.filterMap_cons
def YBb:=@List.nodup_cons
def YBc:=@List.nil_append
def YBd:=@PySem.PassesOwn.never
def YBe:=@List.length_range
def YBf:=@List.replicate_succ
def YBg:=@Int.toNat_of_nonneg
def YBh:=@List.contains_iff_mem
def YBi:=@List.filter_cons
def YBj:=@PySem.wpAny_standAt
def YBk:=@PySem.wpAny_setField_rec
def YBl:=@PySem.F.slot_dict_valueiterator_next
def YBm:=@PySem.Heap.size_push
def YBn:=@if_false
def YBo:=@List.lookup_cons
def YBp:=@Nat.lt_succ_self
def YBq:=@List.drop_length
def YBr:=@PySem.mem_of_lookup
def YBs:=@PySem.Heap.SameBut.update
def YBt:=@PySem.F.slot_list_append
def YBu:=@PySem.F.type_list_append
def YBv:=@PySem.F.slot_dict_keyiterator_next
def YBw:=@List.find?_cons
def YBx:=@PySem.wpAny_specialOf
def YBy:=@PySem.F.called_set
def YBz:=@PySem.wpAny_updateSeq
def YBA:=@PySem.F.plainAttrs_list
def YBB:=@Int.emod_lt_of_pos
def YBC:=@List.length_take
def YBD:=@PySem.wpAny_isInstance
def YBE:=@Array.getElem?_eq_some_iff
def YBF:=@List.getElem?_append_left
def YBG:=@PySem.wpAny_typeOf
def YBH:=@List.length_set
def YBI:=@Array.getElem?_toList
def YBJ:=@List.pairwise_cons
def YBK:=@List.take_length
def YBL:=@PySem.wpAny_typeNameOfWhole_valiter
def YBM:=@PySem.wpAny_typeNameOfWhole_keyiter
def YBN:=@List.pairwise_append
def YBO:=@List.getElem?_replicate
def YBP:=@PySem.F.plainAttrs_dict
def YBQ:=@PyProof.Rows.F.plain_set_update_loop
def YBR:=@PySem.wpAny_truthy_bool
def YBS:=@List.flatten_cons
def YBT:=@PySem.wpAny_rule
def YBU:=@List.nodup_append
def YBV:=@PySem.wpAny_dictEntries
def YBW:=@Array.length_toList
def YBX:=@PySem.codeAny_builtin
def YBY:=@Int.emod_nonneg
def YBZ:=@PySem.Calls.callWith_builtin
def YB0:=@PyProof.Rows.boot_list
def YB1:=@List.getElem?_append_right
def YB2:=@List.any_eq_true
def YB3:=@List.all_eq_true
def YB4:=@List.mem_flatMap
def YB5:=@List.any_cons
def YB6:=@List.take_append_drop
def YB7:=@or_false
def YB8:=@List.getElem?_eq_none
def YB9:=@List.length_filter_le
def YCa:=@List.filter_append
def YCb:=@List.nodup_nil
def YCc:=@List.getElem?_eq_none_iff
def YCd:=@PySem.F.plain_extend_loop
def YCe:=@Bool.and_eq_true_iff
def YCf:=@PySem.wpAny_passesOwn
def YCg:=@PySem.wpAny_pyIter_list
def YCh:=@List.getElem?_take_of_lt
def YCi:=@PySem.F.args_tuple_add_2
def YCj:=@decide_eq_true_eq
def YCk:=@PySem.wpAny_comprehension_free
def YCl:=@List.flatMap_cons
def YCm:=@beq_eq_false_iff_ne
def YCn:=@PySem.F.entry_tuple_add
def YCo:=@List.take_succ_cons
def YCp:=@List.getElem?_cons_succ
def YCq:=@PySem.W.mg_of
def YCr:=@PySem.wpAny_askSetting
def YCs:=@List.getElem_mem
def YCt:=@PySem.F.slot_tuple_add
def YCu:=@PySem.tupleKind_room_in1
def YCv:=@PyProof.Rows.callWith_type1
def YCw:=@Bool.eq_iff_iff
def YCx:=@PySem.wpAny_dictEpoch
def YCy:=@PySem.wpAny_pyIter_slot
def YCz:=@PySem.Calls.evalArgs_plain
def YCA:=@PySem.codeAny_extend_loopS
def YCB:=@PySem.wpAny_fieldsOf
def YCC:=@PySem.wpAny_seqItems
def YCD:=@List.length_drop
def YCE:=@List.getElem_map
def YCF:=@List.length_reverse
def YCG:=@PyProof.Rows.boot_sorted
def YCH:=@PySem.Calls.spliced_cons
def YCI:=@PySem.wpAny_attempt
def YCJ:=@PySem.plainId_quiet
def YCK:=@List.range_succ
def YCL:=@PySem.Obj.data_mapFields
def YCM:=@List.length_pos_of_mem
def YCN:=@List.range_succ_eq_map
def YCO:=@List.take_of_length_le
def YCP:=@PySem.wpAny_field
def YCQ:=@bne_self_eq_false
def YCR:=@PySem.intKind_is
def YCS:=@PySem.F.slot_tuple_hash
def YCT:=@PySem.F.slot_dict_get
def YCU:=@PySem.wpAny_notOrdered_dict
def YCV:=@PySem.wpAny_isOneOf_valiter
def YCW:=@List.getElem_inj
def YCX:=@PySem.noFill_tuple_add
def YCY:=@Option.bind_some
def YCZ:=@PySem.wpAny_newFunctionEnv
def YC0:=@Array.getElem_toList
def YC1:=@PySem.Around.under_plainId
def YC2:=@Nat.add_le_add_right
def YC3:=@PySem.Obj.data_mapDictKeys
def YC4:=@List.mem_of_mem_take
def YC5:=@Bool.or_false
def YC6:=@List.sum_cons
def YC7:=@PySem.wpAny_execs_nil
def YC8:=@PyProof.Rows.entry_tuple_getitem
def YC9:=@List.length_nil
def YDa:=@PySem.codeAny_of_tree
def YDb:=@PySem.wpAny_setEntries_of
def YDc:=@List.filter_eq_self
def YDd:=@List.flatMap_append
def YDe:=@List.length_pos_iff
def YDf:=@Nat.le_of_lt
def YDg:=@PySem.codeAny_mono
def YDh:=@PySem.wpAny_Call_Name_kw
def YDi:=@PyProof.Rows.args_tuple_getitem
def YDj:=@List.map_nil
def YDk:=@PySem.Code.quiet_builtin
def YDl:=@Array.forIn_toList
def YDm:=@PyProof.Rows.slicePart_none
def YDn:=@PySem.wpAny_runValue
def YDo:=@PySem.boot_len
def YDp:=@PySem.wpAny_setField
def YDq:=@PySem.wpAny_assign_Name
def YDr:=@PySem.Calls.spliced_nil
def YDs:=@PySem.wpAny_sequenceKey
def YDt:=@Option.isSome_map
def YDu:=@PySem.wpAny_Call_method
def YDv:=@Array.toList_push
def YDw:=@PySem.fits_of_scanBound
def YDx:=@List.reverse_cons
def YDy:=@Option.some.injEq
def YDz:=@Nat.le_succ_of_le
def YDA:=@List.take_add_one
def YDB:=@PySem.seq_tuple_add
def YDC:=@List.all_cons
def YDD:=@PySem.wpAny_of_eq
def YDE:=@PySem.wpAny_newList
def YDF:=@Nat.le_of_not_lt
def YDG:=@PySem.wpAny_Dict_empty
def YDH:=@List.ext_getElem
def YDI:=@List.mem_reverse
def YDJ:=@List.cons_append
def YDK:=@List.map_flatMap
def YDL:=@PySem.wpAny_forIn_list
def YDM:=@List.of_mem_zip
def YDN:=@PySem.concat_meets
def YDO:=@if_true
def YDP:=@List.foldl_cons
def YDQ:=@PySem.codeAny_loop
def YDR:=@Int.ne_of_lt
def YDS:=@List.any_map
def YDT:=@Option.map_some
def YDU:=@List.filter_nil
def YDV:=@Int.ediv_nonneg
def YDW:=@PySem.isSubtype_type
def YDX:=@PySem.entryFor_alias
def YDY:=@PySem.isSubtype_stop
def YDZ:=@PySem.wpAny_noted
def YD0:=@PySem.ItemsOf.nil
set_option Elab.async false
set_option linter.all false
set_option maxRecDepth 100000
namespace L2
open PySem PySem.Spec PyProof.Rows
abbrev Key:=Sum Int Str
def keyIs:Key->Value->Bool
 | .inl k,v=>Value.isInt k v
 | .inr x,v=>Value.isStrOf x v
def keyH (w:World):Key->Int
 | .inl k=>hashInt k
 | .inr x=>hashStr w x
def zaE:∀ {k:Key} {v:Value},keyIs k v = true->(∃ i t,k = Sum.inl i/\v = Value.int i t)\/(∃ x t,k = Sum.inr x/\v = Value.str x t)
 | .inl i,v,h=>by
  obtain ⟨t,e⟩:=Value.isInt_shape (k:=i) (v:=v) h
  exact .inl ⟨i,t,rfl,e⟩
 | .inr x,v,h=>by
  obtain ⟨t,e⟩:=Value.isStrOf_shape (x:=x) (v:=v) h
  exact .inr ⟨x,t,rfl,e⟩
def zju (i:Int) (t:Tok):keyIs (.inl i) (.int i t) = true:=by simp [keyIs,Value.isInt]
def zje (x:Str) (t:Tok):keyIs (.inr x) (.str x t) = true:=by simp [keyIs,Value.isStrOf]
def zo7 (a b:Int):decide ((Sum.inl a:Key) = Sum.inl b) = (a == b):=by
 by_cases e:a = b
 .subst e;simp
 .have h:¬ (Sum.inl a:Key) = Sum.inl b:=fun q=>e (Sum.inl.inj q)
  rw [YAY h]
  exact (YCm.mpr e).symm
def znY (a b:Str):decide ((Sum.inr a:Key) = Sum.inr b) = decide (a = b):=by
 by_cases e:a = b
 .subst e;simp
 .have h:¬ (Sum.inr a:Key) = Sum.inr b:=fun q=>e (Sum.inr.inj q)
  rw [YAY h,YAY e]
def znS (a:Int) (b:Str):decide ((Sum.inl a:Key) = Sum.inr b) = false:=YAY (fun q=>nomatch q)
def zou (a:Str) (b:Int):decide ((Sum.inr a:Key) = Sum.inl b) = false:=YAY (fun q=>nomatch q)
noncomputable def zax (prog:Program) (w:World):PySem.KeyKind prog w Key where
 is:=keyIs
 hash:=keyH w
 inj:=fun v a b ha hb=>by
  rcases zaE ha with ⟨i,t,rfl,rfl⟩ | ⟨x,t,rfl,rfl⟩
  .rcases zaE hb with ⟨j,u,rfl,e⟩ | ⟨y,u,rfl,e⟩
   .injection e with e1 _;rw [e1]
   .exact nomatch e
  .rcases zaE hb with ⟨j,u,rfl,e⟩ | ⟨y,u,rfl,e⟩
   .exact nomatch e
   .injection e with e1 _;rw [e1]
 byValue:=fun k v h=>by
  rcases zaE h with ⟨i,t,rfl,rfl⟩ | ⟨x,t,rfl,rfl⟩ <;> rfl
 pyHash:=fun hv h=>by
  rcases zaE hv with ⟨i,t,rfl,rfl⟩ | ⟨x,t,rfl,rfl⟩
  .exact wpAny_pyHash_int h
  .exact wpAny_pyHash_str h
 eqBool:=fun hu hv h=>by
  rcases zaE hu with ⟨i,t,rfl,rfl⟩ | ⟨x,t,rfl,rfl⟩
  .rcases zaE hv with ⟨j,u,rfl,rfl⟩ | ⟨y,u,rfl,rfl⟩
   .rw [zo7] at h;exact wpAny_eqBool_int h
   .rw [znS] at h;exact SeqAt.EqAt.int_str i t y u _ _ _ _ h
  .rcases zaE hv with ⟨j,u,rfl,rfl⟩ | ⟨y,u,rfl,rfl⟩
   .rw [zou] at h;exact SeqAt.EqAt.str_int x t j u _ _ _ _ h
   .rw [znY] at h;exact wpAny_eqBool_str h
 «strs»:=fun k x t v h=>by
  rcases zaE h with ⟨i,u,rfl,e⟩ | ⟨y,u,rfl,e⟩
  .exact nomatch e
  .injection e with e1 _
   subst e1
   cases v <;> rfl
def zhp (prog:Program) (w:World) (i:Int) (t:Tok):(zax prog w).is (.inl i) (.int i t) = true:=zju i t
def zhz (prog:Program) (w:World) (x:Str) (t:Tok):(zax prog w).is (.inr x) (.str x t) = true:=zje x t
inductive V where
 | non | bl (b:Bool) | int (i:Int) | str (x:Str) | byt (b:Array UInt8) | flt (b:UInt64) | ref (a:Addr) | ty (n:String)
 deriving DecidableEq
def RelV:V->Value->Prop
 | .non,u=>u = Value.none
 | .bl b,u=>u = Value.bool b
 | .int i,u=>∃ t,u = Value.int i t
 | .str x,u=>∃ t,u = Value.str x t
 | .byt b,u=>∃ t,u = Value.bytes b t
 | .flt b,u=>∃ t,u = Value.float b t
 | .ref a,u=>u = Value.ref a
 | .ty n,u=>u = Value.type n
abbrev Vals:List V->List Value->Prop:=Paired RelV
theorem Vals.length {xs:List V} {us:List Value} (r:Vals xs us):xs.length = us.length:=Paired.length r
theorem Vals.get:∀ {xs:List V} {us:List Value} {i:Nat} {x:V},Vals xs us->xs[i]? = some x->∃ u,us[i]? = some u/\RelV x u
 | _,_,_,_,.nil,e=>by simp at e
 | _,_,0,_,.cons r _,e=>by simp at e;subst e;exact ⟨_,rfl,r⟩
 | _,_,i + 1,x,.cons _ t,e=>by
  obtain ⟨u,h1,h2⟩:=Vals.get (i:=i) (x:=x) t (by simpa using e)
  exact ⟨u,by simpa using h1,h2⟩
theorem Vals.set  (r:RelV x u):∀ {xs:List V} {us:List Value} (i:Nat),Vals xs us->Vals (xs.set i x) (us.set i u)
 | _,_,_,.nil=>.nil
 | _,_,0,.cons _ t=>.cons r t
 | _,_,i + 1,.cons q t=>.cons q (Vals.set r i t)
theorem Vals.append:∀ {xs ys:List V} {us ws:List Value},Vals xs us->Vals ys ws->Vals (xs ++ ys) (us ++ ws)
 | _,_,_,_,.nil,s=>s
 | _,_,_,_,.cons r t,s=>.cons r (Vals.append t s)
theorem Vals.take:∀ {xs:List V} {us:List Value} (n:Nat),Vals xs us->Vals (xs.take n) (us.take n)
 | _,_,0,_=>.nil
 | _,_,_ + 1,.nil=>.nil
 | _,_,n + 1,.cons r t=>.cons r (Vals.take n t)
theorem Vals.drop:∀ {xs:List V} {us:List Value} (n:Nat),Vals xs us->Vals (xs.drop n) (us.drop n)
 | _,_,0,r=>r
 | _,_,_ + 1,.nil=>.nil
 | _,_,n + 1,.cons _ t=>Vals.drop n t
def RelO:Option V->Option Value->Prop
 | some v,some u=>RelV v u
 | none,none=>True
 | _,_=>False
def KV {κ:Type}:List (κ × V)->List (κ × Value)->Prop:=Paired fun (p:κ × V) (q:κ × Value)=>p.1 = q.1/\RelV p.2 q.2
def kV:Key->V
 | .inl i=>.int i
 | .inr x=>.str x
inductive HO where
 /-- a list -/
 | lst (xs:List V)
 /-- a tuple (never changes) -/
 | tup (xs:List V)
 /-- a dict whose keys are ints and texts;one whose keys are tuples of ints and texts (the empty one is both) -/
 | dK (kvs:List (Key × V)) | dT (kvs:List (List Key × V))
 /-- a set of ints: its members,its size -/
 | set (S:Int->Bool) (n:Nat)
 /-- an instance of the class at C,its dict at dx,its attributes -/
 | ins (C dx:Addr) (fs:List (Str × V))
 /-- the dict of the instance at x -/
 | own (x:Addr)
 /-- the dict of an exception -/
 | xd (fs:List (Str × V))
 /-- a bound method,f of x -/
 | met (f x:Addr)
 /-- a range object lo,lo + 1,.. below hi -/
 | rng (lo hi:Int)
 /-- a thing that is known to the object (the script;a dict while a loop walks it): read,never written while it is so -/
 | frz (o:Obj) (u:HO)
 /-- a code object's table -/
 | tbl (ps:Array Value)
 /-- any oJ thing,by what is true of its one object (a def of one's own: SetO a S n:=HO.ext fun h=>..) -/
 | ext (φ:Heap->Prop)
abbrev Hp:=Addr->Option HO
def upd (H:Hp) (a:Addr) (o:HO):Hp:=fun b=>if b = a then some o else H b
def zac  : upd H a o a = some o:=by unfold upd;rw [if_pos rfl]
def zae  (h:b ≠ a):upd H a o b = H b:=by unfold upd;rw [if_neg h]
def znL  : upd (upd H a o) a u = upd H a u:=by
 funext b;unfold upd;split <;> rfl
def zpS {H:Hp} {a b:Addr} {o u:HO} (h:H a = some o) (h':H b = some u) (d:o ≠ u):a ≠ b:=by
 intro e;subst e;rw [h] at h';exact d (Option.some.inj h')
def zad {H:Hp} {a b:Addr} {o:HO} (h:H a = some o) (h':H b = none):a ≠ b:=by
 intro e;subst e;rw [h] at h';cases h'
section
variable (P:Program) (w:World)
noncomputable def ObjOk (H:Hp) (h:Heap) (a:Addr):HO->Prop
 | .lst xs=>xs.length <= sizeLine/\∃ (its:List Value) (n:Nat),Vals xs its/\h.get? a = some { cls:=.type "list",data:=.seq its.toArray n }
 | .tup xs=>xs.length <= sizeLine/\∃ its:List Value,Vals xs its/\IsTup h a its.toArray
 | .dK kvs=>kvs.length <= sizeLine/\(a == sysModules) = false/\∃ vs,KV kvs vs/\h.DictOf (zax P w) a vs
 | .dT kvs=>kvs.length <= sizeLine/\(a == sysModules) = false/\∃ xs:List (List Key × Addr × Value),
   Paired (fun (p:List Key × V) (q:List Key × Addr × Value)=>p.1 = q.1/\H q.2.1 = some (.tup (p.1.map kV))/\RelV p.2 q.2.2) kvs xs /\
   ∃ o es ep,h.get? a = some o/\o.ExactDict/\o.data = .dict es ep/\es.toList = xs.map (entryOfKey (tupleKind (zax P w)))/\(xs.map (·.1)).Nodup
 | .set S n=>h.SetOf (intKind P w) a S n
 | .ins C dx fs=>H dx = some (.own a)/\fs.length <= 1000/\dx ≠ a/\h.get? a = some (PySem.W.instObj C dx) /\
   ∃ mA,h.Ns1 dx mA/\(∀ f,RelO (fs.lookup f) (mA f))/\PySem.Within mA (fs.map (·.1))
 | .own _=>∃ o,h.get? a = some o
 | .xd fs=>∃ mA,h.Ns1 a mA/\∀ f,RelO (fs.lookup f) (mA f)
 | .rng lo hi=>∃ t u v,h.get? a = some { cls:=.type "range",data:=.fields #[.int lo t,.int hi u,.int 1 v] }
 | .frz o u=>h.get? a = some o/\ObjOk H h a u
 | .tbl ps=>h.get? a = some { cls:=.none,data:=.fields ps }
 | .met f x=>h.get? a = some (PySem.W.methodObj (.ref f) (.ref x))
 | .ext φ=>φ h/\(∃ o,h.get? a = some o)/\∀ h1 h2:Heap,φ h1->(∀ o,h1.get? a = some o->h2.get? a = some o)->φ h2
def HOk (H:Hp) (h:Heap):Prop:=∀ a o,H a = some o->ObjOk P w H h a o
end
section
variable {P:Program} {w:World} {H H':Hp} {h h':Heap} {a:Addr} {o:HO}
theorem ObjOk.lt (x:ObjOk P w H h a o):a < h.objs.size:=by
 cases o with
 | lst xs=>obtain ⟨_,_,_,_,e⟩:=x;exact YAp e
 | tup xs=>obtain ⟨_,_,_,p⟩:=x;exact p.lt
 | dK kvs=>obtain ⟨_,_,_,_,o,_,_,e,_⟩:=x;exact YAp e
 | dT kvs=>obtain ⟨_,_,_,_,o,_,_,e,_⟩:=x;exact YAp e
 | set S n=>obtain ⟨o,_,_,_,e,_⟩:=x;exact YAp e
 | ins C dx fs=>obtain ⟨_,_,_,e,_⟩:=x;exact YAp e
 | own y=>obtain ⟨_,e⟩:=x;exact YAp e
 | xd fs=>obtain ⟨_,⟨_,_,_,e,_⟩,_⟩:=x;exact YAp e
 | rng lo hi=>obtain ⟨_,_,_,e⟩:=x;exact YAp e
 | frz ob u=>obtain ⟨e,_⟩:=x;exact YAp e
 | tbl ps=>exact YAp (show h.get? a = some _ from x)
 | met f y=>exact YAp (show h.get? a = some _ from x)
 | ext φ=>obtain ⟨_,⟨_,e⟩,_⟩:=x;exact YAp e
theorem Paired.mapP {α β:Type} {F G:α->β->Prop}:∀ {l₁:List α} {l₂:List β},Paired F l₁ l₂->(∀ a b,F a b->G a b)->Paired G l₁ l₂
 | _,_,.nil,_=>.nil
 | _,_,.cons r t,f=>.cons (f _ _ r) (Paired.mapP t f)
def Paired.imp' {α β:Type} {F G:α->β->Prop} (f:∀ a b,F a b->G a b) {l₁:List α} {l₂:List β} (r:Paired F l₁ l₂):Paired G l₁ l₂:=Paired.mapP r f
def ObjOk.stay (x:ObjOk P w H h a o) (k:∀ b u,(b = a\/H b = some (.own a))->h.get? b = some u->h'.get? b = some u)
  (ho:∀ b,H b = some (.own a)->H' b = some (.own a)) (ht:∀ b xs,H b = some (.tup xs)->H' b = some (.tup xs)):ObjOk P w H' h' a o:=by
 induction o with
 | lst xs=>obtain ⟨z,its,n,r,e⟩:=x;exact ⟨z,its,n,r,k _ _ (.inl rfl) e⟩
 | tup xs=>obtain ⟨z,its,r,ob,e,c⟩:=x;exact ⟨z,its,r,ob,k _ _ (.inl rfl) e,c⟩
 | dK kvs=>obtain ⟨z,y,vs,r,ob,es,ep,e,c⟩:=x;exact ⟨z,y,vs,r,ob,es,ep,k _ _ (.inl rfl) e,c⟩
 | dT kvs=>
  obtain ⟨z,y,xs,r,ob,es,ep,e,c⟩:=x
  exact ⟨z,y,xs,Paired.mapP r fun p q z=>⟨z.1,ht _ _ z.2.1,z.2.2⟩,ob,es,ep,k _ _ (.inl rfl) e,c⟩
 | set S n=>obtain ⟨ob,es,ep,t,e,c⟩:=x;exact ⟨ob,es,ep,t,k _ _ (.inl rfl) e,c⟩
 | ins C dx fs=>
  obtain ⟨d,z,ne,e,mA,⟨od,es,ep,e2,c⟩,r⟩:=x
  exact ⟨ho _ d,z,ne,k _ _ (.inl rfl) e,mA,⟨od,es,ep,k _ _ (.inr d) e2,c⟩,r⟩
 | own y=>obtain ⟨ob,e⟩:=x;exact ⟨ob,k _ _ (.inl rfl) e⟩
 | xd fs=>obtain ⟨mA,⟨od,es,ep,e,c⟩,r⟩:=x;exact ⟨mA,⟨od,es,ep,k _ _ (.inl rfl) e,c⟩,r⟩
 | rng lo hi=>obtain ⟨t,u,v,e⟩:=x;exact ⟨t,u,v,k _ _ (.inl rfl) e⟩
 | frz ob u ih=>obtain ⟨e,q⟩:=x;exact ⟨k _ _ (.inl rfl) e,ih q⟩
 | tbl ps=>
  have e:h.get? a = some { cls:=.none,data:=.fields ps }:=x
  show h'.get? a = some { cls:=.none,data:=.fields ps }
  exact k a _ (.inl rfl) e
 | met f y=>
  have e:h.get? a = some (PySem.W.methodObj (.ref f) (.ref y)):=x
  show h'.get? a = some (PySem.W.methodObj (.ref f) (.ref y))
  exact k a _ (.inl rfl) e
 | ext φ=>obtain ⟨p,⟨o,e⟩,st⟩:=x;exact ⟨st _ _ p fun o q=>k _ _ (.inl rfl) q,⟨o,k _ _ (.inl rfl) e⟩,st⟩
theorem HOk.lt (x:HOk P w H h) (e:H a = some o):a < h.objs.size:=(x a o e).lt
def HOk.fresh (x:HOk P w H h) (e:h.objs.size <= a):H a = none:=by
 cases q:H a with
 | none=>rfl
 | some u=>exact absurd (YAu (x.lt q) e) (YA9 _)
def HOk.kept (x:HOk P w H h) (k:∀ b u,h.get? b = some u->h'.get? b = some u):HOk P w H h':=fun a o e=>
 (x a o e).stay (fun b u _ q=>k b u q) (fun _ q=>q) fun _ _ q=>q
def HOk.laid (x:HOk P w H h) (k:∀ b u,h.get? b = some u->h'.get? b = some u) (hp:h.objs.size <= a) (new:ObjOk P w (upd H a o) h' a o):HOk P w (upd H a o) h':=fun b u e=>by
 have hn:=x.fresh hp
 by_cases hb:b = a
 .subst hb;rw [zac] at e;cases e;exact new
 .rw [zae hb] at e
  exact (x b u e).stay (fun c v _ q=>k c v q) (fun c q=>by rw [zae (zad q hn)];exact q) fun c xs q=>by rw [zae (zad q hn)];exact q
end
def Rd (H:Hp) (a:Addr) (u:HO):Prop:=H a = some u\/∃ o,H a = some (.frz o u)
def Rd.ok {P:Program} {w:World} {H:Hp} {h:Heap} {a:Addr} {u:HO} (r:Rd H a u) (x:HOk P w H h):ObjOk P w H h a u:=by
 rcases r with r | ⟨o,r⟩
 .exact x a u r
 .obtain ⟨_,q⟩:=x a _ r
  exact q
def Mut:Option HO->Prop
 | some (.lst _)=>True
 | some (.dK _)=>True
 | some (.dT _)=>True
 | some (.set _ _)=>True
 | some (.ins _ _ _)=>True
 | some (.ext _)=>True
 | _=>False
section
variable {P:Program} {w:World} {H:Hp} {h h':Heap} {x e:Addr} {o':HO}
def HOk.write (ok:HOk P w H h) (mu:Mut (H x)) (he:e = x\/H e = some (.own x)) (k:∀ b u,b ≠ e->h.get? b = some u->h'.get? b = some u) (heo:∃ u,h'.get? e = some u)
  (new:ObjOk P w (upd H x o') h' x o'):HOk P w (upd H x o') h':=fun b u q=>by
 have nown:∀ c y,H c = some (.own y)->c ≠ x:=fun c y r z=>by subst z;rw [r] at mu;exact mu
 have ntup:∀ c xs,H c = some (.tup xs)->c ≠ x:=fun c xs r z=>by subst z;rw [r] at mu;exact mu
 by_cases hb:b = x
 .subst hb;rw [zac] at q;cases q;exact new
 .rw [zae hb] at q
  by_cases hbe:b = e
  .have q':H b = some (.own x):=by
    rcases he with z | z
    .exact absurd (hbe.trans z) hb
    .rw [hbe];exact z
   rw [q] at q';cases q'
   obtain ⟨v,hv⟩:=heo
   exact ⟨v,by rw [hbe];exact hv⟩
  .refine (ok b u q).stay (fun c v hc r=>k c v ?_ r) (fun c r=>by rw [zae (nown c b r)];exact r) fun c xs r=>by rw [zae (ntup c xs r)];exact r
   rcases hc with rfl | hc
   .exact hbe
   .rintro rfl
    rcases he with z | z
    .exact nown c b hc z
    .rw [hc] at z;cases z;exact hb rfl
end
structure Un (fs ex:List Addr) (H H':Hp) (h h':Heap):Prop where
 keep:∀ b o,h.get? b = some o->H b = none->b ∉ fs->b ∉ ex->h'.get? b = some o
 slot:∀ b o,h.get? b = some o->H b = none->b ∈ fs->b ∉ ex->∃ sl,h'.get? b = some { o with slots:=sl }
 free:∀ b o,h.get? b = some o->H b = none->b ∉ ex->H' b = none
 there:∀ b o,h.get? b = some o->b ∉ ex->∃ o',h'.get? b = some o'
 tups:∀ b xs,H b = some (.tup xs)->H' b = some (.tup xs)
 frzs:∀ b o u,H b = some (.frz o u)->H' b = some (.frz o u)
 tbls:∀ b ps,H b = some (.tbl ps)->∃ more,H' b = some (.tbl (ps ++ more))
section
variable {fs fs' ex ex':List Addr} {H H1 H2:Hp} {h h1 h2 h':Heap} {a x e:Addr} {o:HO}
def Un.any (u:Un fs ex H H1 h h1) {b:Addr} {ob:Obj} (q:h.get? b = some ob) (n:H b = none) (hx:b ∉ ex):∃ sl,h1.get? b = some { ob with slots:=sl }:=by
 by_cases hb:b ∈ fs
 .exact u.slot b ob q n hb hx
 .exact ⟨ob.slots,u.keep b ob q n hb hx⟩
def Un.kept (k:∀ b u,h.get? b = some u->h'.get? b = some u):Un fs ex H H h h':=
 ⟨fun b ob q _ _ _=>k b ob q,fun b ob q _ _ _=>⟨ob.slots,k b ob q⟩,fun _ _ _ n _=>n,fun b ob q _=>⟨ob,k b ob q⟩,fun _ _ q=>q,fun _ _ _ q=>q,fun _ ps q=>⟨#[],by rw [q];simp⟩⟩
def Un.refl:Un fs ex H H h h:=Un.kept fun _ _ q=>q
def Un.laid (k:∀ b u,h.get? b = some u->h'.get? b = some u) (hp:h.objs.size <= a) (hn:H a = none):Un fs ex H (upd H a o) h h' where
 keep:=fun b u q _ _ _=>k b u q
 slot:=fun b u q _ _ _=>⟨u.slots,k b u q⟩
 free:=fun b u q n _=>by rw [zae (YAt (YAu (YAp q) hp))];exact n
 there:=fun b u q _=>⟨u,k b u q⟩
 tups:=fun b xs q=>by rw [zae (zad q hn)];exact q
 frzs:=fun b u xs q=>by rw [zae (zad q hn)];exact q
 tbls:=fun b ps q=>⟨#[],by rw [zae (zad q hn),q];simp⟩
def Un.write (mu:Mut (H x)) (he:e = x\/H e = some (.own x)) (k:∀ b u,b ≠ e->h.get? b = some u->h'.get? b = some u) (heo:∃ u,h'.get? e = some u):Un fs ex H (upd H x o) h h':=by
 have hx:∀ b,H b = none->b ≠ x:=fun b n z=>by subst z;rw [n] at mu;exact mu
 have hb:∀ b,H b = none->b ≠ e:=fun b n z=>by
  subst z
  rcases he with r | r
  .exact hx b n r
  .rw [n] at r;cases r
 have hm:∀ b u,H b = some u->¬ Mut (some u)->b ≠ x:=fun b u q nm z=>by subst z;rw [q] at mu;exact nm mu
 refine ⟨fun b u q n _ _=>k b u (hb b n) q,fun b u q n _ _=>⟨u.slots,k b u (hb b n) q⟩,fun b u q n _=>by rw [zae (hx b n)];exact n,fun b u q _=>?_,
  fun b xs q=>by rw [zae (hm b _ q fun z=>z)];exact q,fun b u xs q=>by rw [zae (hm b _ q fun z=>z)];exact q,fun b ps q=>⟨#[],by rw [zae (hm b _ q fun z=>z),q];simp⟩⟩
 by_cases hbe:b = e
 .subst hbe;exact heo
 .exact ⟨u,k b u hbe q⟩
end
def trk (h:Heap) (H:Hp):List Addr:=(List.range h.objs.size).filter fun a=>(H a).isSome
def hidT (h:Heap) (H:Hp):Heap:=PySem.W.hideAll h (trk h H)
def zke (h:Heap) (H:Hp):(hidT h H).objs.size = h.objs.size:=PySem.W.hideAll_size _ _
def zlh {h:Heap} {H:Hp} {b:Addr} {o:Obj} (e:h.get? b = some o) (n:H b = none):(hidT h H).get? b = some o:=
 PySem.W.hideAll_get _ e fun hm=>by
  have q:(H b).isSome = true:=(YA3.mp hm).2
  rw [n] at q;simp at q
def zmo {h:Heap} {H:Hp} {b:Addr} {o:Obj} (e:(hidT h H).get? b = some o):h.get? b = some o/\H b = none:=by
 have e':h.get? b = some o:=PySem.W.of_hideAll (trk h H) e
 refine ⟨e',?_⟩
 cases q:H b with
 | none=>rfl
 | some x=>
  have hm:b ∈ trk h H:=YA3.mpr ⟨YAW.mpr (YAp e'),by simp [q]⟩
  have z:(hidT h H).get? b = none:=PySem.W.hideAll_none (trk h H) hm
  rw [z] at e;cases e
structure Mod (K:oS) (mg:Str->Option Value) (base:Heap):Prop where
 kin:K.In base
 glob:base.Ns mainGlobals mg
 blt:∃ mb,base.Ns builtinsNs mb/\∀ x:Str,x ≠ "__name__" -> mb x = bootBuiltins x
 nolimit:base.NoLimit
structure Cx where
 prog:Program
 w:World
 K:oS
 mg:Str->Option Value
 base:Heap
 A:Around
 N:List Str
 s₀:Shared
 H₀:Hp
 env:Env
 outer:List Env
 stack:List Env
 ex:List Addr
 fn:Str->Bool
 calm:Bool
 pn:List (Addr × Obj)
 xe:Value->Shared->Prop
def frs (l:List Env):List Addr:=l.filterMap (·.frame)
abbrev Cx.fs (X:Cx):List Addr:=frs X.outer
def Vis (sc:Scope) (x:Str):Prop:=sc.names.lookup x = some .local\/sc.names.lookup x = some .cell\/sc.names.lookup x = some .free
def Loc (sc:Scope) (x:Str):Prop:=sc.names.lookup x = some .local\/sc.names.lookup x = some .cell
def Look (env:Env) (h:Heap) (m:Str->Option Value) (x:Str) (u:Value):Prop:=
 (env.kindOf x = some .local/\m x = some u)\/((env.kindOf x = some .cell\/env.kindOf x = some .free)/\∃ c,env.cells.lookup x = some c/\h.IsCell c (some u))
structure Cx.Ok (X:Cx):Prop where
 mod:Mod X.K X.mg X.base
 kind:X.env.scope.kind = .function
 glob:X.env.globals = mainGlobals
 blt:X.env.builtins = builtinsNs
 above:X.s₀.heap.objs.size <= X.env.locals
 inj:∀ x y c,X.env.cells.lookup x = some c->X.env.cells.lookup y = some c->x = y
 has:∀ x,(X.env.kindOf x = some .cell\/X.env.kindOf x = some .free)->∃ c,X.env.cells.lookup x = some c
 cab:∀ x c,X.fn x = true->X.env.cells.lookup x = some c->X.s₀.heap.objs.size <= c
 hd:X.calm = true->X.A.handled = none
 frames:X.A.frames = some X.stack
 stk:X.stack = X.outer\/(X.stack = X.env :: X.outer/\X.env.frame = some X.env.locals)
 exf:∀ b ∈ X.ex,b ≠ X.env.locals/\∀ x c,X.env.cells.lookup x = some c->c ≠ b
 bs:∀ b o,X.base.get? b = some o->X.s₀.heap.get? b = some o/\X.H₀ b = none
 bsz:X.base.objs.size <= X.s₀.heap.objs.size
 noex:∀ b o,X.base.get? b = some o->b ∉ X.ex
 exfs:∀ b ∈ X.ex,b ∉ X.fs
 funs:X.s₀.heap.FunFrames X.base X.outer
 frf:∀ b ∈ X.fs,X.H₀ b = none
structure Inv (X:Cx) (O:List (Addr × Obj)) (Y:List (Option V)) (H:Hp) (s:Shared):Prop where
 ok:X.Ok
 os:s.os = X.s₀.os
 bare:AllBare s.gens
 base:Un X.fs X.ex X.H₀ H X.s₀.heap s.heap
 loc:∃ m,s.heap.Ns X.env.locals m/\∀ (i:Nat) (x:Str) (v:V),X.N[i]? = some x->Y[i]? = some (some v)->Vis X.env.scope x->∃ u,RelV v u/\Look X.env s.heap m x u
 cell:∀ x c,X.env.cells.lookup x = some c->∃ v,s.heap.IsCell c v
 free:H X.env.locals = none
 freeC:∀ x c,X.env.cells.lookup x = some c->H c = none
 pin:∀ p ∈ X.pn ++ O,s.heap.get? p.1 = some p.2/\H p.1 = none/\p.1 ≠ X.env.locals/\p.1 ∉ X.fs/\∀ v,p.2.data ≠ .cell v
 hok:HOk X.prog X.w H s.heap
 len:Y.length = X.N.length
section
variable {X:Cx} {O:List (Addr × Obj)} {Y:List (Option V)} {H H':Hp} {s:Shared} {h':Heap}
def Cx.Ok.nofr (ok:X.Ok)  (e:X.base.get? b = some o):b ∉ X.fs:=fun hb=>by
 have:=(ok.funs.mem hb).1
 rw [e] at this;cases this
theorem Inv.bs (I:Inv X O Y H s):∀ b o,X.base.get? b = some o->s.heap.get? b = some o/\H b = none:=fun b o e=>
 ⟨I.base.keep b o (I.ok.bs b o e).1 (I.ok.bs b o e).2 (I.ok.nofr e) (I.ok.noex b o e),I.base.free b o (I.ok.bs b o e).1 (I.ok.bs b o e).2 (I.ok.noex b o e)⟩
def Inv.bk (I:Inv X O Y H s):∀ b o,X.base.get? b = some o->s.heap.get? b = some o:=fun b o e=>(I.bs b o e).1
theorem Inv.mod (I:Inv X O Y H s):Mod X.K X.mg X.base:=I.ok.mod
def Inv.kIn (I:Inv X O Y H s):X.K.In s.heap:=I.ok.mod.kin.keeps I.bk
theorem Inv.lt (I:Inv X O Y H s):X.env.locals < s.heap.objs.size:=let ⟨_,hn,_⟩:=I.loc;hn.lt
def Inv.sz (I:Inv X O Y H s):X.s₀.heap.objs.size <= s.heap.objs.size:=YAZ I.ok.above (YDf I.lt)
def Inv.nofs (I:Inv X O Y H s) (h:s.heap.objs.size <= a):a ∉ X.fs:=fun hb=>by
 obtain ⟨_,o,ho,_⟩:=I.ok.funs.mem hb
 exact absurd (YAu (YAp ho) (YAZ I.sz h)) (YA9 _)
def Inv.cne (I:Inv X O Y H s):∀ x c,X.env.cells.lookup x = some c->c ≠ X.env.locals:=fun x c e z=>by
 obtain ⟨v,o,ho,hd⟩:=I.cell x c e
 obtain ⟨m,⟨o',es,ep,ho',hd',_⟩,_⟩:=I.loc
 rw [z,ho'] at ho;cases ho;rw [hd'] at hd;cases hd
theorem Inv.funs (I:Inv X O Y H s):s.heap.FunFrames X.base X.outer:=by
 have all:∀ (l:List Env),(∀ b ∈ frs l,b ∈ X.fs)->X.s₀.heap.FunFrames X.base l->s.heap.FunFrames X.base l:=by
  intro l
  induction l with
  | nil=>intro _ _;trivial
  | cons env r ih=>
   intro hs hl
   obtain ⟨hk,⟨L,o,hf,hn,ho,hd⟩,hr⟩:=hl
   have hL:L ∈ X.fs:=hs L (by unfold frs;rw [YBa,hf];exact YAi)
   obtain ⟨sl,e⟩:=I.base.slot L o ho (I.ok.frf L hL) hL fun z=>I.ok.exfs L z hL
   exact ⟨hk,⟨L,_,hf,hn,e,hd⟩,ih (fun b hb=>hs b (by unfold frs;rw [YBa,hf];exact YAn _ hb)) hr⟩
 exact all X.outer (fun _ hb=>hb) I.ok.funs
theorem Inv.stack (I:Inv X O Y H s):s.heap.FunFrames X.base X.stack:=by
 rcases I.ok.stk with e | ⟨e,hf⟩
 .rw [e];exact I.funs
 .rw [e]
  obtain ⟨m,hn,_⟩:=I.loc
  refine .cons (by rw [I.ok.kind];decide) hf hn ?_ I.funs
  exact Heap.get?_none_of_le (YAZ I.ok.bsz I.ok.above)
def Inv.stkSub (I:Inv X O Y H s):∀ b ∈ frs X.stack,b ∈ X.env.locals :: X.fs:=fun b hb=>by
 rcases I.ok.stk with e | ⟨e,hf⟩
 .rw [e] at hb;exact YAn _ hb
 .rw [e] at hb
  unfold frs at hb
  rw [YBa,hf] at hb
  exact hb
def Inv.stkFree (I:Inv X O Y H s):∀ b ∈ frs X.stack,H b = none:=fun b hb=>by
 rcases YAs.mp (I.stkSub b hb) with e | hb
 .rw [e];exact I.free
 .obtain ⟨_,o,ho,_⟩:=I.ok.funs.mem hb
  exact I.base.free b o ho (I.ok.frf b hb) fun z=>I.ok.exfs b z hb
def Inv.step {g':Array GenState} {t':Nat} {d':Drawn} {ch:List Addr} (I:Inv X O Y H s)
  (hch:∀ b ∈ ch,(b ∈ X.ex\/X.s₀.heap.objs.size <= b)/\b ≠ X.env.locals/\(∀ x c,X.env.cells.lookup x = some c->c ≠ b)/\∀ p ∈ X.pn ++ O,p.1 ≠ b)
  (keep:∀ b o,b ≠ X.env.locals->b ∉ X.fs->b ∉ ch->s.heap.get? b = some o->H b = none->h'.get? b = some o)
  (slot:∀ b o,b ≠ X.env.locals->b ∈ X.fs->b ∉ ch->s.heap.get? b = some o->H b = none->∃ sl,h'.get? b = some { o with slots:=sl }) (free:∀ b o,b ∉ ch->s.heap.get? b = some o->H b = none->H' b = none)
  (there:∀ b o,b ∉ ch->s.heap.get? b = some o->∃ o',h'.get? b = some o')
  (tups:∀ b xs,H b = some (.tup xs)->H' b = some (.tup xs)) (frzs:∀ b o u,H b = some (.frz o u)->H' b = some (.frz o u)) (tbls:∀ b ps,H b = some (.tbl ps)->∃ more,H' b = some (.tbl (ps ++ more)))
  (ns:∀ m,s.heap.Ns X.env.locals m->h'.Ns X.env.locals m) (hok:HOk X.prog X.w H' h') (hg:AllBare g') :
  Inv X O Y H' { s with heap:=h',gens:=g',drawn:=d',toks:=t' }:=by
 have neL:∀ b o,X.s₀.heap.get? b = some o->b ≠ X.env.locals:=fun b o e=>YAt (YAu (YAp e) I.ok.above)
 have neC:∀ b o,X.s₀.heap.get? b = some o->b ∉ X.ex->b ∉ ch:=fun b o e hx hb=>by
  rcases (hch b hb).1 with z | z
  .exact hx z
  .exact absurd (YAu (YAp e) z) (YA9 _)
 have cellK:∀ x c,X.env.cells.lookup x = some c->∀ v,s.heap.IsCell c v->h'.IsCell c v:=fun x c e v ⟨o,ho,hd⟩=>by
  have nch:c ∉ ch:=fun z=>(hch c z).2.2.1 x c e rfl
  by_cases hc:c ∈ X.fs
  .obtain ⟨sl,q⟩:=slot c o (I.cne x c e) hc nch ho (I.freeC x c e)
   exact ⟨_,q,hd⟩
  .exact ⟨o,keep c o (I.cne x c e) hc nch ho (I.freeC x c e),hd⟩
 refine ⟨I.ok,I.os,hg,⟨fun b o e n hb hx=>?_,fun b o e n hb hx=>?_,fun b o e n hx=>?_,fun b o e hx=>?_,fun b xs e=>tups b xs (I.base.tups b xs e),fun b o xs e=>frzs b o xs (I.base.frzs b o xs e),fun b ps e=>?_⟩,?_,fun x c e=>?_,?_,fun x c e=>?_,fun p hp=>?_,hok,I.len⟩
 .exact keep b o (neL b o e) hb (neC b o e hx) (I.base.keep b o e n hb hx) (I.base.free b o e n hx)
 .obtain ⟨sl,e1⟩:=I.base.slot b o e n hb hx
  obtain ⟨sl',e2⟩:=slot b _ (neL b o e) hb (neC b o e hx) e1 (I.base.free b o e n hx)
  exact ⟨sl',e2⟩
 .obtain ⟨o',e1⟩:=I.base.there b o e hx
  exact free b o' (neC b o e hx) e1 (I.base.free b o e n hx)
 .obtain ⟨o',e1⟩:=I.base.there b o e hx
  exact there b o' (neC b o e hx) e1
 .obtain ⟨m1,e1⟩:=I.base.tbls b ps e
  obtain ⟨m2,e2⟩:=tbls b _ e1
  exact ⟨m1 ++ m2,by rw [e2,Array.append_assoc]⟩
 .obtain ⟨m,hn,hl⟩:=I.loc
  refine ⟨m,ns m hn,fun i x v e1 e2 e3=>?_⟩
  obtain ⟨u,r,l⟩:=hl i x v e1 e2 e3
  refine ⟨u,r,?_⟩
  rcases l with l | ⟨k,c,e,z⟩
  .exact .inl l
  .exact .inr ⟨k,c,e,cellK x c e _ z⟩
 .obtain ⟨v,z⟩:=I.cell x c e
  exact ⟨v,cellK x c e v z⟩
 .obtain ⟨m,⟨o,_,_,ho,_⟩,_⟩:=I.loc
  exact free _ o (fun z=>(hch _ z).2.1 rfl) ho I.free
 .obtain ⟨v,o,ho,hd⟩:=I.cell x c e
  exact free c o (fun z=>(hch c z).2.2.1 x c e rfl) ho (I.freeC x c e)
 .obtain ⟨e,n,ne,nf,d⟩:=I.pin p hp
  have nch:p.1 ∉ ch:=fun z=>(hch p.1 z).2.2.2 p hp rfl
  exact ⟨keep p.1 p.2 ne nf nch e n,free p.1 p.2 nch e n,ne,nf,d⟩
def Inv.un {t':Nat} (I:Inv X O Y H s) (u:Un X.fs [] H H' s.heap h') (hok:HOk X.prog X.w H' h'):Inv X O Y H' { s with heap:=h',toks:=t' }:=by
 obtain ⟨m,⟨o,es,ep,ho,r⟩,_⟩:=id I.loc
 obtain ⟨sl,hL⟩:=u.any ho I.free (by simp)
 exact I.step (g':=s.gens) (d':=s.drawn) (ch:=[]) (fun _ z=>nomatch z) (fun b o _ hb _ e n=>u.keep b o e n hb (by simp)) (fun b o _ hb _ e n=>u.slot b o e n hb (by simp)) (fun b o _ e n=>u.free b o e n (by simp)) (fun b o _ e=>u.there b o e (by simp)) u.tups u.frzs u.tbls (fun m' hm=>by
  obtain ⟨o',es',ep',ho',r'⟩:=hm
  rw [ho] at ho';cases ho'
  exact ⟨_,es',ep',hL,r'⟩) hok I.bare
def Inv.call {g':Array GenState} {t':Nat} {d':Drawn} {ch:List Addr} (I:Inv X O Y H s) (u:Un (frs X.stack) ch H H' s.heap h') (hok:HOk X.prog X.w H' h') (hg:AllBare g')
  (hch:∀ b ∈ ch,(b ∈ X.ex\/X.s₀.heap.objs.size <= b)/\b ≠ X.env.locals/\(∀ x c,X.env.cells.lookup x = some c->c ≠ b)/\∀ p ∈ X.pn ++ O,p.1 ≠ b) :
  Inv X O Y H' { s with heap:=h',gens:=g',drawn:=d',toks:=t' }:=by
 obtain ⟨m,⟨o,es,ep,ho,r⟩,_⟩:=id I.loc
 obtain ⟨sl,hL⟩:=u.any ho I.free fun z=>(hch _ z).2.1 rfl
 exact I.step (ch:=ch) hch (fun b o hL hb hc e n=>u.keep b o e n (fun z=>(YAs.mp (I.stkSub b z)).elim hL hb) hc) (fun b o _ _ hc e n=>u.any e n hc) (fun b o hc e n=>u.free b o e n hc) (fun b o hc e=>u.there b o e hc) u.tups u.frzs u.tbls (fun m' hm=>by
  obtain ⟨o',es',ep',ho',r'⟩:=hm
  rw [ho] at ho';cases ho'
  exact ⟨_,es',ep',hL,r'⟩) hok hg
def Inv.turned {t':Nat} {it:Addr} (I:Inv X O Y H s) (k:∀ b o,b ≠ it->s.heap.get? b = some o->h'.get? b = some o) (hn:H it = none) (hL:it ≠ X.env.locals)
  (h1:it ∈ X.ex\/X.s₀.heap.objs.size <= it) (h2:∀ x c,X.env.cells.lookup x = some c->c ≠ it) (h3:∀ p ∈ X.pn ++ O,p.1 ≠ it):Inv X O Y H { s with heap:=h',toks:=t' }:=by
 have nit:∀ b u,H b = some u->b ≠ it:=fun b u e z=>by rw [z,hn] at e;cases e
 refine I.step (g':=s.gens) (d':=s.drawn) (ch:=[it]) (fun b hb=>?_) (fun b o _ _ hc e _=>k b o (fun z=>hc (by simp [z])) e) (fun b o _ _ hc e _=>⟨o.slots,k b o (fun z=>hc (by simp [z])) e⟩) (fun _ _ _ _ n=>n)
  (fun b o hc e=>⟨o,k b o (fun z=>hc (by simp [z])) e⟩) (fun _ _ e=>e) (fun _ _ _ e=>e) (fun b ps e=>⟨#[],by rw [e];simp⟩) (fun m hm=>?_) (fun b u e=>?_) I.bare
 .have e:b = it:=by simpa using hb
  subst e
  exact ⟨h1,hL,h2,h3⟩
 .obtain ⟨o,es,ep,ho,r⟩:=hm
  exact ⟨o,es,ep,k _ o (Ne.symm hL) ho,r⟩
 .refine (I.hok b u e).stay (fun c v hc q=>k c v ?_ q) (fun _ q=>q) fun _ _ q=>q
  rcases hc with z | z
  .rw [z];exact nit b u e
  .exact nit c _ z
def Inv.tok (I:Inv X O Y H s) (t:Nat):Inv X O Y H { s with toks:=t }:=I.un (h':=s.heap) (t':=t) Un.refl I.hok
theorem Inv.kept {t':Nat} (I:Inv X O Y H s) (k:∀ b u,s.heap.get? b = some u->h'.get? b = some u):Inv X O Y H { s with heap:=h',toks:=t' }:=I.un (Un.kept k) (I.hok.kept k)
theorem Inv.laid {a:Addr} {o:HO} {t':Nat} (I:Inv X O Y H s) (k:∀ b u,s.heap.get? b = some u->h'.get? b = some u) (hp:s.heap.objs.size <= a) (new:ObjOk X.prog X.w (upd H a o) h' a o) :
  Inv X O Y (upd H a o) { s with heap:=h',toks:=t' }:=I.un (Un.laid k hp (I.hok.fresh hp)) (I.hok.laid k hp new)
theorem Inv.write {x e:Addr} {o:HO} {t':Nat} (I:Inv X O Y H s) (mu:Mut (H x)) (he:e = x\/H e = some (.own x)) (k:∀ b u,b ≠ e->s.heap.get? b = some u->h'.get? b = some u) (heo:∃ u,h'.get? e = some u)
  (new:ObjOk X.prog X.w (upd H x o) h' x o):Inv X O Y (upd H x o) { s with heap:=h',toks:=t' }:=I.un (Un.write mu he k heo) (I.hok.write mu he k heo new)
def Inv.weak (I:Inv X O Y H s) (hl:Y'.length = Y.length) (w:∀ (i:Nat) v,Y'[i]? = some (some v)->Y[i]? = some (some v)):Inv X O Y' H s:=
 ⟨I.ok,I.os,I.bare,I.base,let ⟨m,hn,hl'⟩:=I.loc;⟨m,hn,fun i x v e1 e2 e3=>hl' i x v e1 (w i v e2) e3⟩,I.cell,I.free,I.freeC,I.pin,I.hok,hl.trans I.len⟩
def Inv.pins_of (I:Inv X O Y H s) (h:∀ p ∈ pins',s.heap.get? p.1 = some p.2/\H p.1 = none/\p.1 ≠ X.env.locals/\p.1 ∉ X.fs/\∀ v,p.2.data ≠ .cell v):Inv X pins' Y H s:=
 ⟨I.ok,I.os,I.bare,I.base,I.loc,I.cell,I.free,I.freeC,fun p hp=>(YAm.mp hp).elim (fun z=>I.pin p (YAx _ z)) (h p),I.hok,I.len⟩
def zis {N:List Str} (hN:N.Nodup) {i j:Nat} {x:Str} (a:N[i]? = some x) (b:N[j]? = some x):i = j:=by
 obtain ⟨h1,e1⟩:=YAh.mp a
 obtain ⟨h2,e2⟩:=YAh.mp b
 exact (YCW hN).mp (e1.trans e2.symm)
def zeH {M:Model} {A:Around} {E:Value->Shared->Prop} {i:Nat} {x:Str} {v:V} {u:Value} {Q:Unit->Shared->Prop} (I:Inv X O Y H s) (hN:X.N.Nodup) (hi:X.N[i]? = some x) (hx:Loc X.env.scope x) (r:RelV v u)
  (h:∀ s',Inv X O (Y.set i (some v)) H s'->(∃ a,Heap.SameBut a s.heap s'.heap/\(a = X.env.locals\/X.env.cells.lookup x = some a))->Q () s') (hf:X.fn x = true\/X.env.scope.names.lookup x = some .local:=by first | exact .inl rfl | exact .inr rfl | assumption):wpAny M A (storeName X.env x u) Q E s:=by
 obtain ⟨m,hn,hl⟩:=id I.loc
 have hcls:(X.env.scope.kind == .class || (X.env.scope.kind == .module && X.env.locals != X.env.globals)) = false:=by rw [I.ok.kind];rfl
 have hiσ:i < Y.length:=by rw [I.len];exact (YAh.mp hi).1
 have cne:=I.cne
 have tracked:∀ {a:Addr} {h':Heap},(∃ o,s.heap.get? a = some o/\H a = none)->Heap.SameBut a s.heap h'->HOk X.prog X.w H h':=fun {a h'} ha hs b ob e=>by
  obtain ⟨_,_,hfree⟩:=ha
  refine (I.hok b ob e).stay (fun c w' hc q=>(hs.2 c ?_).trans q) (fun _ q=>q) fun _ _ q=>q
  rintro rfl
  rcases hc with rfl | hc
  .rw [hfree] at e;cases e
  .rw [hfree] at hc;cases hc
 rcases hx with hk | hk
 .refine wpAny_storeName_local hk hn (fun h' hn' hs=>?_) hcls
  obtain ⟨oL,_,_,hoL,_⟩:=id hn
  refine h _ ⟨I.ok,I.os,I.bare,⟨fun b o e n hb hx=>?_,fun b o e n hb hx=>?_,I.base.free,fun b o e hx=>?_,I.base.tups,I.base.frzs,I.base.tbls⟩,⟨_,hn',fun j y v' e1 e2 e3=>?_⟩,fun y c e=>?_,I.free,I.freeC,fun p hp=>?_,tracked ⟨oL,hoL,I.free⟩ hs,by simpa using I.len⟩ ⟨_,hs,.inl rfl⟩
  .exact (hs.2 b (YAt (YAu (YAp e) I.ok.above))).trans (I.base.keep b o e n hb hx)
  .obtain ⟨sl,e1⟩:=I.base.slot b o e n hb hx
   exact ⟨sl,(hs.2 b (YAt (YAu (YAp e) I.ok.above))).trans e1⟩
  .obtain ⟨o',e1⟩:=I.base.there b o e hx
   exact ⟨o',(hs.2 b (YAt (YAu (YAp e) I.ok.above))).trans e1⟩
  .by_cases hj:j = i
   .subst hj
    rw [hi] at e1;cases e1
    rw [YAr hiσ] at e2
    cases e2
    exact ⟨u,r,.inl ⟨hk,by simp⟩⟩
   .rw [YAj (Ne.symm hj)] at e2
    obtain ⟨u',r',q⟩:=hl j y v' e1 e2 e3
    refine ⟨u',r',?_⟩
    rcases q with ⟨k,e⟩ | ⟨k,c,e,z⟩
    .refine .inl ⟨k,?_⟩
     have:y ≠ x:=fun e=>hj (zis hN e1 (e ▸ hi))
     simp [this,e]
    .exact .inr ⟨k,c,e,z.sameBut hs (cne y c e)⟩
  .obtain ⟨w',z⟩:=I.cell y c e
   exact ⟨w',z.sameBut hs (cne y c e)⟩
  .obtain ⟨e,n,ne,nf,d⟩:=I.pin p hp
   exact ⟨(hs.2 p.1 ne).trans e,n,ne,nf,d⟩
 .have hfn:X.fn x = true:=by
   rcases hf with z | z
   .exact z
   .rw [z] at hk;cases hk
  obtain ⟨c,hc⟩:=I.ok.has x (.inl hk)
  obtain ⟨w',z⟩:=I.cell x c hc
  refine wpAny_storeName_cell I.ok.kind hk hc z (fun h' hc' hs=>?_)
  obtain ⟨oc,hoc,hocd⟩:=id z
  refine h { s with heap:=h' } ⟨I.ok,I.os,I.bare,⟨fun b o e n hb hx=>?_,fun b o e n hb hx=>?_,I.base.free,fun b o e hx=>?_,I.base.tups,I.base.frzs,I.base.tbls⟩,⟨m,hn.sameBut hs (Ne.symm (cne x c hc)),fun j y v' e1 e2 e3=>?_⟩,fun y c' e=>?_,I.free,I.freeC,fun p hp=>?_,tracked ⟨oc,hoc,I.freeC x c hc⟩ hs,by simpa using I.len⟩ ⟨c,hs,.inr hc⟩
  .exact (hs.2 b (YAt (YAu (YAp e) (I.ok.cab x c hfn hc)))).trans (I.base.keep b o e n hb hx)
  .obtain ⟨sl,e1⟩:=I.base.slot b o e n hb hx
   exact ⟨sl,(hs.2 b (YAt (YAu (YAp e) (I.ok.cab x c hfn hc)))).trans e1⟩
  .obtain ⟨o',e1⟩:=I.base.there b o e hx
   exact ⟨o',(hs.2 b (YAt (YAu (YAp e) (I.ok.cab x c hfn hc)))).trans e1⟩
  .by_cases hj:j = i
   .subst hj
    rw [hi] at e1;cases e1
    rw [YAr hiσ] at e2
    cases e2
    exact ⟨u,r,.inr ⟨.inl hk,c,hc,hc'⟩⟩
   .rw [YAj (Ne.symm hj)] at e2
    obtain ⟨u',r',q⟩:=hl j y v' e1 e2 e3
    refine ⟨u',r',?_⟩
    rcases q with q | ⟨k,c',e,z'⟩
    .exact .inl q
    .refine .inr ⟨k,c',e,z'.sameBut hs ?_⟩
     rintro rfl
     exact hj (zis hN e1 (I.ok.inj _ _ _ e hc ▸ hi))
  .by_cases hcc:c' = c
   .subst hcc;exact ⟨_,hc'⟩
   .obtain ⟨w2,z2⟩:=I.cell y c' e
    exact ⟨w2,z2.sameBut hs hcc⟩
  .obtain ⟨e,n,ne,nf,d⟩:=I.pin p hp
   refine ⟨(hs.2 p.1 ?_).trans e,n,ne,nf,d⟩
   intro q
   rw [q,hoc] at e
   have q':oc = p.2:=Option.some.inj e
   exact d w' (by rw [<- q'];exact hocd)
def zfW {M:Model} {A:Around} {E:Value->Shared->Prop} {i:Nat} {x:Str} {v:V} {u:Value} {Q:Unit->Shared->Prop} (I:Inv X O Y H s) (hN:X.N.Nodup) (hi:X.N[i]? = some x) (hx:Loc X.env.scope x) (r:RelV v u)
  (h:∀ s',Inv X O (Y.set i (some v)) H s'->Q () s') (hf:X.fn x = true\/X.env.scope.names.lookup x = some .local:=by first | exact .inl rfl | exact .inr rfl | assumption):wpAny M A (storeName X.env x u) Q E s:=
 zeH I hN hi hx r (fun s' I' _=>h s' I') hf
def Inv.call'  (I:Inv X O Y H s) (ho:s'.os = s.os) (u:Un (frs X.stack) ch H H' s.heap s'.heap) (hok:HOk X.prog X.w H' s'.heap) (hg:AllBare s'.gens)
  (hch:∀ b ∈ ch,(b ∈ X.ex\/X.s₀.heap.objs.size <= b)/\b ≠ X.env.locals/\(∀ x c,X.env.cells.lookup x = some c->c ≠ b)/\∀ p ∈ X.pn ++ O,p.1 ≠ b):Inv X O Y H' s':=by
 obtain ⟨h',g',d',t',o'⟩:=s'
 have e:o' = s.os:=ho
 subst e
 exact I.call (g':=g') (t':=t') (d':=d') u hok hg hch
end
abbrev XK:=Value->Option Addr->Hp->Prop
abbrev St:=List (Option V)
abbrev VK:=V->Hp->Prop
abbrev TE:=St->Hp->VK->Prop
abbrev TT:=St->Hp->(Bool->Hp->Prop)->Prop
abbrev TA:=St->Hp->(List V->Hp->Prop)->Prop
structure Ends where
 nx:St->Hp->Prop
 rt:VK
 bk:St->Hp->Prop:=fun _ _=>False
 ct:St->Hp->Prop:=fun _ _=>False
abbrev TS:=Ends->St->Hp->Prop
def EP (X:Cx) (O:List (Addr × Obj)) (Y:St) (Q:VK) (u:Value) (s':Shared):Prop:=∃ v H',Inv X O Y H' s'/\RelV v u/\Q v H'
def TP (X:Cx) (O:List (Addr × Obj)) (Y:St) (Q:Bool->Hp->Prop) (b:Bool) (s':Shared):Prop:=∃ H',Inv X O Y H' s'/\Q b H'
def AP (X:Cx) (O:List (Addr × Obj)) (Y:St) (Q:List V->Hp->Prop) (us:List Value) (s':Shared):Prop:=∃ vs H',Inv X O Y H' s'/\Vals vs us/\Q vs H'
noncomputable def SP (X:Cx) (O:List (Addr × Obj)) (D:Ends) (f:Flow) (s':Shared):Prop:=
 match f with
 | .next=>∃ Y' H',Inv X O Y' H' s'/\D.nx Y' H'
 | .brk=>∃ Y' H',Inv X O Y' H' s'/\D.bk Y' H'
 | .cont=>∃ Y' H',Inv X O Y' H' s'/\D.ct Y' H'
 | .ret u=>∃ v Y' H',Inv X O Y' H' s'/\RelV v u/\D.rt v H'
def PE (X:Cx) (e:Expr) (t:TE):Prop:=
 ∀ (O:List (Addr × Obj)) (s:Shared) (Y:St) (H:Hp) (Q:VK),Inv X O Y H s->t Y H Q->wpAny (model X.prog X.w) X.A (eval e X.env) (EP X O Y Q) X.xe s
def PT (X:Cx) (e:Expr) (t:TT):Prop:=
 ∀ (O:List (Addr × Obj)) (s:Shared) (Y:St) (H:Hp) (Q:Bool->Hp->Prop),Inv X O Y H s->t Y H Q->wpAny (model X.prog X.w) X.A (isTrue e X.env (eval e X.env)) (TP X O Y Q) X.xe s
def PW (X:Cx) (e:Expr) (t:TT):Prop:=
 ∀ (whole:Sem Value) (O:List (Addr × Obj)) (s:Shared) (Y:St) (H:Hp) (Q:Bool->Hp->Prop),Inv X O Y H s->t Y H Q->wpAny (model X.prog X.w) X.A (isTrue e X.env whole) (TP X O Y Q) X.xe s
def PW.pt {X:Cx} {e:Expr} {t:TT} (h:PW X e t):PT X e t:=h _
def PA (X:Cx) (es:List Expr) (t:TA):Prop:=
 ∀ (pos:Pos) (O:List (Addr × Obj)) (s:Shared) (Y:St) (H:Hp) (Q:List V->Hp->Prop),Inv X O Y H s->t Y H Q->wpAny (model X.prog X.w) X.A (spliced (backTo pos (starEach es X.env))) (AP X O Y Q) X.xe s
def PS (X:Cx) (st:Stmt) (t:TS):Prop:=
 ∀ (O:List (Addr × Obj)) (s:Shared) (Y:St) (H:Hp) (D:Ends),Inv X O Y H s->t D Y H->wpAny (model X.prog X.w) X.A (exec st X.env) (SP X O D) X.xe s
def PSs (X:Cx) (st:List Stmt) (t:TS):Prop:=
 ∀ (O:List (Addr × Obj)) (s:Shared) (Y:St) (H:Hp) (D:Ends),Inv X O Y H s->t D Y H->wpAny (model X.prog X.w) X.A (execs st X.env) (SP X O D) X.xe s
def thn {α:Type} {t:Sem α} {Q Q':α->Shared->Prop} {M:Model} {A:Around} {E:Value->Shared->Prop} {s:Shared} (h:wpAny M A t Q E s) (hQ:∀ a s,Q a s->Q' a s):wpAny M A t Q' E s:=YA5 h hQ fun _ _ x=>x
section
variable {X:Cx}
def bin {a b:Expr} {ta tb:TE} (ha:PE X a ta) (hb:PE X b tb) {O:List (Addr × Obj)} {s:Shared} {Y:St} {H:Hp} {R:V->V->Hp->Prop} (I:Inv X O Y H s) (h:ta Y H fun x H1=>tb Y H1 fun y H2=>R x y H2)
  {α:Type} {Q:α->Shared->Prop} {f:Value->Value->Sem α}
  (hf:∀ v u s2 x y H2,Inv X O Y H2 s2->RelV x v->RelV y u->R x y H2->wpAny (model X.prog X.w) X.A (f v u) Q X.xe s2) :
  wpAny (model X.prog X.w) X.A (eval a X.env) (fun v s₁=>wpAny (model X.prog X.w) X.A (eval b X.env) (fun u s₂=>wpAny (model X.prog X.w) X.A (f v u) Q X.xe s₂) X.xe s₁) X.xe s:=by
 refine thn (ha O s Y H _ I h) fun v s1 ⟨x,H1,I1,r1,q1⟩=>?_
 refine thn (hb O s1 Y H1 _ I1 q1) fun u s2 ⟨y,H2,I2,r2,q2⟩=>?_
 exact hf v u s2 x y H2 I2 r1 r2 q2
def tVar (i:Nat):TE:=fun Y H Q=>∃ v,Y[i]? = some (some v)/\Q v H
def tC (v:V):TE:=fun _ H Q=>Q v H
def zdl  (hN:X.N[i]? = some x) (hv:Vis X.env.scope x) (hd:(x == ("__debug__" : Str)) = false:=by decide) (hcd:(x == ("__classdict__" : Str)) = false:=by decide):PE X (.Name x pos) (tVar i):=by
 intro O s Y H Q I h
 obtain ⟨v,e,h⟩:=h
 obtain ⟨m,hn,hl⟩:=I.loc
 obtain ⟨u,r,l⟩:=hl i x v hN e hv
 have fin:EP X O Y Q u s:=⟨v,H,I,r,h⟩
 rcases l with ⟨hk,hm⟩ | ⟨hk,c,hc,hcell⟩
 .exact wpAny_Name (wpAny_loadName_local I.ok.kind hk hn hm fin) hd
 .rcases hk with hk | hk
  .exact wpAny_Name (wpAny_loadName_cell I.ok.kind hk hc hcell fin) hd
  .exact wpAny_Name (wpAny_loadName_free I.ok.kind hk hc hcell fin hcd) hd
def zaC {i j pos}:PE X (.Constant (.int i) j pos) (tC (.int i)):=fun _ _ _ H _ I h=>wpAny_Constant_int ⟨.int i,H,I.tok _,⟨_,rfl⟩,h⟩
def zlb {b j pos}:PE X (.Constant (.bool b) j pos) (tC (.bl b)):=fun _ _ _ H _ I h=>Constant_bool ⟨.bl b,H,I,rfl,h⟩
def zgr {j pos}:PE X (.Constant .none j pos) (tC .non):=fun _ _ _ H _ I h=>Constant_none ⟨.non,H,I,rfl,h⟩
def zon {x j pos}:PE X (.Constant (.str x) j pos) (tC (.str x)):=fun _ _ _ H _ I h=>Calls.Constant_str ⟨.str x,H,I.tok _,⟨_,rfl⟩,h⟩
def Gl (X:Cx) (x:Str):Prop:=X.env.kindOf x = some .globalImplicit
def znJ {E:Value->Shared->Prop} {O:List (Addr × Obj)} {s:Shared} {Y:St} {H:Hp} {x:Str} {u:Value} {pos:Pos} {Q:Value->Shared->Prop} (I:Inv X O Y H s) (hg:Gl X x) (hm:X.mg x = some u) (h:Q u s)
  (hd:(x == ("__debug__" : Str)) = false:=by decide):wpAny (model X.prog X.w) X.A (eval (.Name x pos) X.env) Q E s:=
 Calls.Name_function_global I.ok.kind hg (Calls.loadGlobal_global (by rw [I.ok.glob];exact I.mod.glob.keeps I.bk) hm h) hd
def zio {E:Value->Shared->Prop} {O:List (Addr × Obj)} {s:Shared} {Y:St} {H:Hp} {x:Str} {u:Value} {pos:Pos} {Q:Value->Shared->Prop} (I:Inv X O Y H s) (hg:Gl X x) (hm:X.mg x = none) (hv:bootBuiltins x = some u) (h:Q u s)
  (hn:x ≠ "__name__" := by decide) (hd:(x == ("__debug__" : Str)) = false:=by decide):wpAny (model X.prog X.w) X.A (eval (.Name x pos) X.env) Q E s:=by
 obtain ⟨mb,h1,h2⟩:=I.mod.blt
 exact Calls.Name_function_global I.ok.kind hg (Calls.loadGlobal_builtin (by rw [I.ok.glob];exact I.mod.glob.keeps I.bk) hm (by rw [I.ok.blt];exact h1.keeps I.bk) ((h2 x hn).trans hv) h) hd
def t2I (ta tb:TE) (k:Int->Int->Hp->Prop):St->Hp->Prop:=fun Y H=>ta Y H fun x H1=>tb Y H1 fun y H2=>∃ i j,x = .int i/\y = .int j/\k i j H2
def tAdd (ta tb:TE):TE:=fun Y H Q=>t2I ta tb (fun i j H2=>Q (.int (i + j)) H2) Y H
variable {a b:Expr} {ta tb:TE} {pos:Pos}
def zoY (ha:PE X a ta) (hb:PE X b tb):PE X (.BinOp a .Add b pos) (tAdd ta tb):=by
 intro O s Y H Q I h
 refine wpAny_BinOp (bin ha hb I h fun v u s2 x y H2 I2 rx ry q=>?_)
 obtain ⟨i,j,rfl,rfl,q⟩:=q
 obtain ⟨t,rfl⟩:=rx
 obtain ⟨t',rfl⟩:=ry
 exact add_int ⟨.int _,H2,I2.tok _,⟨_,rfl⟩,q⟩
noncomputable def PC (X:Cx) (op:CmpOp) (a b:Expr) (t:TE):Prop:=
 ∀ (O:List (Addr × Obj)) (s:Shared) (Y:St) (H:Hp) (Q:VK),Inv X O Y H s->t Y H Q ->
  wpAny (model X.prog X.w) X.A (eval a X.env) (fun v s₁=>wpAny (model X.prog X.w) X.A (eval b X.env) (fun u s₂=>wpAny (model X.prog X.w) X.A (compareOp op v u) (EP X O Y Q) X.xe s₂) X.xe s₁) X.xe s
def zk9 (b:Expr) {op:CmpOp} (h:op ≠ .In) (h2:op ≠ .NotIn):behindInMarks op b = false:=by
 have e1:(op == CmpOp.In) = false:=by cases op <;> first | rfl | exact absurd rfl h
 have e2:(op == CmpOp.NotIn) = false:=by cases op <;> first | rfl | exact absurd rfl h2
 cases b <;> simp [behindInMarks,e1,e2]
def tCmp (p:Int->Int->Bool) (ta tb:TE):TE:=fun Y H Q=>t2I ta tb (fun i j H2=>Q (.bl (p i j)) H2) Y H
abbrev tNeI:TE->TE->TE:=tCmp fun i j=>!decide (i = j)
def zoR {op:CmpOp} {p:Int->Int->Bool} (ha:PE X a ta) (hb:PE X b tb)
  (rule:∀ (i j:Int) (t u:Tok) (Q:Value->Shared->Prop) (s:Shared),Q (.bool (p i j)) s->wpAny (model X.prog X.w) X.A (compareOp op (.int i t) (.int j u)) Q X.xe s):PC X op a b (tCmp p ta tb):=by
 intro O s Y H Q I h
 refine bin ha hb I h fun v u s2 x y H2 I2 rx ry q=>?_
 obtain ⟨i,j,rfl,rfl,q⟩:=q
 obtain ⟨t,rfl⟩:=rx
 obtain ⟨t',rfl⟩:=ry
 exact rule i j t t' _ s2 ⟨.bl _,H2,I2,rfl,q⟩
def zmb (ha:PE X a ta) (hb:PE X b tb):PC X .NotEq a b (tNeI ta tb):=zoR ha hb fun _ _ _ _ _ _ h=>ne_int (by rw [bne,Bool.beq_eq_decide_eq];exact h)
def tIsN (ta:TE):TE:=fun Y H Q=>ta Y H fun x H1=>Q (.bl (decide (x = .non))) H1
def zpR (ta:TE):TE:=fun Y H Q=>ta Y H fun x H1=>Q (.bl (!decide (x = .non))) H1
def RelV.none_iff {x:V} {v:Value} (r:RelV x v):(v == Value.none) = decide (x = .non):=by
 cases x with
 | non=>cases r;rfl
 | bl _=>cases r;rfl
 | int _=>obtain ⟨t,rfl⟩:=r;rfl
 | str _=>obtain ⟨t,rfl⟩:=r;rfl
 | byt _=>obtain ⟨t,rfl⟩:=r;rfl
 | flt _=>obtain ⟨t,rfl⟩:=r;rfl
 | ref _=>cases r;rfl
 | ty _=>cases r;rfl
def zop {j pos'} (ha:PE X a ta):PC X .Is a (.Constant .none j pos') (tIsN ta):=by
 intro O s Y H Q I h
 refine thn (ha O s Y H _ I h) fun v s1 ⟨x,H1,I1,r1,q1⟩=>?_
 exact Constant_none (is_none_gen ⟨.bl _,H1,I1,by rw [r1.none_iff];rfl,q1⟩)
def zmJ {j pos'} (ha:PE X a ta):PC X .IsNot a (.Constant .none j pos') (zpR ta):=by
 intro O s Y H Q I h
 refine thn (ha O s Y H _ I h) fun v s1 ⟨x,H1,I1,r1,q1⟩=>?_
 exact Constant_none (isnot_none_gen ⟨.bl _,H1,I1,by rw [r1.none_iff];rfl,q1⟩)
def tB (t:TE):TT:=fun Y H Q=>t Y H fun x H1=>∃ c,x = .bl c/\Q c H1
def zdZ {op:CmpOp} {t:TE} (h:PC X op a b t) (h1:behindInMarks op b = false:=by first | exact zk9 _ (by decide) (by decide) | rfl):PT X (.Compare a [op] [b] pos) (tB t):=by
 intro O s Y H Q I hw
 refine wpAny_isTrue_Compare1 (thn (h O s Y H _ I hw) fun v s1 h1=>thn h1 fun u s2 h2=>thn h2 fun c s3 ⟨x,H1,I1,r1,q1⟩=>?_) h1
 obtain ⟨d,rfl,q⟩:=q1
 cases r1
 exact YBR ⟨H1,I1,q⟩
def zmf {e:Expr} {t:TE} (h:PE X e t) (he:∀ whole,isTrue e X.env whole = (do let v <- whole;standAt e.pos;holding [v] (truthy v)):=by intro _;rfl):PT X e (tB t):=by
 intro O s Y H Q I hw
 refine isTrue_plain (thn (h O s Y H _ I hw) fun v s1 ⟨x,H1,I1,r1,q1⟩=>?_) (he _)
 obtain ⟨d,rfl,q⟩:=q1
 cases r1
 exact YBR ⟨H1,I1,q⟩
variable {tA tB':TT} {rest:List Expr}
def tAnd (t u:TT):TT:=fun Y H Q=>t Y H fun c H1=>if c = true then u Y H1 Q else Q false H1
def tOr (t u:TT):TT:=fun Y H Q=>t Y H fun c H1=>if c = true then Q true H1 else u Y H1 Q
def tNot (t:TT):TT:=fun Y H Q=>t Y H fun c H1=>Q (!c) H1
def zhs (ha:PT X a tA):PW X (.BoolOp .And [a] pos) tA:=by
 intro wh O s Y H Q I h
 refine isTrue_and (thn (ha O s Y H Q I h) fun c s1 e=>?_)
 cases c with
 | true=>exact isTrue_and_nil e
 | false=>exact e
def zo8 (ha:PT X a tA):PW X (.BoolOp .Or [a] pos) tA:=by
 intro wh O s Y H Q I h
 refine isTrue_or (thn (ha O s Y H Q I h) fun c s1 e=>?_)
 cases c with
 | false=>exact isTrue_or_nil e
 | true=>exact e
def zjk (ha:PT X a tA) (hb:PW X (.BoolOp .And (b :: rest) pos) tB'):PW X (.BoolOp .And (a :: b :: rest) pos) (tAnd tA tB'):=by
 intro wh O s Y H Q I h
 refine isTrue_and (thn (ha O s Y H _ I h) fun c s1 ⟨H1,I1,q1⟩=>?_)
 cases c with
 | true=>exact hb wh O s1 Y H1 Q I1 q1
 | false=>exact ⟨H1,I1,q1⟩
def zpK (ha:PT X a tA) (hb:PW X (.BoolOp .Or (b :: rest) pos) tB'):PW X (.BoolOp .Or (a :: b :: rest) pos) (tOr tA tB'):=by
 intro wh O s Y H Q I h
 refine isTrue_or (thn (ha O s Y H _ I h) fun c s1 ⟨H1,I1,q1⟩=>?_)
 cases c with
 | true=>exact ⟨H1,I1,q1⟩
 | false=>exact hb wh O s1 Y H1 Q I1 q1
def zpd (ha:PT X a tA):PT X (.UnaryOp .Not a pos) (tNot tA):=by
 intro O s Y H Q I h
 exact isTrue_not (ha O s Y H (fun c H1=>Q (!c) H1) I h)
def zps (ta tb:TE):TE:=fun Y H Q=>ta Y H fun x H1=>∃ c,x = .bl c/\if c = true then tb Y H1 Q else Q (.bl false) H1
def zot {op} (h:PE X a t):PE X (.BoolOp op [a] pos) t:=fun O s Y H Q I hw=>BoolOp_one (h O s Y H Q I hw)
def zow (ha:PE X a ta) (hb:PE X (.BoolOp .And (b :: rest) pos) tb):PE X (.BoolOp .And (a :: b :: rest) pos) (zps ta tb):=by
 intro O s Y H Q I h
 refine BoolOp_and (thn (ha O s Y H _ I h) fun v s1 ⟨x,H1,I1,r1,q1⟩=>?_)
 obtain ⟨c,rfl,q1⟩:=q1
 cases r1
 refine YBR ?_
 cases c with
 | true=>exact hb O s1 Y H1 Q I1 q1
 | false=>exact ⟨.bl false,H1,I1,rfl,q1⟩
def tIf (t:TT) (ta tb:TE):TE:=fun Y H Q=>t Y H fun c H1=>if c = true then ta Y H1 Q else tb Y H1 Q
def zlz {c:Expr} (hc:PT X c tA) (ha:PE X a ta) (hb:PE X b tb):PE X (.IfExp c a b pos) (tIf tA ta tb):=by
 intro O s Y H Q I h
 refine wpAny_IfExp (thn (hc O s Y H _ I h) fun d s1 ⟨H1,I1,q1⟩=>?_)
 cases d with
 | true=>exact ha O s1 Y H1 Q I1 q1
 | false=>exact hb O s1 Y H1 Q I1 q1
end
def SqL (K:oS) (H:Hp) (a:Addr) (xs:List V):Prop:=
 Rd H a (.lst xs) \/
  ∃ (o:Obj) (its:Array Value) (n:Nat),K.lookup a = some o/\o.cls = .type "list" /\ o.dict = none/\o.data = .seq its n/\its.size <= sizeLine/\Vals xs its.toList
def SqT (K:oS) (H:Hp) (a:Addr) (xs:List V):Prop:=
 Rd H a (.tup xs) \/
  ∃ (o:Obj) (its:Array Value) (n:Nat),K.lookup a = some o/\o.cls = .type "tuple" /\ o.data = .seq its n/\its.size <= sizeLine/\Vals xs its.toList
def absV:Value->Option V
 | .none=>some .non
 | .bool b=>some (.bl b)
 | .int i _=>some (.int i)
 | .str x _=>some (.str x)
 | .bytes b _=>some (.byt b)
 | .float b _=>some (.flt b)
 | .ref a=>some (.ref a)
 | .type n=>some (.ty n)
 | _=>none
def RelV.abs  (r:RelV x u):absV u = some x:=by
 cases x with
 | non=>cases r;rfl
 | bl _=>cases r;rfl
 | int _=>obtain ⟨t,rfl⟩:=r;rfl
 | str _=>obtain ⟨t,rfl⟩:=r;rfl
 | byt _=>obtain ⟨t,rfl⟩:=r;rfl
 | flt _=>obtain ⟨t,rfl⟩:=r;rfl
 | ref _=>cases r;rfl
 | ty _=>cases r;rfl
theorem RelV.inj {x y:V} {u:Value} (r:RelV x u) (q:RelV y u):x = y:=Option.some.inj (r.abs.symm.trans q.abs)
theorem Vals.inj:∀ {xs ys:List V} {us:List Value},Vals xs us->Vals ys us->xs = ys
 | _,_,_,.nil,.nil=>rfl
 | _,_,_,.cons r t,.cons r' t'=>by rw [r.inj r',Vals.inj t t']
section
variable {X:Cx} {O:List (Addr × Obj)} {Y:St} {H:Hp} {s:Shared} {a:Addr} {xs ys:List V}
def SqL.of {K:oS} (h:H a = some (.lst xs)):SqL K H a xs:=.inl (.inl h)
def SqT.of {K:oS} (h:H a = some (.tup xs)):SqT K H a xs:=.inl (.inl h)
def Inv.list (I:Inv X O Y H s) (h:SqL X.K H a xs):∃ its:List Value,Vals xs its/\PlainL s.heap a its.toArray/\xs.length <= sizeLine:=by
 rcases h with h | ⟨o,its,n,hk,hc,hd,hs,hz,r⟩
 .obtain ⟨z,its,n,r,e⟩:=h.ok I.hok
  exact ⟨its,r,⟨_,n,e,rfl,rfl,rfl⟩,z⟩
 .refine ⟨its.toList,r,⟨o,n,I.kIn a o hk,hc,hd,by simpa using hs⟩,?_⟩
  have e:=r.length
  simp only [YBW] at e
  omega
def Inv.tuple (I:Inv X O Y H s) (h:SqT X.K H a xs):∃ its:List Value,Vals xs its/\IsTup s.heap a its.toArray/\xs.length <= sizeLine:=by
 rcases h with h | ⟨o,its,n,hk,hc,hs,hz,r⟩
 .obtain ⟨z,its,r,p⟩:=h.ok I.hok
  exact ⟨its,r,p,z⟩
 .refine ⟨its.toList,r,⟨o,I.kIn a o hk,hc,n,by simpa using hs⟩,?_⟩
  have e:=r.length
  simp only [YBW] at e
  omega
def Inv.list_inj (I:Inv X O Y H s) (h:SqL X.K H a xs) (h':SqL X.K H a ys):xs = ys:=by
 obtain ⟨its,r,⟨o,n,e,_,_,d⟩,_⟩:=I.list h
 obtain ⟨its',r',⟨o',n',e',_,_,d'⟩,_⟩:=I.list h'
 rw [e] at e';cases e'
 rw [d] at d'
 injection d' with d1 _
 have:its = its':=by simpa using congrArg Array.toList d1
 subst this
 exact r.inj r'
def Inv.tuple_inj (I:Inv X O Y H s) (h:SqT X.K H a xs) (h':SqT X.K H a ys):xs = ys:=by
 obtain ⟨its,r,⟨o,e,_,n,d⟩,_⟩:=I.tuple h
 obtain ⟨its',r',⟨o',e',_,n',d'⟩,_⟩:=I.tuple h'
 rw [e] at e';cases e'
 rw [d] at d'
 injection d' with d1 _
 have:its = its':=by simpa using congrArg Array.toList d1
 subst this
 exact r.inj r'
end
abbrev Cx.wish (X:Cx) (E:Value->Shared->Prop):Cx:={ X with xe:=E }
abbrev Cx.nox (X:Cx):Cx:=X.wish fun _ _=>False
theorem Cx.Ok.wish {X:Cx} (ok:X.Ok) (E:Value->Shared->Prop):(X.wish E).Ok:=
 ⟨ok.mod,ok.kind,ok.glob,ok.blt,ok.above,ok.inj,ok.has,ok.cab,ok.hd,ok.frames,ok.stk,ok.exf,ok.bs,ok.bsz,ok.noex,ok.exfs,ok.funs,ok.frf⟩
def Cx.Ok.unwish {X:Cx} {E:Value->Shared->Prop} (ok:(X.wish E).Ok):X.Ok:=
 ⟨ok.mod,ok.kind,ok.glob,ok.blt,ok.above,ok.inj,ok.has,ok.cab,ok.hd,ok.frames,ok.stk,ok.exf,ok.bs,ok.bsz,ok.noex,ok.exfs,ok.funs,ok.frf⟩
section
variable {X:Cx} {O:List (Addr × Obj)} {Y:St} {H:Hp} {s:Shared} {E:Value->Shared->Prop}
theorem Inv.wish (I:Inv X O Y H s) (E:Value->Shared->Prop):Inv (X.wish E) O Y H s:=⟨I.ok.wish E,I.os,I.bare,I.base,I.loc,I.cell,I.free,I.freeC,I.pin,I.hok,I.len⟩
theorem Inv.unwish (I:Inv (X.wish E) O Y H s):Inv X O Y H s:=⟨I.ok.unwish,I.os,I.bare,I.base,I.loc,I.cell,I.free,I.freeC,I.pin,I.hok,I.len⟩
theorem SP.unwish  (h:SP (X.wish E) O D f s'):SP X O D f s':=by
 cases f with
 | next=>obtain ⟨Y',H',I,q⟩:=h;exact ⟨Y',H',I.unwish,q⟩
 | brk=>obtain ⟨Y',H',I,q⟩:=h;exact ⟨Y',H',I.unwish,q⟩
 | cont=>obtain ⟨Y',H',I,q⟩:=h;exact ⟨Y',H',I.unwish,q⟩
 | ret u=>obtain ⟨v,Y',H',I,r,q⟩:=h;exact ⟨v,Y',H',I.unwish,r,q⟩
theorem PSs.nox {st:List Stmt} {t:TS} (h:PSs X.nox st t):PSs X st t:=fun O s Y H D I hw=>
 YA5 (h O s Y H D (I.wish _) hw) (fun _ _ q=>q.unwish) fun _ _ z=>False.elim z
end
section
variable {X:Cx} {st:Stmt} {rest:List Stmt} {t u:TS} {e:Expr} {te:TE} {pos:Pos}
def zpO:TS:=fun D Y H=>D.nx Y H
def tSeq (t u:TS):TS:=fun D Y H=>t { D with nx:=u D } Y H
def zba:PSs X [] zpO:=fun _ _ Y H _ I h=>YC7 ⟨Y,H,I,h⟩
def zai (h1:PS X st t) (h2:PSs X rest u):PSs X (st :: rest) (tSeq t u):=by
 intro O s Y H D I h
 refine wpAny_execs_cons (thn (h1 O s Y H { D with nx:=u D } I h) fun f s1 q=>?_)
 cases f with
 | next=>
  obtain ⟨Y',H',I',q⟩:=q
  exact h2 O s1 Y' H' D I' q
 | ret v=>exact q
 | brk=>exact q
 | cont=>exact q
def zap (h1:PS X st t):PSs X [st] t:=by
 intro O s Y H D I h
 refine wpAny_execs_cons (thn (h1 O s Y H D I h) fun f s1 q=>?_)
 cases f with
 | next=>exact YC7 q
 | ret v=>exact q
 | brk=>exact q
 | cont=>exact q
def Inv.quiet {O:List (Addr × Obj)} {Y:St} {H:Hp} {s:Shared} (I:Inv X O Y H s):interactive X.env = false:=by simp [interactive,I.ok.kind]
def zpM (te:TE):TS:=fun D Y H=>te Y H fun _ H1=>D.nx Y H1
def zcG (he:PE X e te) (hs:swapsWith e none pos.line X.env = pure false:=by rfl):PS X (.Expr e pos) (zpM te):=by
 intro O s Y H D I h
 exact wpAny_Expr_any (thn (he O s Y H _ I h) fun v s1 ⟨x,H1,I1,r1,q1⟩=>⟨Y,H1,I1,q1⟩) I.quiet hs
def tRet (te:TE):TS:=fun D Y H=>te Y H D.rt
def za3 (he:PE X e te):PS X (.Return (some e) pos) (tRet te):=by
 intro O s Y H D I h
 exact wpAny_Return_some (thn (he O s Y H _ I h) fun v s1 ⟨x,H1,I1,r1,q1⟩=>⟨x,Y,H1,I1,r1,q1⟩)
def tIfS (c:TT) (t u:TS):TS:=fun D Y H=>c Y H fun b H1=>if b = true then t D Y H1 else u D Y H1
def zc2 {c:Expr} {a b:List Stmt} {tc:TT} (hc:PT X c tc) (ha:PSs X a t) (hb:PSs X b u):PS X (.If c a b pos) (tIfS tc t u):=by
 intro O s Y H D I h
 refine wpAny_If (thn (hc O s Y H _ I h) fun d s1 ⟨H1,I1,q1⟩=>?_)
 cases d with
 | true=>exact ha O s1 Y H1 D I1 q1
 | false=>exact hb O s1 Y H1 D I1 q1
end
abbrev TG:=V->St->Hp->(St->Hp->Prop)->Prop
abbrev TGs:=List V->St->Hp->(St->Hp->Prop)->Prop
def PG (X:Cx) (target:Expr) (t:TG):Prop:=
 ∀ (O:List (Addr × Obj)) (s:Shared) (Y:St) (H:Hp) (v:V) (u:Value) (Q:St->Hp->Prop),Inv X O Y H s->RelV v u->t v Y H Q ->
  wpAny (model X.prog X.w) X.A (assign target X.env u) (fun _ s'=>∃ Y' H',Inv X O Y' H' s'/\Q Y' H') X.xe s
noncomputable def PGs (X:Cx) (ts:List Expr) (t:TGs):Prop:=
 ∀ (O:List (Addr × Obj)) (s:Shared) (Y:St) (H:Hp) (vs:List V) (us:List Value) (Q:St->Hp->Prop),Inv X O Y H s->Vals vs us->t vs Y H Q ->
  wpAny (model X.prog X.w) X.A (assignInOrder ((assignEach ts X.env).map (·.2)) us) (fun _ s'=>∃ Y' H',Inv X O Y' H' s'/\Q Y' H') X.xe s
abbrev TSet:=V->V->V->Hp->(Hp->Prop)->Prop
def PSet (X:Cx) (t:TSet):Prop:=
 ∀ (O:List (Addr × Obj)) (s:Shared) (Y:St) (H:Hp) (o i v:V) (ov iv u:Value) (Q:Hp->Prop),Inv X O Y H s->RelV o ov->RelV i iv->RelV v u->t o i v H Q ->
  wpAny (model X.prog X.w) X.A (setItem ov iv u) (fun _ s'=>∃ H',Inv X O Y H' s'/\Q H') X.xe s
abbrev TIp:=V->V->Hp->VK->Prop
def PIp (X:Cx) (op:Operator) (t:TIp):Prop:=
 ∀ (O:List (Addr × Obj)) (s:Shared) (Y:St) (H:Hp) (x y:V) (v u:Value) (Q:VK),Inv X O Y H s->RelV x v->RelV y u->t x y H Q ->
  wpAny (model X.prog X.w) X.A (inplaceOp op v u) (EP X O Y Q) X.xe s
section
variable {X:Cx} {pos:Pos}
def zco (i:Nat):TG:=fun v Y H Q=>Q (Y.set i (some v)) H
def zas  (hN:X.N.Nodup) (hi:X.N[i]? = some x) (hx:Loc X.env.scope x) (hf:X.fn x = true\/X.env.scope.names.lookup x = some .local:=by first | exact .inl rfl | exact .inr rfl | assumption):PG X (.Name x pos) (zco i):=by
 intro O s Y H v u Q I r h
 exact YDq (zfW I hN hi hx r (fun s' I'=>⟨_,H,I',h⟩) hf)
def gNil:TGs:=fun vs Y H Q=>vs = []/\Q Y H
def zd8 (t:TG) (u:TGs):TGs:=fun vs Y H Q=>∃ v r,vs = v :: r/\t v Y H fun Y' H'=>u r Y' H' Q
def zaG:PGs X [] gNil:=by
 intro O s Y H vs us Q I r h
 obtain ⟨e,h⟩:=h
 subst e
 cases r
 exact assignInOrder_nil ⟨Y,H,I,h⟩
def zag {e:Expr} {es:List Expr} {t:TG} {u:TGs} (h1:PG X e t) (h2:PGs X es u)
  (hs:(assignEach (e :: es) X.env).map (·.2) = assign e X.env :: (assignEach es X.env).map (·.2):=by rfl):PGs X (e :: es) (zd8 t u):=by
 intro O s Y H vs us Q I r h
 obtain ⟨v,vr,e1,h⟩:=h
 subst e1
 cases r with
 | cons r rr=>
  rw [hs]
  refine assignInOrder_cons (thn (h1 O s Y H _ _ _ I r h) fun _ s1 ⟨Y1,H1,I1,q1⟩=>?_)
  exact h2 O s1 Y1 H1 _ _ Q I1 rr q1
def gTup (K:oS) (n:Nat) (t:TGs):TG:=fun v Y H Q=>∃ a xs,v = .ref a/\SqT K H a xs/\xs.length = n/\t xs Y H Q
def zbM   (hc:X.calm = true) (h:PGs X es t)
  (hn:(assignEach es X.env).length = n:=by rfl) (hst:(assignEach es X.env).findIdx? (·.1) = none:=by rfl):PG X (.Tuple es k pos) (gTup X.K n t):=by
 intro O s Y H v u Q I r hw
 obtain ⟨a,xs,e1,hq,hl,hw⟩:=hw
 subst e1
 cases r
 obtain ⟨its,rv,ht,hz⟩:=I.tuple hq
 refine assign_Tuple_tuple (I.ok.hd hc) ht (by simp [hn,<- hl,rv.length]) hst fun h' hx=>?_
 have I1:Inv X O Y H { s with heap:=h' }:=I.kept (t':=s.toks) fun b o e=>hx b o (YAt (YAp e)) e
 exact h O _ Y H xs _ Q I1 (by simpa using rv) hw
def gSub (to ti:TE) (t:TSet):TG:=fun v Y H Q=>to Y H fun o H1=>ti Y H1 fun i H2=>t o i v H2 fun H3=>Q Y H3
def zgF {o i:Expr} {to ti:TE} {t:TSet} (ho:PE X o to) (hi:PE X i ti) (hs:PSet X t)
  (ha:∀ v,assign (.Subscript o i pos) X.env v = (do
   let ov <- holding [v] (eval o X.env)
   let iv <- holding [v,ov] (eval i X.env)
   standAt pos
   holding [v,ov,iv] (setItem ov iv v)
   release [v,ov,iv] []):=by intro _;rfl):PG X (.Subscript o i pos) (gSub to ti t):=by
 intro O s Y H v u Q I r h
 rw [ha]
 refine YAa (YAR (thn (ho O s Y H _ I h) fun ov s1 ⟨x,H1,I1,r1,q1⟩=>?_))
 refine YAa (YAR (thn (hi O s1 Y H1 _ I1 q1) fun iv s2 ⟨y,H2,I2,r2,q2⟩=>?_))
 refine YAa (YBj (YAa (YAR (thn (hs O s2 Y H2 x y v ov iv u _ I2 r1 r2 r q2) fun _ s3 ⟨H3,I3,q3⟩=>?_))))
 exact wpAny_release ⟨Y,H3,I3,q3⟩
def tAsg (te:TE) (g:TG):TS:=fun D Y H=>te Y H fun x H1=>g x Y H1 D.nx
def zcT {tg e:Expr} {te:TE} {g:TG} (he:PE X e te) (hg:PG X tg g) (hs:swapsWithSole [tg] e pos.line X.env = pure false:=by rfl) (hw:swappedStores [tg] e X.env = pure none:=by rfl)
  (h1:(assignEach [tg] X.env).map (·.2) = [assign tg X.env]:=by rfl):PS X (.Assign [tg] e pos) (tAsg te g):=by
 intro O s Y H D I h
 refine wpAny_Assign_stores (thn (he O s Y H _ I h) fun v s1 ⟨x,H1,I1,r1,q1⟩=>?_) hs hw
 rw [h1]
 exact thn (hg O s1 Y H1 x v _ I1 r1 q1) fun _ s2 q=>q
def zaM {i:Nat} {x:Str} {e:Expr} {te:TE} {pos':Pos} (hN:X.N.Nodup) (hi:X.N[i]? = some x) (hx:Loc X.env.scope x) (he:PE X e te) (hs:swapsWith e (some (.Name x pos')) pos.line X.env = pure false:=by rfl) (hf:X.fn x = true\/X.env.scope.names.lookup x = some .local:=by first | exact .inl rfl | exact .inr rfl | assumption) :
  PS X (.Assign [.Name x pos'] e pos) (tAsg te (zco i)):=by
 intro O s Y H D I h
 refine wpAny_Assign_Name (thn (he O s Y H _ I h) fun v s1 ⟨y,H1,I1,r1,q1⟩=>?_) hs
 exact zfW I1 hN hi hx r1 (fun s2 I2=>⟨_,H1,I2,q1⟩) hf
def tAug (i:Nat) (te:TE) (ti:TIp):TS:=fun D Y H=>∃ x,Y[i]? = some (some x)/\te Y H fun y H1=>ti x y H1 fun z H2=>D.nx (Y.set i (some z)) H2
def zo0 {i:Nat} {x:Str} {e:Expr} {te:TE} {op:Operator} {ti:TIp} {pos':Pos} (hN:X.N.Nodup) (hi:X.N[i]? = some x) (hx:Loc X.env.scope x) (he:PE X e te) (ho:PIp X op ti) (hf:X.fn x = true\/X.env.scope.names.lookup x = some .local:=by first | exact .inl rfl | exact .inr rfl | assumption) :
  PS X (.AugAssign (.Name x pos') op e pos) (tAug i te ti):=by
 intro O s Y H D I h
 obtain ⟨v,e1,h⟩:=h
 obtain ⟨m,hn,hl⟩:=I.loc
 have vis:Vis X.env.scope x:=by rcases hx with k | k;exact .inl k;exact .inr (.inl k)
 obtain ⟨u,r,l⟩:=hl i x v hi e1 vis
 refine wpAny_AugAssign_Name ?_
 have go:wpAny (model X.prog X.w) X.A (eval e X.env) (fun w s₂=>wpAny (model X.prog X.w) X.A (inplaceOp op u w) (fun r s₃=>wpAny (model X.prog X.w) X.A (storeName X.env x r) (fun _=>SP X O D .next) X.xe s₃) X.xe s₂) X.xe s:=by
  refine thn (he O s Y H _ I h) fun w s1 ⟨y,H1,I1,r1,q1⟩=>?_
  refine thn (ho O s1 Y H1 v y u w _ I1 r r1 q1) fun z s2 ⟨zv,H2,I2,r2,q2⟩=>?_
  exact zfW I2 hN hi hx r2 (fun s3 I3=>⟨_,H2,I3,q2⟩) hf
 rcases l with ⟨hk,hm⟩ | ⟨hk,c,hc,hcell⟩
 .exact wpAny_loadName_local I.ok.kind hk hn hm go
 .rcases hk with hk | hk
  .exact wpAny_loadName_cell I.ok.kind hk hc hcell go
  .rcases hx with k | k
   .have:X.env.scope.names.lookup x = some .free:=hk
    rw [k] at this;cases this
   .have:X.env.scope.names.lookup x = some .free:=hk
    rw [k] at this;cases this
def zpP (to ti te:TE) (tget:V->V->Hp->VK->Prop) (tip:TIp) (tset:TSet):TS:=fun D Y H=>to Y H fun o H1=>ti Y H1 fun i H2=>tget o i H2 fun x H3=>te Y H3 fun y H4=>tip x y H4 fun z H5=>tset o i z H5 fun H6=>D.nx Y H6
def PGet (X:Cx) (t:V->V->Hp->VK->Prop):Prop:=
 ∀ (O:List (Addr × Obj)) (s:Shared) (Y:St) (H:Hp) (o i:V) (ov iv:Value) (Q:VK),Inv X O Y H s->RelV o ov->RelV i iv->t o i H Q ->
  wpAny (model X.prog X.w) X.A (getItem ov iv) (EP X O Y Q) X.xe s
def zjX {o i e:Expr} {to ti te:TE} {tget:V->V->Hp->VK->Prop} {tip:TIp} {tset:TSet} {op:Operator} {tpos:Pos} (ho:PE X o to) (hi:PE X i ti) (hg:PGet X tget) (he:PE X e te) (hp:PIp X op tip) (hs:PSet X tset)
  (ha:∀ ov iv new,augStore i ov iv new = (do holding [new,ov,iv] (setItem ov iv new);release [new,ov,iv] [];pure .next):=by intros;rfl):PS X (.AugAssign (.Subscript o i tpos) op e pos) (zpP to ti te tget tip tset):=by
 intro O s Y H D I h
 refine wpAny_AugAssign_SubscriptAny (thn (ho O s Y H _ I h) fun ov s1 ⟨x1,H1,I1,r1,q1⟩=>?_) ha
 refine thn (hi O s1 Y H1 _ I1 q1) fun iv s2 ⟨x2,H2,I2,r2,q2⟩=>?_
 refine thn (hg O s2 Y H2 x1 x2 ov iv _ I2 r1 r2 q2) fun old s3 ⟨x3,H3,I3,r3,q3⟩=>?_
 refine thn (he O s3 Y H3 _ I3 q3) fun v s4 ⟨x4,H4,I4,r4,q4⟩=>?_
 refine thn (hp O s4 Y H4 x3 x4 old v _ I4 r3 r4 q4) fun new s5 ⟨x5,H5,I5,r5,q5⟩=>?_
 exact thn (hs O s5 Y H5 x1 x2 x5 ov iv new _ I5 r1 r2 r5 q5) fun _ s6 ⟨H6,I6,q6⟩=>⟨Y,H6,I6,q6⟩
def ipI (f:Int->Int->Int):TIp:=fun x y H Q=>∃ i j,x = .int i/\y = .int j/\Q (.int (f i j)) H
def zjF:PIp X .Add (ipI fun i j=>i + j):=by
 intro O s Y H x y v u Q I r1 r2 h
 obtain ⟨i,j,e1,e2,q⟩:=h
 subst e1;subst e2
 obtain ⟨t,rfl⟩:=r1
 obtain ⟨t',rfl⟩:=r2
 exact iadd_int ⟨.int _,H,I.tok _,⟨_,rfl⟩,q⟩
end
section
variable {X:Cx} {pos:Pos}
def zog (c:TT) (tb:TS):TS:=fun D Y H=>∃ W:Nat->St->Hp->Prop,(∃ m,W m Y H)/\∀ m Y H,W m Y H ->
 c Y H fun b H1=>if b = true then ∃ N:St->Hp->Prop,(∀ Y' H',N Y' H'->∃ m',m' < m/\W m' Y' H')/\tb { D with nx:=N,ct:=N,bk:=D.nx } Y H1 else D.nx Y H1
def zhQ {c:Expr} {body:List Stmt} {tc:TT} {tb:TS} (hp:PassesOwn (model X.prog X.w) X.A X.env X.xe) (hc:PT X c tc) (hb:PSs X body tb):PS X (.While c body [] pos) (zog tc tb):=by
 intro O s Y H D I h
 obtain ⟨W,⟨m0,w0⟩,turn⟩:=h
 refine wpAny_While (codeAny_whileLoop (fun n s'=>∃ Y' H',Inv X O Y' H' s'/\W n Y' H') ?_ m0 ⟨Y,H,I,w0⟩)
 rintro n s1 ⟨Y1,H1,I1,w1⟩
 refine YCf hp (thn (hc O s1 Y1 H1 _ I1 (turn n Y1 H1 w1)) fun b s2 ⟨H2,I2,q2⟩=>?_)
 cases b with
 | true=>
  obtain ⟨N,hN,q2⟩:=q2
  rw [if_pos rfl]
  refine YCf hp (thn (hb O s2 Y1 H2 _ I2 q2) fun f s3 q3=>?_)
  cases f with
  | next=>
   obtain ⟨Y3,H3,I3,n3⟩:=q3
   obtain ⟨m',hm,w3⟩:=hN Y3 H3 n3
   exact ⟨m',hm,Y3,H3,I3,w3⟩
  | cont=>
   obtain ⟨Y3,H3,I3,n3⟩:=q3
   obtain ⟨m',hm,w3⟩:=hN Y3 H3 n3
   exact ⟨m',hm,Y3,H3,I3,w3⟩
  | brk=>exact q3
  | ret v=>exact q3
 | false=>
  rw [if_neg YAy]
  exact YC7 ⟨Y1,H2,I2,q2⟩
end
structure It where
 go:Nat->Hp->Prop
 yld:Nat->Hp->V->Hp->Prop
 stop:Nat->Hp->Prop
def FpOk (X:Cx) (O:List (Addr × Obj)) (H:Hp) (b:Addr):Prop:=
 H b = none/\b ≠ X.env.locals/\b ∉ X.fs/\(b ∈ X.ex\/X.s₀.heap.objs.size <= b)/\(∀ x c,X.env.cells.lookup x = some c->c ≠ b)/\∀ p ∈ X.pn ++ O,p.1 ≠ b
def Inv.fpOk {X:Cx} {O:List (Addr × Obj)} {Y:St} {H H':Hp} {s:Shared} {b:Addr} (I:Inv X O Y H s) (hb:s.heap.objs.size <= b) (hn:H' b = none):FpOk X O H' b:=by
 refine ⟨hn,YA0 (YAu I.lt hb),I.nofs hb,.inr (YAZ I.sz hb),fun x c e z=>?_,fun p hp z=>?_⟩
 .obtain ⟨v,q⟩:=I.cell x c e
  exact absurd (YAu q.lt (by rw [z];exact hb)) (YA9 _)
 .exact absurd (YAu (YAp (I.pin p hp).1) (by rw [z];exact hb)) (YA9 _)
structure Turn (P:Program) (w:World) (K:oS) (tg:Expr) (J:It) (fp:List Addr) (it:Addr) (tn:Nat->Heap->Prop):Prop where
 mem:it ∈ fp
 obj:∀ i h,tn i h->∀ b ∈ fp,∃ o,h.get? b = some o/\∀ v,o.data ≠ .cell v
 keep:∀ i h h',tn i h->(∀ b ∈ fp,∀ o,h.get? b = some o->h'.get? b = some o)->tn i h'
 item:∀ (X:Cx),X.prog = P->X.w = w->X.K = K->X.calm = true->∀ (i:Nat) (O:List (Addr × Obj)) (s:Shared) (Y:St) (H:Hp) (E:Value->Shared->Prop),Inv X O Y H s->(∀ b ∈ fp,FpOk X O H b)->tn i s.heap->J.go i H ->
  wpAny (model P w) X.A (pyNext (.ref it)) (fun r s1=>∃ u,r = some u /\
   wpAny (model P w) X.A (letOwnedTupleGo tg (.ref it) u) (fun _ s2=>∃ x H',Inv X O Y H' s2/\RelV x u/\J.yld i H x H'/\tn (i + 1) s2.heap/\∀ b ∈ fp,H' b = none) E s1) E s
 done:∀ (X:Cx),X.prog = P->X.w = w->X.K = K->X.calm = true->∀ (i:Nat) (O:List (Addr × Obj)) (s:Shared) (Y:St) (H:Hp) (E:Value->Shared->Prop),Inv X O Y H s->(∀ b ∈ fp,FpOk X O H b)->tn i s.heap->J.stop i H ->
  wpAny (model P w) X.A (pyNext (.ref it)) (fun r s1=>r = none/\Inv X O Y H s1) E s
 self:∀ (A:Around) (i:Nat) (s:Shared) (Q:Value->Shared->Prop) (E:Value->Shared->Prop),tn i s.heap->Q (.ref it) s->wpAny (model P w) A (pyIter (.ref it)) Q E s
abbrev TI:=St->Hp->(It->Hp->Prop)->Prop
def PIE (X:Cx) (O:List (Addr × Obj)) (Y:St) (tg:Expr) (R:It->Hp->Prop) (itv:Value) (s2:Shared):Prop:=
 ∃ (it:Addr) (fp:List Addr) (tn:Nat->Heap->Prop) (J:It) (H':Hp),itv = .ref it/\Inv X O Y H' s2/\Turn X.prog X.w X.K tg J fp it tn/\tn 0 s2.heap/\(∀ b ∈ fp,FpOk X O H' b)/\R J H'
def PI (X:Cx) (tg iter:Expr) (wi:TI):Prop:=
 ∀ (O:List (Addr × Obj)) (s:Shared) (Y:St) (H:Hp) (R:It->Hp->Prop),Inv X O Y H s->wi Y H R ->
  wpAny (model X.prog X.w) X.A (eval iter X.env) (fun v s1=>wpAny (model X.prog X.w) X.A (pyIter v) (PIE X O Y tg R) X.xe s1) X.xe s
def zmY      (ho:s.heap.get? it = some o) (hc:o.cls = .type n) (hd:o.data = .fields vs)
    (hn:["enumerate","zip","dict_itemiterator","dict_reverseitemiterator","odict_iterator","itertools.zip_longest","itertools.pairwise"].contains n = false) (hQ:Q () s):wpAny M A (letOwnedTupleGo tg (.ref it) u) Q E s:=by
  unfold letOwnedTupleGo
  cases tg <;> first
    | exact YAb hQ
    | (cases u <;> first
        | exact YAb hQ
        | (refine YAa (wpAny_load ho ?_)
           rw [hc,hd]
           show wpAny M A (if (["enumerate","zip","dict_itemiterator","dict_reverseitemiterator","odict_iterator","itertools.zip_longest","itertools.pairwise"].contains n && vs[0]? == some (rawInt _)) = true then _ else _) Q E s
           rw [if_neg (by intro h;rw [hn,Bool.false_and] at h;cases h)]
           exact YAb hQ))
def Itl (K:oS) (a:Addr):It:=
 ⟨fun i H=>∃ xs x,SqL K H a xs/\xs[i]? = some x,fun i H x H'=>H' = H/\∀ xs,SqL K H a xs->xs[i]? = some x,fun i H=>∃ xs,SqL K H a xs/\xs.length <= i⟩
def Itt (K:oS) (a:Addr):It:=
 ⟨fun i H=>∃ xs x,SqT K H a xs/\xs[i]? = some x,fun i H x H'=>H' = H/\∀ xs,SqT K H a xs->xs[i]? = some x,fun i H=>∃ xs,SqT K H a xs/\xs.length <= i⟩
def Itr (lo:Int) (n:Nat):It:=⟨fun i _=>i < n,fun i H x H'=>H' = H/\x = .int (lo + i),fun i _=>n <= i⟩
def zgp {P:Program} {w:World} {K:oS} {tg:Expr} (a it:Addr):Turn P w K tg (Itl K a) [it] it (fun i h=>h.IsListIter it a i) where
 mem:=by simp
 obj:=fun i h st b hb=>by
  have e:b = it:=by simpa using hb
  subst e
  obtain ⟨o,e,c,d⟩:=st
  exact ⟨o,e,fun v z=>by rw [d] at z;cases z⟩
 keep:=fun i h h' st k=>st.at fun o e=>k it (by simp) o e
 item:=by
  intro X hP hw hK hc i O s Y H E I hf st hg
  subst hP hw hK
  obtain ⟨xs,x,hq,hx⟩:=hg
  obtain ⟨its,rv,p,hz⟩:=I.list hq
  obtain ⟨u,hu,ru⟩:=rv.get hx
  obtain ⟨f0,f1,f2,f3,f4,f5⟩:=hf it (by simp)
  refine wpAny_pyNext_list_item st p.isList (x:=u) (by simpa using hu) fun h' st' sb=>?_
  have I1:Inv X O Y H { s with heap:=h' }:=I.turned (t':=s.toks) (fun b o hb e=>(sb.2 b hb).trans e) f0 f1 f3 f4 f5
  obtain ⟨o,e,c,d⟩:=id st'
  exact ⟨u,rfl,zmY (s:={ s with heap:=h' }) e c d (by decide) ⟨x,H,I1,ru,⟨rfl,fun ys hy=>by rw [I.list_inj hy hq];exact hx⟩,st',fun b hb=>(hf b hb).1⟩⟩
 done:=by
  intro X hP hw hK hc i O s Y H E I hf st hg
  subst hP hw hK
  obtain ⟨xs,hq,hx⟩:=hg
  obtain ⟨its,rv,p,hz⟩:=I.list hq
  obtain ⟨f0,f1,f2,f3,f4,f5⟩:=hf it (by simp)
  have hl:=rv.length
  exact wpAny_pyNext_list_end (I.ok.hd hc) st p.isList (by simp;omega) fun h' eb=>⟨rfl,I.turned (t':=s.toks) (fun b o hb e=>eb b o hb e) f0 f1 f3 f4 f5⟩
 self:=fun _ _ _ _ _ st h=>wpAny_pyIter_listiter st h
def ziO {P:Program} {w:World} {K:oS} {tg:Expr} (a it:Addr):Turn P w K tg (Itt K a) [it] it (fun i h=>h.IsTupleIter it a i) where
 mem:=by simp
 obj:=fun i h st b hb=>by
  have e:b = it:=by simpa using hb
  subst e
  obtain ⟨o,e,c,d⟩:=st
  exact ⟨o,e,fun v z=>by rw [d] at z;cases z⟩
 keep:=fun i h h' st k=>st.at fun o e=>k it (by simp) o e
 item:=by
  intro X hP hw hK hc i O s Y H E I hf st hg
  subst hP hw hK
  obtain ⟨xs,x,hq,hx⟩:=hg
  obtain ⟨its,rv,p,hz⟩:=I.tuple hq
  obtain ⟨u,hu,ru⟩:=rv.get hx
  obtain ⟨f0,f1,f2,f3,f4,f5⟩:=hf it (by simp)
  refine wpAny_pyNext_tuple_item st (show s.heap.IsTuple a its.toArray from p) (x:=u) (by simpa using hu) fun h' st' sb=>?_
  have I1:Inv X O Y H { s with heap:=h' }:=I.turned (t':=s.toks) (fun b o hb e=>(sb.2 b hb).trans e) f0 f1 f3 f4 f5
  obtain ⟨o,e,c,d⟩:=id st'
  exact ⟨u,rfl,zmY (s:={ s with heap:=h' }) e c d (by decide) ⟨x,H,I1,ru,⟨rfl,fun ys hy=>by rw [I.tuple_inj hy hq];exact hx⟩,st',fun b hb=>(hf b hb).1⟩⟩
 done:=by
  intro X hP hw hK hc i O s Y H E I hf st hg
  subst hP hw hK
  obtain ⟨xs,hq,hx⟩:=hg
  obtain ⟨its,rv,p,hz⟩:=I.tuple hq
  obtain ⟨f0,f1,f2,f3,f4,f5⟩:=hf it (by simp)
  have hl:=rv.length
  exact wpAny_pyNext_tuple_end (I.ok.hd hc) st (show s.heap.IsTuple a its.toArray from p) (by simp;omega) fun h' eb=>⟨rfl,I.turned (t':=s.toks) (fun b o hb e=>eb b o hb e) f0 f1 f3 f4 f5⟩
 self:=fun _ _ _ _ _ st h=>wpAny_pyIter_tupleiter st h
def ziU {P:Program} {w:World} {K:oS} {tg:Expr} (it:Addr) (lo:Int) (n:Nat):Turn P w K tg (Itr lo n) [it] it (fun i h=>IsRangeIter h it (lo + (i:Nat) * 1) ((n:Int) - (i:Nat)) 1) where
 mem:=by simp
 obj:=fun i h st b hb=>by
  have e:b = it:=by simpa using hb
  subst e
  exact ⟨_,st,fun v z=>by
   have z':Data.fields _ = Data.cell v:=z
   cases z'⟩
 keep:=fun i h h' st k=>k it (by simp) _ st
 item:=by
  intro X hP hw hK hc i O s Y H E I hf st hg
  subst hP hw hK
  obtain ⟨f0,f1,f2,f3,f4,f5⟩:=hf it (by simp)
  have W:=Walks.range (prog:=X.prog) (w:=X.w) (I.ok.hd hc) it lo 1 n
  refine W.item i s _ _ hg st fun v h' tk hv st' kk=>?_
  obtain ⟨t,rfl⟩:=hv
  have I1:Inv X O Y H { s with heap:=h',toks:=tk }:=I.turned (fun b o hb e=>kk b o (by simpa using hb) e) f0 f1 f3 f4 f5
  refine ⟨_,rfl,zmY (s:={ s with heap:=h',toks:=tk }) (n := "range_iterator") st' rfl rfl (by decide) ⟨.int (lo + i),H,I1,⟨t,?_⟩,⟨rfl,rfl⟩,st',fun b hb=>(hf b hb).1⟩⟩
  rw [Int.mul_one]
 done:=by
  intro X hP hw hK hc i O s Y H E I hf st hg
  subst hP hw hK
  obtain ⟨f0,f1,f2,f3,f4,f5⟩:=hf it (by simp)
  exact wpAny_pyNext_range_end (I.ok.hd hc) st (by have:n <= i:=hg;omega) fun h' eb=>⟨rfl,I.turned (t':=s.toks) (fun b o hb e=>eb b o hb e) f0 f1 f3 f4 f5⟩
 self:=fun _ _ _ _ _ st h=>wpAny_pyIter_rangeiter st h
section
variable {X:Cx} {tg:Expr}
def zpr (K:oS) (tl:TE):TI:=fun Y H R=>tl Y H fun x H1=>∃ a,x = .ref a/\(∃ xs,SqL K H1 a xs)/\R (Itl K a) H1
def zbR {l:Expr} {tl:TE} (hl:PE X l tl):PI X tg l (zpr X.K tl):=by
 intro O s Y H R I h
 refine thn (hl O s Y H _ I h) fun v s1 ⟨x,H1,I1,r1,q1⟩=>?_
 obtain ⟨a,e,⟨xs,hq⟩,q⟩:=q1
 subst e
 cases r1
 obtain ⟨its,rv,p,hz⟩:=I1.list hq
 refine YCg p.isList ?_
 refine ⟨s1.heap.objs.size,[s1.heap.objs.size],_,_,H1,rfl,I1.kept (t':=s1.toks) fun b o e=>YAe _ e,zgp a _,⟨_,YAo _ rfl,rfl,rfl⟩,fun b hb=>?_,q⟩
 have e:b = s1.heap.objs.size:=by simpa using hb
 subst e
 exact I1.fpOk (YAl _) (I1.hok.fresh (YAl _))
def zlk {O:List (Addr × Obj)} {Y:St} {H:Hp} {s:Shared} {R:It->Hp->Prop} {E:Value->Shared->Prop} {lo hi:Int} {t u v:Tok} {tk:Nat} (I:Inv X O Y H s) (h1:-(2 ^ 62) <= lo) (h2:lo < 2 ^ 62) (h3:-(2 ^ 62) <= hi) (h4:hi < 2 ^ 62)
  (q:R (Itr lo (hi - lo).toNat) H):wpAny (model X.prog X.w) X.A (pyIter (.ref s.heap.objs.size)) (PIE X O Y tg R) E { s with heap:=s.heap.push { cls:=.type "range",data:=.fields #[.int lo t,.int hi u,.int 1 v] },toks:=tk }:=by
 refine wpAny_pyIter_range (IsRange.new ..) (small_one h1 h2 h3 h4) ?_
 have I1:Inv X O Y H { s with heap:=s.heap.push { cls:=.type "range",data:=.fields #[.int lo t,.int hi u,.int 1 v] },toks:=tk }:=I.kept fun b o e=>YAe _ e
 refine ⟨(s.heap.push { cls:=.type "range",data:=.fields #[.int lo t,.int hi u,.int 1 v] }).objs.size,[(s.heap.push { cls:=.type "range",data:=.fields #[.int lo t,.int hi u,.int 1 v] }).objs.size],_,_,H,rfl,
  I1.kept (t':=tk) fun b o e=>YAe _ e,ziU _ lo (hi - lo).toNat,?_,fun b hb=>?_,q⟩
 .have e1:lo + ((0:Nat):Int) * 1 = lo:=by simp
  have e2:(((hi - lo).toNat:Nat):Int) - ((0:Nat):Int) = Builtin.Range.rangeSize lo hi 1:=by rw [rangeSize_one];split <;> omega
  show IsRangeIter _ _ (lo + ((0:Nat):Int) * 1) ((((hi - lo).toNat:Nat):Int) - ((0:Nat):Int)) 1
  rw [e1,e2]
  exact YAo _ rfl
 .have e:b = (s.heap.push { cls:=.type "range",data:=.fields #[.int lo t,.int hi u,.int 1 v] }).objs.size:=by simpa using hb
  subst e
  exact I1.fpOk (YAl _) (I1.hok.fresh (YAl _))
def zpx (ta:TA):TI:=fun Y H R=>ta Y H fun vs H1=>∃ j:Int,vs = [.int j]/\-(2 ^ 62) <= j/\j < 2 ^ 62/\R (Itr 0 j.toNat) H1
def zes {a:Expr} {ta:TA} {p pos:Pos} (hg:Gl X "range") (hm:X.mg "range" = none) (ha:PA X [a] ta) (hs:starEach [a] X.env = [(false,eval a X.env)]:=by rfl):PI X tg (.Call (.Name "range" p) [a] [] pos) (zpx ta):=by
 intro O s Y H R I h
 refine Call_ (zio I hg hm boot_range (YCv (thn (ha pos O s Y H _ I h) fun us s1 ⟨vs,H1,I1,r1,q1⟩=>?_) hs rfl))
 obtain ⟨j,e,q1,q2,q⟩:=q1
 subst e
 cases r1 with
 | cons r rr=>
  cases rr
  obtain ⟨t,rfl⟩:=r
  exact call_range_1 (zlk I1 (by omega) (by omega) q1 q2 (by simpa using q))
noncomputable def tFor (wi:TI) (g:TG) (tb:TS):TS:=fun D Y H=>wi Y H fun J H1=>∃ W:Nat->Nat->St->Hp->Prop,(∃ m,W 0 m Y H1)/\∀ i m Y H,W i m Y H ->
 (J.stop i H/\D.nx Y H)\/(J.go i H/\∃ N:St->Hp->Prop,(∀ Y' H',N Y' H'->∃ m',m' < m/\W (i + 1) m' Y' H')/\∀ x H',J.yld i H x H'->g x Y H' fun Y2 H2=>tb { D with nx:=N,ct:=N,bk:=D.nx } Y2 H2)
def zd2 (fp:List Addr) (h:Heap):List (Addr × Obj):=fp.filterMap fun b=>(h.get? b).map fun o=>(b,o)
def zaS {fp:List Addr} {h:Heap} {b:Addr} {o:Obj} (hb:b ∈ fp) (e:h.get? b = some o):(b,o) ∈ zd2 fp h:=List.mem_filterMap.mpr ⟨b,hb,by rw [e];rfl⟩
def zkg  (hp:p ∈ zd2 fp h):p.1 ∈ fp/\h.get? p.1 = some p.2:=by
 obtain ⟨b,hb,e⟩:=List.mem_filterMap.mp hp
 cases q:h.get? b with
 | none=>rw [q] at e;cases e
 | some o=>
  rw [q] at e
  have e':(b,o) = p:=Option.some.inj e
  subst e'
  exact ⟨hb,q⟩
def Inv.pinned {O:List (Addr × Obj)} {Y:St} {H:Hp} {s:Shared} {fp:List Addr} (I:Inv X O Y H s) (hf:∀ b ∈ fp,FpOk X O H b) (ho:∀ b ∈ fp,∃ o,s.heap.get? b = some o/\∀ v,o.data ≠ .cell v):Inv X (O ++ zd2 fp s.heap) Y H s:=
 I.pins_of fun p hp=>(YAm.mp hp).elim (fun z=>I.pin p (YAq _ z)) fun z=>by
  obtain ⟨hb,e⟩:=zkg z
  obtain ⟨f0,f1,f2,_⟩:=hf p.1 hb
  obtain ⟨o,e',d⟩:=ho p.1 hb
  rw [e] at e';cases e'
  exact ⟨e,f0,f1,f2,d⟩
def Inv.unpinned {O pl:List (Addr × Obj)} {Y:St} {H:Hp} {s:Shared} (I:Inv X (O ++ pl) Y H s):Inv X O Y H s:=I.pins_of fun p hp=>I.pin p (YAq _ (YAx _ hp))
def zbO {iter:Expr} {body:List Stmt} {wi:TI} {g:TG} {tb:TS} {pos:Pos} (hp:PassesOwn (model X.prog X.w) X.A X.env X.xe) (hc:X.calm = true) (hi:PI X tg iter wi) (hg:PG X tg g) (hb:PSs X body tb)
  (hs:∀ x,foldedSetIterable iter X.env x = pure x:=by intro _;rfl):PS X (.For tg iter body [] pos) (tFor wi g tb):=by
 intro O s Y H D I h
 refine wpAny_For (thn (hi O s Y H _ I h) fun v s1 h1=>thn h1 fun itv s2 h2=>?_) hs
 obtain ⟨it,fp,tn,J,H2,e,I2,T,st2,f2,W,⟨m0,w0⟩,turn⟩:=h2
 subst e
 -- what stays true of the iterator's objects through the loop
 have stat:∀ {H':Hp},(∀ b ∈ fp,H' b = none)->∀ b ∈ fp,FpOk X O H' b:=fun hn b hb=>⟨hn b hb,(f2 b hb).2⟩
 refine codeAny_forLoop_any (fun n s'=>∃ i Y' H',Inv X O Y' H' s'/\tn i s'.heap/\(∀ b ∈ fp,H' b = none)/\W i n Y' H') ?_ m0 ⟨0,Y,H2,I2,st2,fun b hb=>(f2 b hb).1,w0⟩
 rintro n s3 ⟨i,Y3,H3,I3,st3,fr3,w3⟩
 rcases turn i n Y3 H3 w3 with ⟨stop,qn⟩ | ⟨go,N,hN,step⟩
 .refine YCf hp (thn (T.done X rfl rfl rfl hc i O s3 Y3 H3 X.xe I3 (stat fr3) st3 stop) fun r s4 ⟨hr,I4⟩=>?_)
  subst hr
  exact YC7 ⟨Y3,H3,I4,qn⟩
 .refine YCf hp (thn (T.item X rfl rfl rfl hc i O s3 Y3 H3 X.xe I3 (stat fr3) st3 go) fun r s4 ⟨u,hr,h4⟩=>?_)
  subst hr
  refine YCf hp (thn h4 fun _ s5 ⟨x,H5,I5,r5,y5,st5,fr5⟩=>?_)
  have I5':=I5.pinned (stat fr5) (T.obj _ _ st5)
  refine YCf hp (thn (hg _ s5 Y3 H5 x u _ I5' r5 (step x H5 y5)) fun _ s6 ⟨Y6,H6,I6,q6⟩=>?_)
  refine YCf hp (thn (hb _ s6 Y6 H6 _ I6 q6) fun f s7 q7=>?_)
  have again:∀ {Y7:St} {H7:Hp},Inv X (O ++ zd2 fp s5.heap) Y7 H7 s7->N Y7 H7->∃ m,m < n/\∃ i Y' H',Inv X O Y' H' s7/\tn i s7.heap/\(∀ b ∈ fp,H' b = none)/\W i m Y' H':=fun {Y7 H7} I7 n7=>by
   obtain ⟨m',hm,w7⟩:=hN Y7 H7 n7
   refine ⟨m',hm,i + 1,Y7,H7,I7.unpinned,T.keep _ _ _ st5 fun b hb o e=>(I7.pin (b,o) (YAq _ (YAq _ (zaS hb e)))).1,fun b hb=>?_,w7⟩
   obtain ⟨o,e,d⟩:=T.obj _ _ st5 b hb
   exact (I7.pin (b,o) (YAq _ (YAq _ (zaS hb e)))).2.1
  cases f with
  | next=>obtain ⟨Y7,H7,I7,n7⟩:=q7;exact again I7 n7
  | cont=>obtain ⟨Y7,H7,I7,n7⟩:=q7;exact again I7 n7
  | brk=>obtain ⟨Y7,H7,I7,q7⟩:=q7;exact ⟨Y7,H7,I7.unpinned,q7⟩
  | ret v=>obtain ⟨x7,Y7,H7,I7,r7,q7⟩:=q7;exact ⟨x7,Y7,H7,I7.unpinned,r7,q7⟩
end
def zeo {K:oS} {a:Addr} {xs:List V} {g:TG} {tb:TS} {D:Ends} {Y:St} {H:Hp} (Pv:Nat->St->Hp->Prop) (h0:Pv 0 Y H) (hl:∀ i Y H,i <= xs.length->Pv i Y H->SqL K H a xs)
  (hs:∀ i x Y H,xs[i]? = some x->Pv i Y H->g x Y H fun Y2 H2=>tb { D with nx:=Pv (i + 1),ct:=Pv (i + 1),bk:=D.nx } Y2 H2) (hd:∀ Y H,Pv xs.length Y H->D.nx Y H) :
  ∃ W:Nat->Nat->St->Hp->Prop,(∃ m,W 0 m Y H)/\∀ i m Y H,W i m Y H ->
   ((Itl K a).stop i H/\D.nx Y H)\/((Itl K a).go i H/\∃ N:St->Hp->Prop,(∀ Y' H',N Y' H'->∃ m',m' < m/\W (i + 1) m' Y' H')/\∀ x H',(Itl K a).yld i H x H'->g x Y H' fun Y2 H2=>tb { D with nx:=N,ct:=N,bk:=D.nx } Y2 H2):=by
 refine ⟨fun i m Y H=>m = xs.length - i/\i <= xs.length/\Pv i Y H,⟨xs.length,by simp,YAD _,h0⟩,?_⟩
 rintro i m Y H ⟨rfl,hi,p⟩
 have q:=hl i Y H hi p
 by_cases hlt:i < xs.length
 .refine .inr ⟨⟨xs,xs[i],q,by simp [hlt]⟩,Pv (i + 1),fun Y' H' p'=>⟨xs.length - (i + 1),by omega,rfl,hlt,p'⟩,fun x H' y=>?_⟩
  obtain ⟨e,y⟩:=y
  subst e
  exact hs i x Y _ (y xs q) p
 .have e:i = xs.length:=by omega
  subst e
  exact .inl ⟨⟨xs,q,YAl _⟩,hd Y H p⟩
def zkc {lo:Int} {n:Nat} {g:TG} {tb:TS} {D:Ends} {Y:St} {H:Hp} (Pv:Nat->St->Hp->Prop) (h0:Pv 0 Y H)
  (hs:∀ i Y H,i < n->Pv i Y H->g (.int (lo + i)) Y H fun Y2 H2=>tb { D with nx:=Pv (i + 1),ct:=Pv (i + 1),bk:=D.nx } Y2 H2) (hd:∀ Y H,Pv n Y H->D.nx Y H) :
  ∃ W:Nat->Nat->St->Hp->Prop,(∃ m,W 0 m Y H)/\∀ i m Y H,W i m Y H ->
   ((Itr lo n).stop i H/\D.nx Y H)\/((Itr lo n).go i H/\∃ N:St->Hp->Prop,(∀ Y' H',N Y' H'->∃ m',m' < m/\W (i + 1) m' Y' H')/\∀ x H',(Itr lo n).yld i H x H'->g x Y H' fun Y2 H2=>tb { D with nx:=N,ct:=N,bk:=D.nx } Y2 H2):=by
 refine ⟨fun i m Y H=>m = n - i/\i <= n/\Pv i Y H,⟨n,by simp,YAD _,h0⟩,?_⟩
 rintro i m Y H ⟨rfl,hi,p⟩
 by_cases hlt:i < n
 .refine .inr ⟨hlt,Pv (i + 1),fun Y' H' p'=>⟨n - (i + 1),by omega,rfl,hlt,p'⟩,fun x H' y=>?_⟩
  obtain ⟨e,y⟩:=y
  subst e y
  exact hs i Y _ hlt p
 .have e:i = n:=by omega
  subst e
  exact .inl ⟨YAl _,hd Y H p⟩
abbrev R2:=V->V->Hp->VK->Prop
def OpR (X:Cx) (f:Value->Value->Sem Value) (r:R2):Prop:=
 ∀ (O:List (Addr × Obj)) (s:Shared) (Y:St) (H:Hp) (x y:V) (v u:Value) (Q:VK),Inv X O Y H s->RelV x v->RelV y u->r x y H Q ->
  wpAny (model X.prog X.w) X.A (f v u) (EP X O Y Q) X.xe s
def UnR (X:Cx) (f:Value->Sem Value) (r:V->Hp->VK->Prop):Prop:=
 ∀ (O:List (Addr × Obj)) (s:Shared) (Y:St) (H:Hp) (x:V) (v:Value) (Q:VK),Inv X O Y H s->RelV x v->r x H Q ->
  wpAny (model X.prog X.w) X.A (f v) (EP X O Y Q) X.xe s
def CallR (X:Cx) (f:Value) (r:List V->Hp->VK->Prop):Prop:=
 ∀ (O:List (Addr × Obj)) (s:Shared) (Y:St) (H:Hp) (xs:List V) (us:List Value) (Q:VK),Inv X O Y H s->Vals xs us->r xs H Q ->
  wpAny (model X.prog X.w) X.A (call f us) (EP X O Y Q) X.xe s
def TruR (X:Cx) (r:V->Hp->(Bool->Hp->Prop)->Prop):Prop:=
 ∀ (O:List (Addr × Obj)) (s:Shared) (Y:St) (H:Hp) (x:V) (v:Value) (Q:Bool->Hp->Prop),Inv X O Y H s->RelV x v->r x H Q ->
  wpAny (model X.prog X.w) X.A (truthy v) (TP X O Y Q) X.xe s
def tOp (r:R2) (ta tb:TE):TE:=fun Y H Q=>ta Y H fun x H1=>tb Y H1 fun y H2=>r x y H2 Q
def tUn (r:V->Hp->VK->Prop) (ta:TE):TE:=fun Y H Q=>ta Y H fun x H1=>r x H1 Q
def rI (C:Int->Int->Prop) (g:Int->Int->V):R2:=fun x y H Q=>∃ i j,x = .int i/\y = .int j/\C i j/\Q (g i j) H
def rI0 (g:Int->Int->V):R2:=fun x y H Q=>∃ i j,x = .int i/\y = .int j/\Q (g i j) H
def rU (g:Int->V):V->Hp->VK->Prop:=fun x H Q=>∃ i,x = .int i/\Q (g i) H
section
variable {X:Cx} {a b c:Expr} {ta tb tc:TE} {pos:Pos}
def binT (ha:PE X a ta) (hb:PE X b tb) {O:List (Addr × Obj)} {s:Shared} {Y:St} {H:Hp} {R:V->V->Hp->Prop} (I:Inv X O Y H s)
  (h:ta Y H fun x H1=>tb Y H1 fun y H2=>R x y H2) {Q:Value->Shared->Prop} {f:Value->Value->Sem Value}
  (hf:∀ v u s2 x y H2,Inv X O Y H2 s2->RelV x v->RelV y u->R x y H2->wpAny (model X.prog X.w) X.A (f v u) Q X.xe s2) :
  wpAny (model X.prog X.w) X.A (eval a X.env) (fun v s₁=>wpAny (model X.prog X.w) X.A (eval b X.env) (fun u s₂=>wpAny (model X.prog X.w) X.A (f v u) Q X.xe s₂) X.xe s₁) X.xe s:=by
 refine thn (ha O s Y H _ I h) fun v s1 ⟨x,H1,I1,r1,q1⟩=>?_
 refine thn (hb O s1 Y H1 _ I1 q1) fun u s2 ⟨y,H2,I2,r2,q2⟩=>?_
 exact hf v u s2 x y H2 I2 r1 r2 q2
def zbA {op:Operator} {r:R2} (ho:OpR X (binaryOp op) r) (ha:PE X a ta) (hb:PE X b tb):PE X (.BinOp a op b pos) (tOp r ta tb):=by
 intro O s Y H Q I h
 exact wpAny_BinOp (binT ha hb I h fun v u s2 x y H2 I2 rx ry q=>ho O s2 Y H2 x y v u Q I2 rx ry q)
def zlm {op:UnaryOp} {r:V->Hp->VK->Prop} (ho:UnR X (unaryOp op) r) (ha:PE X a ta):PE X (.UnaryOp op a pos) (tUn r ta):=by
 intro O s Y H Q I h
 exact UnaryOp_ (thn (ha O s Y H _ I h) fun v s1 ⟨x,H1,I1,r1,q1⟩=>ho O s1 Y H1 x v Q I1 r1 q1)
def opI {f:Value->Value->Sem Value} {C:Int->Int->Prop} {g:Int->Int->Int}
  (rule:∀ (i j:Int) (t u:Tok) (s:Shared) (Q:Value->Shared->Prop) (E:Value->Shared->Prop),C i j->Q (.int (g i j) s.toks) { s with toks:=s.toks + 1 }->wpAny (model X.prog X.w) X.A (f (.int i t) (.int j u)) Q E s) :
  OpR X f (rI C fun i j=>.int (g i j)):=by
 intro O s Y H x y v u Q I rx ry h
 obtain ⟨i,j,rfl,rfl,hc,q⟩:=h
 obtain ⟨t,rfl⟩:=rx
 obtain ⟨t',rfl⟩:=ry
 exact rule i j t t' s _ _ hc ⟨.int (g i j),H,I.tok _,⟨_,rfl⟩,q⟩
def opI0 {f:Value->Value->Sem Value} {g:Int->Int->Int}
  (rule:∀ (i j:Int) (t u:Tok) (s:Shared) (Q:Value->Shared->Prop) (E:Value->Shared->Prop),Q (.int (g i j) s.toks) { s with toks:=s.toks + 1 }->wpAny (model X.prog X.w) X.A (f (.int i t) (.int j u)) Q E s) :
  OpR X f (rI0 fun i j=>.int (g i j)):=by
 intro O s Y H x y v u Q I rx ry h
 obtain ⟨i,j,rfl,rfl,q⟩:=h
 obtain ⟨t,rfl⟩:=rx
 obtain ⟨t',rfl⟩:=ry
 exact rule i j t t' s _ _ ⟨.int (g i j),H,I.tok _,⟨_,rfl⟩,q⟩
def opB0 {f:Value->Value->Sem Value} {g:Int->Int->Bool}
  (rule:∀ (i j:Int) (t u:Tok) (s:Shared) (Q:Value->Shared->Prop) (E:Value->Shared->Prop),Q (.bool (g i j)) s->wpAny (model X.prog X.w) X.A (f (.int i t) (.int j u)) Q E s) :
  OpR X f (rI0 fun i j=>.bl (g i j)):=by
 intro O s Y H x y v u Q I rx ry h
 obtain ⟨i,j,rfl,rfl,q⟩:=h
 obtain ⟨t,rfl⟩:=rx
 obtain ⟨t',rfl⟩:=ry
 exact rule i j t t' s _ _ ⟨.bl (g i j),H,I,rfl,q⟩
def CDiv (i j:Int):Prop:=0 < j/\j < 1073741824
def CPow (i j:Int):Prop:=0 <= j/\j <= 1000000/\i.natAbs < 2 ^ 64
def CMul (i j:Int):Prop:=(-(2 ^ 64) < i/\i < 2 ^ 64)\/(-(2 ^ 64) < j/\j < 2 ^ 64)
def CMul.ok {i j:Int} (h:CMul i j):IntMulOk i j:=by
 rcases h with ⟨h1,h2⟩ | ⟨h1,h2⟩
 .exact .of_left (intBits_le_64 h1 h2)
 .exact .of_right (intBits_le_64 h1 h2)
def op_add:OpR X (binaryOp .Add) (rI0 fun i j=>.int (i + j)):=opI0 fun _ _ _ _ _ _ _ q=>add_int q
def zko:OpR X (binaryOp .Sub) (rI0 fun i j=>.int (i - j)):=opI0 fun _ _ _ _ _ _ _ q=>sub_int q
def op_mul:OpR X (binaryOp .Mult) (rI CMul fun i j=>.int (i * j)):=opI fun _ _ _ _ _ _ _ hc q=>mul_int q hc.ok
def zmK:OpR X (binaryOp .FloorDiv) (rI CDiv fun i j=>.int (i / j)):=opI fun i j _ _ _ _ _ hc q=>by
 have h1:(0:Int) < j:=hc.1
 have h2:j < 1073741824:=hc.2
 exact floordiv_int (by omega) (by rw [Int.fdiv_eq_ediv_of_nonneg i (by omega)];exact q) (.inl (PyProof.noPylong_small (by omega)))
def zfw:OpR X (binaryOp .Mod) (rI (fun _ j=>0 < j) fun i j=>.int (i % j)):=opI fun i j _ _ _ _ _ hc q=>by
 have h1:(0:Int) < j:=hc
 exact mod_int' (by omega) (by rw [Int.fmod_eq_emod_of_nonneg i (by omega)];exact q)
def zjT:OpR X (binaryOp .Pow) (rI CPow fun i j=>.int (i ^ j.toNat)):=opI fun _ _ _ _ _ _ _ hc q=>pow_int_small hc.1 hc.2.1 hc.2.2 q
def unI {f:Value->Sem Value} {g:Int->Int}
  (rule:∀ (i:Int) (t:Tok) (s:Shared) (Q:Value->Shared->Prop) (E:Value->Shared->Prop),Q (.int (g i) s.toks) { s with toks:=s.toks + 1 }->wpAny (model X.prog X.w) X.A (f (.int i t)) Q E s) :
  UnR X f (rU fun i=>.int (g i)):=by
 intro O s Y H x v Q I rx h
 obtain ⟨i,rfl,q⟩:=h
 obtain ⟨t,rfl⟩:=rx
 exact rule i t s _ _ ⟨.int (g i),H,I.tok _,⟨_,rfl⟩,q⟩
def zhT:UnR X (unaryOp .USub) (rU fun i=>.int (-i)):=unI fun _ _ _ _ _ q=>neg_int q
end
noncomputable def scal:V->V->Bool
 | .non,.non=>true | .non,.int _=>true | .int _,.non=>true | .non,.bl _=>true | .bl _,.non=>true | .non,.str _=>true | .str _,.non=>true
 | .int _,.int _=>true | .bl _,.bl _=>true | .str _,.str _=>true | .byt _,.byt _=>true
 | .int _,.str _=>true | .str _,.int _=>true | .bl _,.str _=>true | .str _,.bl _=>true
 | _,_=>false
def rEq:R2:=fun x y H Q=>scal x y = true/\Q (.bl (decide (x = y))) H
def rNe:R2:=fun x y H Q=>scal x y = true/\Q (.bl (!decide (x = y))) H
def zjn:decide (V.int i = V.int j) = (i == j):=by
 rw [YCw]
 simp
def dec_bl:decide (V.bl i = V.bl j) = (i == j):=by
 rw [YCw]
 simp
def zjG:decide (V.str i = V.str j) = (i == j):=by
 rw [YCw]
 simp
def zjM:decide (V.byt i = V.byt j) = (i.toList == j.toList):=by
 rw [YCw]
 cases i
 cases j
 simp
section
variable {X:Cx} {a b c:Expr} {ta tb tc:TE} {pos:Pos}
def fin_bl    (I:Inv X O Y H s) (q:Q (.bl k) H) (e:k = k'):EP X O Y Q (.bool k') s:=by
 subst e
 exact ⟨.bl k,H,I,rfl,q⟩
def znM:OpR X (compareOp .Eq) rEq:=by
 intro O s Y H x y v u Q I rx ry h
 obtain ⟨hs,q⟩:=h
 cases x with
 | non=>
  cases rx
  cases y with
  | non=>cases ry;exact PySem.EqNone.eq_none_none (fin_bl I q (by simp))
  | bl j=>cases ry;exact PySem.EqNone.eq_none_bool (fin_bl I q (by simp))
  | int j=>obtain ⟨t',rfl⟩:=ry;exact PySem.EqNone.eq_none_int (fin_bl I q (by simp))
  | str j=>obtain ⟨t',rfl⟩:=ry;exact PySem.EqNone.eq_none_str (fin_bl I q (by simp))
  | _=>exact absurd (show false = true from hs) YAy
 | bl i=>
  cases rx
  cases y with
  | non=>cases ry;exact PySem.EqNone.eq_bool_none (fin_bl I q (by simp))
  | bl j=>cases ry;exact eq_bool (fin_bl I q dec_bl)
  | str j=>obtain ⟨t',rfl⟩:=ry;exact PySem.EqMixed.eq_bool_str (fin_bl I q (by simp))
  | _=>exact absurd (show false = true from hs) YAy
 | int i=>
  obtain ⟨t,rfl⟩:=rx
  cases y with
  | non=>cases ry;exact PySem.EqNone.eq_int_none (fin_bl I q (by simp))
  | int j=>obtain ⟨t',rfl⟩:=ry;exact eq_int (fin_bl I q zjn)
  | str j=>obtain ⟨t',rfl⟩:=ry;exact PySem.EqMixed.eq_int_str (fin_bl I q (by simp))
  | _=>exact absurd (show false = true from hs) YAy
 | str i=>
  obtain ⟨t,rfl⟩:=rx
  cases y with
  | non=>cases ry;exact PySem.EqNone.eq_str_none (fin_bl I q (by simp))
  | bl j=>cases ry;exact PySem.EqMixed.eq_str_bool (fin_bl I q (by simp))
  | int j=>obtain ⟨t',rfl⟩:=ry;exact PySem.EqMixed.eq_str_int (fin_bl I q (by simp))
  | str j=>obtain ⟨t',rfl⟩:=ry;exact eq_str (fin_bl I q zjG)
  | _=>exact absurd (show false = true from hs) YAy
 | byt i=>
  obtain ⟨t,rfl⟩:=rx
  cases y with
  | byt j=>obtain ⟨t',rfl⟩:=ry;exact PySem.W.eq_bytes (fin_bl I q zjM)
  | _=>exact absurd (show false = true from hs) YAy
 | _=>cases y <;> exact absurd (show false = true from hs) YAy
def zpJ:OpR X (compareOp .NotEq) rNe:=by
 intro O s Y H x y v u Q I rx ry h
 obtain ⟨hs,q⟩:=h
 cases x with
 | non=>
  cases rx
  cases y with
  | non=>cases ry;exact PySem.EqNone.ne_none_none (fin_bl I q (by simp))
  | bl j=>cases ry;exact PySem.EqNone.ne_none_bool (fin_bl I q (by simp))
  | int j=>obtain ⟨t',rfl⟩:=ry;exact PySem.EqNone.ne_none_int (fin_bl I q (by simp))
  | str j=>obtain ⟨t',rfl⟩:=ry;exact PySem.EqNone.ne_none_str (fin_bl I q (by simp))
  | _=>exact absurd (show false = true from hs) YAy
 | bl i=>
  cases rx
  cases y with
  | non=>cases ry;exact PySem.EqNone.ne_bool_none (fin_bl I q (by simp))
  | bl j=>cases ry;exact ne_bool (fin_bl I q (congrArg not dec_bl))
  | str j=>obtain ⟨t',rfl⟩:=ry;exact PySem.EqMixed.ne_bool_str (fin_bl I q (by simp))
  | _=>exact absurd (show false = true from hs) YAy
 | int i=>
  obtain ⟨t,rfl⟩:=rx
  cases y with
  | non=>cases ry;exact PySem.EqNone.ne_int_none (fin_bl I q (by simp))
  | int j=>obtain ⟨t',rfl⟩:=ry;exact ne_int (fin_bl I q (congrArg not zjn))
  | str j=>obtain ⟨t',rfl⟩:=ry;exact PySem.EqMixed.ne_int_str (fin_bl I q (by simp))
  | _=>exact absurd (show false = true from hs) YAy
 | str i=>
  obtain ⟨t,rfl⟩:=rx
  cases y with
  | non=>cases ry;exact PySem.EqNone.ne_str_none (fin_bl I q (by simp))
  | bl j=>cases ry;exact PySem.EqMixed.ne_str_bool (fin_bl I q (by simp))
  | int j=>obtain ⟨t',rfl⟩:=ry;exact PySem.EqMixed.ne_str_int (fin_bl I q (by simp))
  | str j=>obtain ⟨t',rfl⟩:=ry;exact ne_str (fin_bl I q (congrArg not zjG))
  | _=>exact absurd (show false = true from hs) YAy
 | byt i=>
  obtain ⟨t,rfl⟩:=rx
  cases y with
  | byt j=>obtain ⟨t',rfl⟩:=ry;exact PySem.W.ne_bytes (fin_bl I q (congrArg not zjM))
  | _=>exact absurd (show false = true from hs) YAy
 | _=>cases y <;> exact absurd (show false = true from hs) YAy
def zm8:OpR X (compareOp .Lt) (rI0 fun i j=>.bl (decide (i < j))):=opB0 fun _ _ _ _ _ _ _ q=>lt_int q
def zmR:OpR X (compareOp .Gt) (rI0 fun i j=>.bl (decide (j < i))):=opB0 fun _ _ _ _ _ _ _ q=>gt_int q
def zpN:OpR X (compareOp .GtE) (rI0 fun i j=>.bl (decide (j <= i))):=opB0 fun _ _ _ _ _ _ _ q=>ge_int q
def OpR.or {f:Value->Value->Sem Value} {r r':R2} (h:OpR X f r) (h':OpR X f r'):OpR X f (fun x y H Q=>r x y H Q\/r' x y H Q):=by
 intro O s Y H x y v u Q I rx ry q
 rcases q with q | q
 .exact h O s Y H x y v u Q I rx ry q
 .exact h' O s Y H x y v u Q I rx ry q
def zb3 (b:Expr) (h:op ≠ .In:=by decide) (h2:op ≠ .NotIn:=by decide):behindInMarks op b = false:=by
 have e1:(op == CmpOp.In) = false:=by cases op <;> first | rfl | exact absurd rfl h
 have e2:(op == CmpOp.NotIn) = false:=by cases op <;> first | rfl | exact absurd rfl h2
 cases b <;> simp [behindInMarks,e1,e2]
def zkK  (ho:OpR X (compareOp op) r) (ha:PE X a ta) (hb:PE X b tb) (hm:behindInMarks op b = false):PE X (.Compare a [op] [b] pos) (tOp r ta tb):=by
 intro O s Y H Q I h
 exact wpAny_Compare1 (binT ha hb I h fun v u s2 x y H2 I2 rx ry q=>ho O s2 Y H2 x y v u Q I2 rx ry q) hm
def zoC (t:TE):TT:=fun Y H Q=>t Y H fun x H'=>∃ k,x = .bl k/\Q k H'
def zci {op:CmpOp} {r:R2} (ho:OpR X (compareOp op) r) (ha:PE X a ta) (hb:PE X b tb) (hm:behindInMarks op b = false):PT X (.Compare a [op] [b] pos) (zoC (tOp r ta tb)):=by
 intro O s Y H Q I h
 refine wpAny_isTrue_Compare1 (thn (ha O s Y H _ I h) fun v s1 ⟨x,H1,I1,r1,q1⟩=>thn (hb O s1 Y H1 _ I1 q1) fun u s2 ⟨y,H2,I2,r2,q2⟩=>
  thn (ho O s2 Y H2 x y v u _ I2 r1 r2 q2) fun c s3 ⟨z,H3,I3,r3,k,e,q3⟩=>?_) hm
 subst e
 cases r3
 exact YBR ⟨H3,I3,q3⟩
noncomputable def TruV (K:oS) (x:V) (H:Hp) (k:Bool):Prop:=
 match x with
 | .non=>k = false
 | .bl b=>k = b
 | .int i=>k = (i != 0)
 | .str y=>y.length <= sizeLine/\k = ((y.length:Int) != 0)
 | .byt y=>y.size <= sizeLine/\k = ((y.size:Int) != 0)
 | .ref p=>(∃ xs,SqL K H p xs/\k = !xs.isEmpty)\/(∃ xs,SqT K H p xs/\k = !xs.isEmpty)\/∃ kvs,H p = some (.dK kvs)/\k = !kvs.isEmpty
 | _=>False
def ziP {κ:Type} {kvs:List (κ × V)} {vs:List (κ × Value)} (r:KV kvs vs):(!vs.isEmpty) = !kvs.isEmpty:=by
 cases r <;> rfl
def zfv {xs:List V} {its:List Value} (r:Vals xs its):(!its.toArray.isEmpty) = !xs.isEmpty:=by
 cases r <;> simp
def zeK:(sizeLine:Nat) < 2 ^ 63:=by rw [YAL];decide
def zoA:TruR X (fun x H Q=>∃ k,TruV X.K x H k/\Q k H):=by
 intro O s Y H x v Q I rx h
 obtain ⟨k,e,q⟩:=h
 have hl:=zeK
 have hs:sizeLine = 16777216:=YAL
 cases x with
 | non=>
  cases rx
  have e':k = false:=e
  subst e'
  exact truthy_none ⟨H,I,q⟩
 | bl b=>
  cases rx
  have e':k = b:=e
  subst e'
  exact YBR ⟨H,I,q⟩
 | int i=>
  obtain ⟨t,rfl⟩:=rx
  have e':k = (i != 0):=e
  subst e'
  exact PySem.P.truthy_int ⟨H,I,q⟩
 | str y=>
  obtain ⟨t,rfl⟩:=rx
  obtain ⟨hy,e'⟩:y.length <= sizeLine/\k = ((y.length:Int) != 0):=e
  subst e'
  exact PySem.P.truthy_str (by omega) ⟨H,I.tok _,q⟩
 | byt y=>
  obtain ⟨t,rfl⟩:=rx
  obtain ⟨hy,e'⟩:y.size <= sizeLine/\k = ((y.size:Int) != 0):=e
  subst e'
  exact PySem.W.truthy_bytes (by omega) ⟨H,I.tok _,q⟩
 | ref p=>
  cases rx
  have e':(∃ xs,SqL X.K H p xs/\k = !xs.isEmpty)\/(∃ xs,SqT X.K H p xs/\k = !xs.isEmpty)\/∃ kvs,H p = some (.dK kvs)/\k = !kvs.isEmpty:=e
  rcases e' with ⟨xs,hx,e'⟩ | ⟨xs,hx,e'⟩ | ⟨kvs,hx,e'⟩
  .subst e'
   obtain ⟨its,r,pl,hz⟩:=I.list hx
   have hlen:=r.length
   exact wpAny_truthy_list pl.isList (by simp only [YAz];omega) ⟨H,I.tok _,by rw [zfv r];exact q⟩
  .subst e'
   obtain ⟨its,r,pl,hz⟩:=I.tuple hx
   have hlen:=r.length
   exact truthy_tuple pl (by simp only [YAz];omega) ⟨H,I.tok _,by rw [zfv r];exact q⟩
  .subst e'
   obtain ⟨hz,hS,vs,r,m⟩:kvs.length <= sizeLine/\(p == sysModules) = false/\∃ vs,KV kvs vs/\s.heap.DictOf (zax X.prog X.w) p vs:=I.hok p _ hx
   have hlen:kvs.length = vs.length:=Paired.length r
   exact wpAny_truthy_dict hS m (by omega) ⟨H,I.tok _,by rw [ziP r];exact q⟩
 | _=>exact (show False from e).elim
def zig (ha:PE X a ta) (he:∀ whole,isTrue a X.env whole = (do let v <- whole;standAt a.pos;holding [v] (truthy v))) :
  PT X a (fun Y H Q=>ta Y H fun x H'=>∃ k,TruV X.K x H' k/\Q k H'):=by
 intro O s Y H Q I h
 exact isTrue_plain (thn (ha O s Y H _ I h) fun v s1 ⟨x,H1,I1,r1,q1⟩=>zoA O s1 Y H1 x v Q I1 r1 q1) (he _)
def zi1:OpR X (binaryOp .Add) (fun x y H Q=>∃ i j,x = .str i/\y = .str j/\i.length + j.length <= sizeLine/\Q (.str (i ++ j)) H):=by
 intro O s Y H x y v u Q I rx ry h
 obtain ⟨i,j,rfl,rfl,hz,q⟩:=h
 obtain ⟨t,rfl⟩:=rx
 obtain ⟨t',rfl⟩:=ry
 exact add_str (fun t' tk=>⟨.str (i ++ j),H,I.tok _,⟨_,rfl⟩,q⟩) hz
def zdv  (r:Vals [x] us):∃ u,us = [u]/\RelV x u:=by
 cases r with
 | cons r1 r2=>cases r2;exact ⟨_,rfl,r1⟩
def znp  (r:Vals [x,y] us):∃ u w',us = [u,w']/\RelV x u/\RelV y w':=by
 cases r with
 | cons r1 r2=>
  cases r2 with
  | cons r3 r4=>cases r4;exact ⟨_,_,rfl,r1,r3⟩
def zgx (hc:X.calm = true):CallR X (.builtin "min") (fun xs H Q=>∃ i j,xs = [.int i,.int j]/\Q (.int (if j < i then j else i)) H):=by
 intro O s Y H xs us Q I r h
 obtain ⟨i,j,rfl,q⟩:=h
 obtain ⟨u,w',rfl,⟨t,rfl⟩,⟨t',rfl⟩⟩:=znp r
 refine min_two_ints (I.ok.hd hc) fun h' tk k=>⟨_,H,I.kept k,?_,q⟩
 by_cases hj:j < i
 .rw [if_pos hj,if_pos hj];exact ⟨_,rfl⟩
 .rw [if_neg hj,if_neg hj];exact ⟨_,rfl⟩
def zkk:CallR X (.type "int") (fun xs H Q=>(∃ i,xs = [.int i]/\Q (.int i) H)\/∃ k,xs = [.bl k]/\Q (.int (if k then 1 else 0)) H):=by
 intro O s Y H xs us Q I r h
 rcases h with ⟨i,rfl,q⟩ | ⟨k,rfl,q⟩
 .obtain ⟨u,rfl,t,rfl⟩:=zdv r
  exact call_int_int ⟨.int i,H,I,⟨_,rfl⟩,q⟩
 .obtain ⟨u,rfl,r1⟩:=zdv r
  cases r1
  exact call_int_bool ⟨.int (if k then 1 else 0),H,I.tok _,⟨_,rfl⟩,q⟩
end
section
variable {prog:Program} {w:World} {A:Around} {E:Value->Shared->Prop} {s:Shared} {K:oS} {x dx C f:Addr} {mA:Str->Option Value} {name:Str} {v:Value}
end
def RelO.some_of  (r:RelO (some v) o):∃ u,o = some u/\RelV v u:=by
 cases o with
 | none=>exact (show False from r).elim
 | some u=>exact ⟨u,rfl,r⟩
section
variable {P:Program} {w:World} {H H':Hp} {h h':Heap} {a C dx:Addr} {fs fs':List (Str × V)}
end
section
variable {X:Cx} {O:List (Addr × Obj)} {Y:St} {H:Hp} {s:Shared} {a C dx:Addr} {fs:List (Str × V)} {f:Str} {v:V} {A:Around} {E:Value->Shared->Prop}
end
section
variable {X:Cx} {o e value:Expr} {f:Str} {pos pos' tpos:Pos} {ta tv:TE}
end
section
variable {X:Cx} {O:List (Addr × Obj)} {Y:St} {H:Hp} {s:Shared} {A:Around} {E:Value->Shared->Prop} {Q:Value->Shared->Prop} {c:Value} {b:Bool}
end
structure Room (k:Nat) (A:Around):Prop where
 hd:A.handled = none
 dp:A.depth + 3 * k + 5 < recursionLimit
 un:A.units + 16 * k + 200 < cLine
def Room.mono  (r:Room k A) (h:j <= k):Room j A:=⟨r.hd,by have:=r.dp;omega,by have:=r.un;omega⟩
theorem Room.deeper {k:Nat} {A:Around} (r:Room (k + 1) A) (env:Env):Room k (A.deeper env):=
 ⟨r.hd,by have:=r.dp;show A.depth + 1 + 3 * k + 5 < _;omega,by have:=r.un;show A.units + 3 + 16 * k + 200 < _;omega⟩
theorem Room.depth {k:Nat} {A:Around} (r:Room k A):A.depth < recursionLimit:=by have:=r.dp;omega
theorem Room.units  (r:Room k A):A.units + 64 < cLine:=by have:=r.un;omega
def tNil:TA:=fun _ H Q=>Q [] H
def znH (ta:TE) (tr:TA):TA:=fun Y H Q=>ta Y H fun x H1=>tr Y H1 fun xs H2=>Q (x :: xs) H2
section
variable {X:Cx} {e:Expr} {es:List Expr} {te:TE} {t:TA} {pos:Pos}
def pa_nil:PA X [] tNil:=fun _ _ _ _ H Q I h=>YDr ⟨[],H,I,.nil,h⟩
def zaf (ha:PE X e te) (hr:PA X es t) (hs:starEach (e :: es) X.env = (false,eval e X.env) :: starEach es X.env:=by rfl):PA X (e :: es) (znH te t):=by
 intro pos O s Y H Q I h
 rw [hs]
 show wpAny _ _ (spliced ((false,eval e X.env) :: backTo pos (starEach es X.env))) _ _ s
 refine YCH (thn (ha O s Y H _ I h) fun u s1 ⟨x,H1,I1,r1,q1⟩=>?_)
 exact thn (hr pos O s1 Y H1 _ I1 q1) fun us s2 ⟨xs,H2,I2,r2,q2⟩=>⟨x :: xs,H2,I2,.cons r1 r2,q2⟩
def tTup (t:TA):TE:=fun Y H Q=>t Y H fun xs H1=>xs.length <= sizeLine/\∀ p,H1 p = none->Q (.ref p) (upd H1 p (.tup xs))
def tLst (t:TA):TE:=fun Y H Q=>t Y H fun xs H1=>xs.length <= sizeLine/\∀ p,H1 p = none->Q (.ref p) (upd H1 p (.lst xs))
def pe_tup {x1} (h:PA X es t):PE X (.Tuple es x1 pos) (tTup t):=by
 intro O s Y H Q I hq
 refine wpAny_Tuple_spliced (thn (h pos O s Y H _ I hq) fun us s1 ⟨xs,H1,I1,r,z,q⟩=>⟨by rw [<- r.length];exact z,?_⟩)
 have hf:H1 s1.heap.objs.size = none:=I1.hok.fresh (YAl _)
 refine ⟨.ref s1.heap.objs.size,upd H1 s1.heap.objs.size (.tup xs),I1.laid (t':=s1.toks) (fun b u e=>YAe _ e) (YAl _) ?_,rfl,q _ hf⟩
 exact ⟨z,us,r,⟨_,YAo _ rfl,rfl,_,rfl⟩⟩
def zcS (h:PA X es t):PE X (.List es pos) (tLst t):=by
 intro O s Y H Q I hq
 refine wpAny_List_spliced (thn (h pos O s Y H _ I hq) fun us s1 ⟨xs,H1,I1,r,z,q⟩=>⟨by rw [<- r.length];exact z,?_⟩)
 have hf:H1 s1.heap.objs.size = none:=I1.hok.fresh (YAl _)
 refine ⟨.ref s1.heap.objs.size,upd H1 s1.heap.objs.size (.lst xs),I1.laid (t':=s1.toks) (fun b u e=>YAe _ e) (YAl _) ?_,rfl,q _ hf⟩
 exact ⟨z,us,0,r,YAo _ rfl⟩
end
abbrev Sp:=List V->Hp->VK->XK->Prop
abbrev CXT:=List Env->Hp->Shared->XK->Value->Shared->Prop
structure Env0 (P:Program) (w:World) (K:oS) (mg:Str->Option Value) (base:Heap) (A:Around) (outer:List Env) (s:Shared) (H:Hp):Prop where
 frames:A.frames = some outer
 mod:Mod K mg base
 bs:∀ b o,base.get? b = some o->s.heap.get? b = some o/\H b = none
 bsz:base.objs.size <= s.heap.objs.size
 funs:s.heap.FunFrames base outer
 frf:∀ b ∈ frs outer,H b = none
 hok:HOk P w H s.heap
 bare:AllBare s.gens
def CE (outer:List Env) (P:Program) (w:World) (H:Hp) (s:Shared) (Q:VK) (u:Value) (s':Shared):Prop:=
 ∃ v H',s'.os = s.os/\AllBare s'.gens/\Un (frs outer) [] H H' s.heap s'.heap/\HOk P w H' s'.heap/\RelV v u/\Q v H'
def CR (CX:CXT) (outer:List Env) (P:Program) (w:World) (H:Hp) (s:Shared) (Q:VK) (E:XK) (r:Result) (s':Shared):Prop:=
 match r with
 | .ok (.ret u)=>CE outer P w H s Q u s'
 | .ok _=>False
 | .error e=>CX outer H s E e s'
structure FnOk (P:Program) (w:World) (K:oS) (mg:Str->Option Value) (base:Heap) (CX:CXT) (k:Nat) (f:Addr) (fd:FuncData) (ps:List Str) (sp:Sp):Prop where
 len:∀ vs H Q E,sp vs H Q E->vs.length = ps.length
 run:∀ (A:Around) (outer:List Env) (s:Shared) (H:Hp) (args:Args) (us:List Value) (vs:List V) (Q:VK) (E:XK),Room k A->Env0 P w K mg base A outer s H->BindsTo s fd args (ps.zip us)->Vals vs us->sp vs H Q E ->
  codeAny (model P w) A (.call (.ref f) args) (CR CX outer P w H s Q E) s
def FnOk.imp {P:Program} {w:World} {K:oS} {mg:Str->Option Value} {base:Heap} {CX:CXT} {k:Nat} {f:Addr} {fd:FuncData} {ps:List Str} {sp sp':Sp} (F:FnOk P w K mg base CX k f fd ps sp)
  (h:∀ vs H Q E,sp' vs H Q E->sp vs H Q E):FnOk P w K mg base CX k f fd ps sp':=
 ⟨fun vs H Q E q=>F.len vs H Q E (h _ _ _ _ q),fun A outer s H args us vs Q E hr he hb hv hs=>F.run A outer s H args us vs Q E hr he hb hv (h _ _ _ _ hs)⟩
section
variable {X:Cx} {O:List (Addr × Obj)} {Y:St} {H:Hp} {s s':Shared}
def Inv.env0 (I:Inv X O Y H s):Env0 X.prog X.w X.K X.mg X.base X.A X.stack s H:=
 ⟨I.ok.frames,I.ok.mod,I.bs,YAZ I.ok.bsz I.sz,I.stack,I.stkFree,I.hok,I.bare⟩
def Inv.after  (I:Inv X O Y H s) (h:CE X.stack X.prog X.w H s Q u s'):EP X O Y Q u s':=by
 obtain ⟨v,H',os,bare,un,hok,r,q⟩:=h
 obtain ⟨hh,g,d,t,os'⟩:=s'
 obtain rfl:os' = s.os:=os
 exact ⟨v,H',I.call (h':=hh) (g':=g) (d':=d) (t':=t) (ch:=[]) un hok bare (fun b z=>absurd z (by simp)),r,q⟩
end
def zoW (sp:Sp) (dvs:List V) (E:XK) (t:TA):TE:=fun Y H Q=>t Y H fun vs H1=>sp (vs ++ dvs) H1 Q E
def Binds (K:oS) (fd:FuncData) (ps:List Str) (ds:List Value):Prop:=
 ∀ (s:Shared) (us:List Value),K.In s.heap->(us ++ ds).length = ps.length->BindsTo s fd ⟨us,[]⟩ (ps.zip (us ++ ds))
def Binds.all {K:oS} {fd:FuncData} {ps:List Str} (h:∀ us:List Value,us.length = ps.length->bindArgs fd ⟨us,[]⟩ = pure (ps.zip us)):Binds K fd ps []:=fun s us _ hl=>by
 rw [YAP] at hl ⊢
 exact .of_eq (h us hl)
def zj9 (CX:CXT) (X:Cx) (E:XK):Prop:=∀ (O:List (Addr × Obj)) (Y:St) (H:Hp) (s:Shared) (e:Value) (s':Shared),Inv X O Y H s->CX X.stack H s E e s'->X.xe e s'
section
variable {X:Cx} {CX:CXT} {k:Nat} {f C:Addr} {fd:FuncData} {ps:List Str} {sp:Sp} {dvs:List V} {ds:List Value} {E:XK} {x m:Str} {p pos apos:Pos} {e o:Expr} {es:List Expr} {ta:TE} {t:TA}
def zoK {O:List (Addr × Obj)} {Y:St} {H:Hp} {s:Shared} {Q:VK} {us:List Value} {vs:List V} (F:FnOk X.prog X.w X.K X.mg X.base CX k f fd ps sp) (hr:Room k X.A) (hb:Binds X.K fd ps ds) (hd:Vals dvs ds) (hx:zj9 CX X E)
  (I:Inv X O Y H s) (r:Vals vs us) (h:sp (vs ++ dvs) H Q E):wpAny (model X.prog X.w) X.A (call (.ref f) us) (EP X O Y Q) X.xe s:=by
 have r2:Vals (vs ++ dvs) (us ++ ds):=r.append hd
 have hl:(us ++ ds).length = ps.length:=by rw [<- r2.length];exact F.len _ _ _ _ h
 refine wpAny_call (YDg (F.run X.A X.stack s H ⟨us,[]⟩ (us ++ ds) (vs ++ dvs) Q E hr I.env0 (hb s us I.kIn hl) r2 h) fun r s' hq=>?_)
 cases r with
 | error e=>exact hx O Y H s e s' I hq
 | ok fl=>
  cases fl with
  | ret u=>exact I.after hq
  | next=>exact False.elim hq
  | brk=>exact False.elim hq
  | cont=>exact False.elim hq
def zhD (F:FnOk X.prog X.w X.K X.mg X.base CX k f fd ps sp) (hr:Room k X.A) (hg:Gl X x) (hm:X.mg x = some (.ref f)) (hk:PySem.W.keepIn X.K (.ref f) = true) (hb:Binds X.K fd ps ds) (hd:Vals dvs ds) (hx:zj9 CX X E)
  (ha:PA X (e :: es) t) (hdb:(x == ("__debug__" : Str)) = false:=by decide) (he:starEach (e :: es) X.env = (false,eval e X.env) :: starEach es X.env:=by rfl) (hpl:(backTo pos (starEach es X.env)).any (·.1) = false:=by rfl) :
  PE X (.Call (.Name x p) (e :: es) [] pos) (zoW sp dvs E t):=by
 intro O s Y H Q I h
 refine YDh (znJ I hg hm ?_ hdb)
 refine PySem.W.callWith_K (h₀:=X.base) I.ok.mod.kin hk (thn (ha pos O s Y H _ I h) fun us s1 ⟨vs,H1,I1,r,q⟩=>⟨I1.kIn,?_⟩) he hpl
 exact zoK F hr hb hd hx I1 r q
end
section
variable {X:Cx} {CX:CXT} {k:Nat} {f C:Addr} {fd:FuncData} {ps ks:List Str} {sp:Sp} {E:XK} {x m:Str} {p pos apos kpos:Pos} {e o:Expr} {es:List Expr} {kws:List Keyword} {te ta:TE} {t tk:TA} {nm:Option Str}
variable {g:List Value->List Value->List Value} {gV:List V->List V->List V}
end
structure FnScope (N P:List Str) (sc:Scope):Prop where
 kind:sc.kind = .function
 co:sc.isCoroutine = false
 gen:sc.isGenerator = false
 nd:N.Nodup
 pre:N.take P.length = P
 par:∀ x ∈ P,sc.names.lookup x = some .local\/sc.names.lookup x = some .cell
 nofree:∀ y ∈ sc.names,y.2 ≠ .free
theorem zg0 {kindOf:Str->Option NameKind} {x:Str}:∀ {binds:List (Str × Value)} {m:Str->Option Value},(∀ v,(x,v) ∉ binds)->bindL kindOf binds m x = m x
 | [],_,_=>rfl
 | (n,v) :: r,m,h=>by
  unfold bindL
  rw [zg0 fun w hw=>h w (YAn _ hw)]
  split
  .have:x ≠ n:=by rintro rfl;exact h v YAi
   simp [this]
  .rfl
theorem zgw {kindOf:Str->Option NameKind} {x:Str}:∀ {binds:List (Str × Value)} {m:Str->Option Value},(∀ v,(x,v) ∉ binds)->bindC kindOf binds m x = m x
 | [],_,_=>rfl
 | (n,v) :: r,m,h=>by
  unfold bindC
  rw [zgw fun w hw=>h w (YAn _ hw)]
  split
  .rfl
  .have:x ≠ n:=by rintro rfl;exact h v YAi
   simp [this]
theorem zg5 {kindOf:Str->Option NameKind} {x:Str} {v:Value}:∀ {P:List Str} {vs:List Value} {i:Nat} {m:Str->Option Value},P.Nodup->P[i]? = some x->vs[i]? = some v->kindOf x = some .local ->
  bindL kindOf (P.zip vs) m x = some v
 | [],_,_,_,_,h,_,_=>by simp at h
 | _ :: _,[],_,_,_,_,h,_=>by simp at h
 | p :: P,w :: vs,0,m,nd,h1,h2,hk=>by
  simp at h1 h2;subst h1;subst h2
  show bindL kindOf ((p,w) :: P.zip vs) m p = _
  unfold bindL
  rw [zg0 fun v hv=>(YBb.mp nd).1 (YDM hv).1,if_pos hk]
  simp
 | p :: P,w :: vs,i + 1,m,nd,h1,h2,hk=>by
  show bindL kindOf ((p,w) :: P.zip vs) m x = _
  unfold bindL
  exact zg5 (i:=i) (YBb.mp nd).2 (by simpa using h1) (by simpa using h2) hk
theorem zgP {kindOf:Str->Option NameKind} {x:Str} {v:Value}:∀ {P:List Str} {vs:List Value} {i:Nat} {m:Str->Option Value},P.Nodup->P[i]? = some x->vs[i]? = some v->kindOf x ≠ some .local ->
  bindC kindOf (P.zip vs) m x = some v
 | [],_,_,_,_,h,_,_=>by simp at h
 | _ :: _,[],_,_,_,_,h,_=>by simp at h
 | p :: P,w :: vs,0,m,nd,h1,h2,hk=>by
  simp at h1 h2;subst h1;subst h2
  show bindC kindOf ((p,w) :: P.zip vs) m p = _
  unfold bindC
  rw [zgw fun v hv=>(YBb.mp nd).1 (YDM hv).1,if_neg hk]
  simp
 | p :: P,w :: vs,i + 1,m,nd,h1,h2,hk=>by
  show bindC kindOf ((p,w) :: P.zip vs) m x = _
  unfold bindC
  exact zgP (i:=i) (YBb.mp nd).2 (by simpa using h1) (by simpa using h2) hk
def start (N:List Str) (vs:List V):St:=vs.map some ++ List.replicate (N.length - vs.length) none
noncomputable def cxOf (CX:CXT) (P:Program) (w:World) (K:oS) (mg:Str->Option Value) (base:Heap) (N:List Str) (qual:Str) (scope:Scope) (f:Addr) (cd:Value) (A:Around) (outer:List Env) (s:Shared) (H:Hp) (E:XK):Cx where
 prog:=P
 w:=w
 K:=K
 mg:=mg
 base:=base
 A:=A.deeper (envOfC qual scope s.heap.objs.size f cd)
 N:=N
 s₀:=s
 H₀:=H
 env:=envOfC qual scope s.heap.objs.size f cd
 outer:=outer
 stack:=envOfC qual scope s.heap.objs.size f cd :: outer
 ex:=[]
 calm:=true
 fn:=fun _=>true
 pn:=[]
 xe:=fun e s'=>wpAny (model P w) (A.deeper (envOfC qual scope s.heap.objs.size f cd)) (leaving (envOfC qual scope s.heap.objs.size f cd) e) (fun _ s''=>CX outer H s E e s'') (fun e' s''=>CX outer H s E e' s'') s'
def zir {sc:Scope} {n:Nat} {x:Str} (h:sc.names.lookup x = some .cell):∃ c,(cellsFrom n sc.names []).lookup x = some c:=by
 have q:=PySem.W.cellsFrom_some sc.names n [] (.inl h)
 exact Option.isSome_iff_exists.mp q
def zjj {CX:CXT} {P:Program} {w:World} {K:oS} {mg:Str->Option Value} {base:Heap} {N ps:List Str} {qual:Str} {scope:Scope} {f:Addr} {cd:Value} {A:Around} {outer:List Env} {s s1:Shared} {H:Hp} {E:XK} {us:List Value} {vs:List V}
  (S:FnScope N ps scope) (hd:A.handled = none) (e0:Env0 P w K mg base A outer s H) (hl:vs.length = ps.length) (r:Vals vs us)
  (x:InCallC s s.heap.objs.size (bindL (envOfC qual scope s.heap.objs.size f cd).kindOf (ps.zip us) fun _=>none) (cellsFrom (s.heap.objs.size + 1) scope.names []) (bindC (envOfC qual scope s.heap.objs.size f cd).kindOf (ps.zip us) fun _=>none) s1) :
  Inv (cxOf CX P w K mg base N qual scope f cd A outer s H E) [] (start N vs) H s1:=by
 have hpl:ps.length <= N.length:=by have:=congrArg List.length S.pre;rw [YBC] at this;omega
 obtain ⟨h1,tk,rfl,hk⟩:=x.done
 have noA:∀ b:Addr,b ∉ (cxOf CX P w K mg base N qual scope f cd A outer s H E).ex:=fun b z=>absurd (show b ∈ ([]:List Addr) from z) (by simp)
 refine ⟨⟨e0.mod,S.kind,rfl,rfl,YAl _,fun y z c h1 h2=>?_,fun y hy=>?_,fun y c _ h=>?_,fun _=>hd,Around.frames_deeper e0.frames,.inr ⟨rfl,rfl⟩,fun b z=>absurd z (noA b),e0.bs,e0.bsz,fun b _ _=>noA b,fun b z=>absurd z (noA b),e0.funs,e0.frf⟩,
  rfl,e0.bare,Un.kept hk,⟨_,x.toInCall.ns,fun i y v h1 h2 h3=>?_⟩,fun y c h=>⟨_,x.cell y c h⟩,e0.hok.fresh (YAl _),fun y c h=>?_,fun p hp=>absurd (show p ∈ ([]:List (Addr × Obj)) from hp) (by simp),e0.hok.kept hk,?_⟩
 .exact name_of_addr x.apart (YBr h1) (YBr h2)
 .have hy:scope.names.lookup y = some .cell\/scope.names.lookup y = some .free:=hy
  rcases hy with hy | hy
  .exact zir hy
  .exact absurd rfl (S.nofree _ (YBr hy))
 .exact YDf (x.above y c (YBr h))
 .have hi:i < vs.length:=by
   unfold start at h2
   by_cases hi:i < vs.length
   .exact hi
   .rw [YB1 (by simpa using hi)] at h2
    rw [YBO] at h2
    split at h2 <;> cases h2
  have ha:vs[i]? = some v:=by
   unfold start at h2
   rw [YBF (by simpa using hi),YAk] at h2
   cases e:vs[i]? with
   | none=>rw [e] at h2;cases h2
   | some a=>rw [e] at h2;cases h2;rfl
  obtain ⟨u,hu,rv⟩:=r.get ha
  have hp:ps[i]? = some y:=by
   rw [<- S.pre,YCh (by omega)];exact h1
  have ndP:ps.Nodup:=by rw [<- S.pre];exact S.nd.sublist (List.take_sublist _ _)
  refine ⟨u,rv,?_⟩
  rcases S.par y (YAA hp) with k | k
  .exact .inl ⟨k,zg5 ndP hp hu k⟩
  .obtain ⟨c,e⟩:=zir (n:=s.heap.objs.size + 1) k
   refine .inr ⟨.inl k,c,e,?_⟩
   have q:=x.cell y c e
   rw [zgP ndP hp hu (by show scope.names.lookup y ≠ _;rw [k];decide)] at q
   exact q
 .exact e0.hok.fresh (YDf (x.above y c (YBr h)))
 .unfold start
  show _ = N.length
  rw [YAw,YAc,List.length_replicate]
  omega
def zpQ {CX:CXT} {P:Program} {w:World} {K:oS} {mg:Str->Option Value} {base:Heap} {k:Nat} {f:Addr} {name qual:Str} {params:Arguments} {body:List Stmt} {scope:Scope} {dV kV doc pm cdv ct oc:Value} {an od:Option Addr}
  {osl:Array (Option Value)} {N ps:List Str} {sp:Sp} (lk:K.lookup f = some ⟨oc,od,.func (PySem.W.fnOf name qual params body scope dV kV doc pm an cdv ct),osl⟩) (hcd:PySem.W.codeIn K cdv qual = true) (S:FnScope N ps scope)
  (len:∀ vs H Q E,sp vs H Q E->vs.length = ps.length)
  (hbody:∀ (A:Around) (outer:List Env) (s:Shared) (H:Hp) (vs:List V) (Q:VK) (E:XK),Room k (A.deeper (envOfC qual scope s.heap.objs.size f cdv))->sp vs H Q E ->
   ∃ t,PSs (cxOf CX P w K mg base N qual scope f cdv A outer s H E) body t/\t { nx:=fun _ H'=>Q .non H',rt:=Q } (start N vs) H) :
  FnOk P w K mg base CX (k + 1) f (PySem.W.fnOf name qual params body scope dV kV doc pm an cdv ct) ps sp:=by
 refine ⟨len,fun A outer s H args us vs Q E hr e0 hb r hsp=>?_⟩
 have hl:=len _ _ _ _ hsp
 have KX:K.In s.heap:=e0.mod.kin.keeps fun b o e=>(e0.bs b o e).1
 have lim:s.heap.NoLimit:=e0.mod.nolimit.keeps fun b o e=>(e0.bs b o e).1
 have hkind:∀ y ∈ ps.zip us,scope.names.lookup y.1 = some .local\/(scope.names.lookup y.1 = some .cell/\((cellsFrom (s.heap.objs.size + 1) scope.names []).lookup y.1).isSome = true):=fun ⟨n,v⟩ hy=>by
  rcases S.par n (YDM hy).1 with q | q
  .exact .inl q
  .exact .inr ⟨q,PySem.W.cellsFrom_some _ _ _ (.inl q)⟩
 refine codeAny_call_function hr.depth (KX _ _ lk) rfl S.co S.gen rfl (PySem.W.codeRec_of KX hcd) (hb _ _ _ _ ?_)
 refine wpAny_newFunctionEnv_cells S.kind hkind fun env he s1 x=>?_
 subst he
 refine ⟨lim.keeps x.toInCall.keep,codeAny_func ?_⟩
 obtain ⟨t,ht,hq⟩:=hbody A outer s H vs Q E (hr.deeper _) hsp
 have I:Inv (cxOf CX P w K mg base N qual scope f cdv A outer s H E) [] (start N vs) H s1:=zjj S hr.hd e0 hl r x
 refine YA5 (ht [] s1 (start N vs) H _ I hq) (fun fl s' hs=>?_) fun e s' hs=>hs
 have fin:∀ {Y':St} {H':Hp} {v:V} {u:Value},Inv (cxOf CX P w K mg base N qual scope f cdv A outer s H E) [] Y' H' s'->RelV v u->Q v H'->CE outer P w H s Q u s':=
  fun {Y' H' v u} J rv q=>⟨v,H',J.os,J.bare,J.base,J.hok,rv,q⟩
 cases fl with
 | ret u=>
  obtain ⟨v,Y',H',J,rv,q⟩:=hs
  exact fin J rv q
 | next=>
  obtain ⟨Y',H',J,q⟩:=hs
  exact fin (v:=V.non) (u:=Value.none) J rfl q
 | brk=>
  obtain ⟨_,_,_,q⟩:=hs
  exact False.elim q
 | cont=>
  obtain ⟨_,_,_,q⟩:=hs
  exact False.elim q
section
variable {X:Cx} {x:Str} {p pos:Pos} {e:Expr} {es:List Expr} {t:TA} {id T:String} {r:List V->Hp->VK->Prop}
def tCB (r:List V->Hp->VK->Prop) (t:TA):TE:=fun Y H Q=>t Y H fun vs H1=>r vs H1 Q
def zbp (hc:CallR X (.builtin id) r) (hg:Gl X x) (hm:X.mg x = none) (hv:bootBuiltins x = some (.builtin id)) (ha:PA X (e :: es) t) (hn:x ≠ "__name__" := by decide) (hdb:(x == ("__debug__" : Str)) = false:=by decide)
  (he:starEach (e :: es) X.env = (false,eval e X.env) :: starEach es X.env:=by rfl) (hpl:(backTo pos (starEach es X.env)).any (·.1) = false:=by rfl):PE X (.Call (.Name x p) (e :: es) [] pos) (tCB r t):=by
 intro O s Y H Q I h
 refine YDh (zio I hg hm hv ?_ hn hdb)
 exact PyProof.Rows.callWith_builtin1 (thn (ha pos O s Y H _ I h) fun us s1 ⟨vs,H1,I1,r1,q1⟩=>hc O s1 Y H1 vs us Q I1 r1 q1) he hpl
def zb5 (hc:CallR X (.type T) r) (hg:Gl X x) (hm:X.mg x = none) (hv:bootBuiltins x = some (.type T)) (ha:PA X (e :: es) t) (hn:x ≠ "__name__" := by decide) (hdb:(x == ("__debug__" : Str)) = false:=by decide)
  (he:starEach (e :: es) X.env = (false,eval e X.env) :: starEach es X.env:=by rfl) (hpl:(backTo pos (starEach es X.env)).any (·.1) = false:=by rfl):PE X (.Call (.Name x p) (e :: es) [] pos) (tCB r t):=by
 intro O s Y H Q I h
 refine YDh (zio I hg hm hv ?_ hn hdb)
 exact YCv (thn (ha pos O s Y H _ I h) fun us s1 ⟨vs,H1,I1,r1,q1⟩=>hc O s1 Y H1 vs us Q I1 r1 q1) he hpl
end
end L2
namespace HT
open PySem PyProof.Rows
section
open PySem.SeqAt
open PySem.AutoSeq1 (wpAny_loadPart')
open PySem.MeetsSeq PySem.MeetsSeq2 PySem.MeetsSeq3
end
section
variable {prog:Program} {w:World} {A:Around} {E:Value->Shared->Prop} {s:Shared}
def cat_tup  (ht:IsTup s.heap t vs.toArray) (hb:IsTup s.heap b ws.toArray) (hv:vs ≠ [])
  (h1:ws = []->Q (.ref t) s) (h2:ws ≠ []->Q (.ref s.heap.objs.size) { s with heap:=s.heap.push { cls:=.type "tuple",data:=.seq (vs ++ ws).toArray } })
  (hsz:vs.length + ws.length <= sizeLine):wpAny (model prog w) A (binaryOp .Add (.ref t) (.ref b)) Q E s:=by
 obtain ⟨⟨cls,dd,data,sl⟩,ho,hc,n,hd⟩:=id ht
 obtain ⟨⟨cls2,dd2,data2,sl2⟩,ho2,hc2,n2,hd2⟩:=id hb
 simp only at hc hd hc2 hd2
 subst hc hd hc2 hd2
 have e:vs.toArray ++ ws.toArray = (vs ++ ws).toArray:=by simp
 by_cases hw:ws = []
 .exact YDN ⟨_,ho,rfl⟩ ⟨_,ho2,rfl⟩ YCX YDB YCt YCn (YCi _ _)
   (tuple_addW1 t b vs.toArray ws.toArray n n2 dd dd2 sl sl2 (by simpa using hv) (by simp [hw])) ⟨ho,ho2,h1 hw⟩
 .refine YDN ⟨_,ho,rfl⟩ ⟨_,ho2,rfl⟩ YCX YDB YCt YCn (YCi _ _)
   (tuple_addW2 t b vs.toArray ws.toArray n n2 dd dd2 sl sl2 (by simpa using hv) (by simpa using hw) (by rw [YAz,YAz];exact hsz)) ⟨ho,ho2,?_⟩
  rw [e]
  exact h2 hw
def sIx (n d:Nat):Option Int->Nat
 | none=>d
 | some v=>if v < 0 then (v + (n:Int)).toNat else min v.toNat n
def sIx_none (n d:Nat):sIx n d none = d:=rfl
def sIx_nat (n d k:Nat):sIx n d (some (k:Int)) = min k n:=by
 show (if (k:Int) < 0 then ((k:Int) + (n:Int)).toNat else min (k:Int).toNat n) = min k n
 rw [if_neg (by omega),YAE]
def zpa (n d:Nat) (hd:d <= n) (o:Option Int):sIx n d o <= n:=by
 cases o with
 | none=>exact hd
 | some v=>
  show (if v < 0 then (v + (n:Int)).toNat else min v.toNat n) <= n
  by_cases hv:v < 0
  .rw [if_pos hv];omega
  .rw [if_neg hv];exact Nat.min_le_right _ _
def zkp (v:Int) (n d:Nat):(if v < 0 then max (v + (n:Int)) 0 else min v (n:Int)) = ((sIx n d (some v):Nat):Int):=by
 show (if v < 0 then max (v + (n:Int)) 0 else min v (n:Int)) = (((if v < 0 then (v + (n:Int)).toNat else min v.toNat n):Nat):Int)
 by_cases hv:v < 0
 .simp only [if_pos hv];omega
 .simp only [if_neg hv];omega
def ziS (lo hi:Option Int) (n:Nat):Builtin.Slice.sliceAdjust lo hi 1 (n:Int) = (((sIx n 0 lo:Nat):Int),((sIx n n hi:Nat):Int)):=by
 have h1:¬ ((1:Int) < 0):=by omega
 unfold Builtin.Slice.sliceAdjust
 simp only [h1,YBn]
 refine Prod.ext ?_ ?_
 .cases lo with
  | none=>rfl
  | some v=>exact zkp v n 0
 .cases hi with
  | none=>rfl
  | some v=>exact zkp v n n
def zi0 (i j:Nat):Builtin.Slice.slicePlaces (i:Int) (j:Int) 1 = j - i:=by
 unfold Builtin.Slice.slicePlaces
 have h1:(1:Int) > 0:=by omega
 simp only [h1,YDO,Int.ediv_one]
 split <;> omega
def zfA {v:Value} {o:Option Int} {Q:Option Int->Shared->Prop} (p:IsPart v o) (h:Q o s):wpAny (model prog w) A (Builtin.Slice.slicePartIndex v) Q E s:=by
 cases p with
 | none=>exact YDm h
 | int i t=>exact slicePart_int h
def zcn {sl:Addr} {vl vu:Value} {lo hi:Option Int} {n:Nat} {Q:Int × Int × Nat->Shared->Prop} (hs:s.heap.IsSliceOf sl vl vu .none) (pl:IsPart vl lo) (pu:IsPart vu hi)
  (h:Q (((sIx n 0 lo:Nat):Int),1,sIx n n hi - sIx n 0 lo) s):wpAny (model prog w) A (Builtin.Slice.sliceApplied (.ref sl) (pure (n:Int))) Q E s:=by
 obtain ⟨os,hos,hcs,hds⟩:=id hs
 unfold Builtin.Slice.sliceApplied Builtin.Slice.sliceFields
 refine YAa (YAa (YCP hos hds (x:=vl) rfl (YAa (YCP hos hds (x:=vu) rfl (YAa (YCP hos hds (x:=.none) rfl (YAb ?_)))))))
 refine YAa (YDm ?_)
 show wpAny _ _ (if ((1:Int) == 0) = true then _ else _) _ _ s
 rw [if_neg (by decide)]
 refine YAa (zfA pl (YAa (zfA pu (YAa (YAb ?_)))))
 show wpAny _ _ (match Builtin.Slice.sliceAdjust lo hi 1 (n:Int) with | (lo,hi)=>pure (lo,(1:Int),Builtin.Slice.slicePlaces lo hi 1)) _ _ s
 rw [ziS lo hi n]
 show wpAny _ _ (pure (((sIx n 0 lo:Nat):Int),(1:Int),Builtin.Slice.slicePlaces ((sIx n 0 lo:Nat):Int) ((sIx n n hi:Nat):Int) 1)) _ _ s
 rw [zi0]
 exact YAb h
def zlG (xs:Array Value) (i k:Nat):((List.range k).filterMap fun (m:Nat)=>xs[((i:Int) + (m:Int) * 1).toNat]?).toArray = ((xs.toList.drop i).take k).toArray:=by
 have e:(fun (m:Nat)=>xs[((i:Int) + (m:Int) * 1).toNat]?) = fun m=>xs[i + m]?:=by
  funext m
  have:((i:Int) + (m:Int) * 1).toNat = i + m:=by omega
  rw [this]
 rw [e]
 have:=pick_run xs i k
 rw [List.filterMap_map] at this
 have e2:((fun x=>xs[x]?) ∘ fun x=>i + x) = fun m=>xs[i + m]?:=rfl
 rw [e2] at this
 rw [this]
def getItem_tuple_cut {t sl:Addr} {items:Array Value} {vl vu:Value} {lo hi:Option Int} {Q:Value->Shared->Prop} (ht:IsTup s.heap t items) (hs:s.heap.IsSliceOf sl vl vu .none) (pl:IsPart vl lo) (pu:IsPart vu hi)
  (hw:¬ (sIx items.size 0 lo = 0/\sIx items.size items.size hi = items.size))
  (h:Q (.ref s.heap.objs.size) { s with heap:=s.heap.push { cls:=.type "tuple",data:=.seq ((items.toList.drop (sIx items.size 0 lo)).take (sIx items.size items.size hi - sIx items.size 0 lo)).toArray } })
  (hsz:items.size <= sizeLine):wpAny (model prog w) A (getItem (.ref t) (.ref sl)) Q E s:=by
 have htake:sizeOk (.seq ((items.toList.drop (sIx items.size 0 lo)).take (sIx items.size items.size hi - sIx items.size 0 lo)).toArray):=by
  show ((items.toList.drop (sIx items.size 0 lo)).take (sIx items.size items.size hi - sIx items.size 0 lo)).toArray.size <= sizeLine
  rw [YAz,YBC,YCD,YBW]
  omega
 have hj:sIx items.size items.size hi <= items.size:=zpa _ _ (YAl _) hi
 obtain ⟨os,hos,hcs,hds⟩:=id hs
 have hTs:s.TypeIs (.ref sl) "slice" := ⟨os,hos,hcs⟩
 unfold getItem
 try with_reducible refine YAR ?_
 first | refine YAa (YAb ?_) | skip
 refine YAa (YDs ht.typeIs (by decide) ?_)
 refine YAa (YA6 (name:=Str.ofString "__getitem__") ht.typeIs YAQ
  (YAN YAQ ht.typeIs YC8 ?_ (YDi _ _)))
 show wpAny _ _ (Builtin.Tuple.tupleItemsOf (.ref t) >>= _) _ _ s
 refine YAa (tupleItemsOf_ ht ?_)
 refine YAa (YBG hTs ?_)
 rw [if_pos (by decide)]
 refine YAa (zcn hs pl pu ?_)
 have hno:¬ ((((sIx items.size 0 lo:Nat):Int) == 0 && (1:Int) == 1 && (sIx items.size items.size hi - sIx items.size 0 lo) == items.size) = true):=by
  intro q
  rw [YAX,YAX] at q
  have q1:((sIx items.size 0 lo:Nat):Int) = 0:=eq_of_beq q.1.1
  have q2:sIx items.size items.size hi - sIx items.size 0 lo = items.size:=eq_of_beq q.2
  exact hw ⟨by omega,by omega⟩
 show wpAny _ _ (if (((sIx items.size 0 lo:Nat):Int) == 0 && (1:Int) == 1 && (sIx items.size items.size hi - sIx items.size 0 lo) == items.size) = true then _ else _) _ _ s
 rw [if_neg hno,zlG]
 first
  | exact YAa (m:=Builtin.Tuple.tupleExact _) (YAG (YAb ⟨_,rfl,YAb h⟩) htake)
  | exact YAa (m:=Builtin.Tuple.tupleExact _) (YAG (YAa (YAb (YAb ⟨_,rfl,YAb h⟩))) htake)
  | exact YAa (YAa (m:=Builtin.Tuple.tupleExact _) (YAG (YAb (YAb ⟨_,rfl,YAb h⟩)) htake))
  | exact YAa (YAa (m:=Builtin.Tuple.tupleExact _) (YAG (YAb ⟨_,rfl,YAb h⟩) htake))
end
end HT
namespace L2
open PySem PySem.Spec PyProof.Rows
abbrev TO:=St->Hp->(Option Int->Hp->Prop)->Prop
def PO (X:Cx) (e:Option Expr) (t:TO):Prop:=
 ∀ (O:List (Addr × Obj)) (s:Shared) (Y:St) (H:Hp) (Q:Option Int->Hp->Prop),Inv X O Y H s->t Y H Q ->
  wpAny (model X.prog X.w) X.A (evalPart e X.env) (fun u s'=>∃ o H',Inv X O Y H' s'/\IsPart u o/\Q o H') X.xe s
def zmy:TO:=fun _ H Q=>Q none H
def zpW (t:TE):TO:=fun Y H Q=>t Y H fun x H1=>∃ i,x = .int i/\Q (some i) H1
def zff:∀ {us:List Value},Vals (ns.map V.int) us->IntsAre us ns:=by
 induction ns with
 | nil=>intro us r;rw [YDj] at r;cases r;exact .nil
 | cons n ns ih=>
  intro us r
  rw [YAf] at r
  cases r with
  | cons r1 r2=>
   obtain ⟨t,e⟩:=r1
   subst e
   exact .cons n t (ih r2)
section
variable {X:Cx} {e:Expr} {te:TE} {lo hi:Option Expr} {tl th:TO} {pos p2:Pos}
def zhC:PO X none zmy:=by
 intro O s Y H Q I h
 rw [evalPart_none]
 exact YAb ⟨none,H,I,.none,h⟩
def zhx (h:PE X e te):PO X (some e) (zpW te):=by
 intro O s Y H Q I hw
 rw [evalPart_some]
 refine thn (h O s Y H _ I hw) fun u s1 ⟨x,H1,I1,r1,q1⟩=>?_
 obtain ⟨i,rfl,q⟩:=q1
 obtain ⟨t,rfl⟩:=r1
 exact ⟨some i,H1,I1,.int i t,q⟩
noncomputable def SlR (X:Cx) (r:V->Option Int->Option Int->Hp->VK->Prop):Prop:=
 ∀ (O:List (Addr × Obj)) (s:Shared) (Y:St) (H:Hp) (x:V) (v vl vu:Value) (lo hi:Option Int) (sl:Addr) (Q:VK),Inv X O Y H s->RelV x v->s.heap.IsSliceOf sl vl vu .none->IsPart vl lo->IsPart vu hi->r x lo hi H Q ->
  ∃ T id,typeLookup (.type T) "__getitem__" = pure (some (.builtin id))/\s.TypeIs v T/\wpAny (model X.prog X.w) X.A (getItem v (.ref sl)) (EP X O Y Q) X.xe s
def tSl (r:V->Option Int->Option Int->Hp->VK->Prop) (te:TE) (tl th:TO):TE:=fun Y H Q=>te Y H fun x H1=>tl Y H1 fun l H2=>th Y H2 fun u H3=>r x l u H3 Q
def zfK (hr:SlR X r) (he:PE X e te) (hl:PO X lo tl) (hu:PO X hi th):PE X (.Subscript e (.Slice lo hi none p2) pos) (tSl r te tl th):=by
 intro O s Y H Q I h
 refine Subscript_ (thn (he O s Y H _ I h) fun v s1 ⟨x,H1,I1,r1,q1⟩=>?_)
 refine wpAny_Slice (thn (hl O s1 Y H1 _ I1 q1) fun vl s2 ⟨l,H2,I2,pl,q2⟩=>thn (hu O s2 Y H2 _ I2 q2) fun vu s3 ⟨u,H3,I3,pu,q3⟩=>?_)
 rw [evalPart_none]
 refine YAb ?_
 have I4:Inv X O Y H3 { s3 with heap:=s3.heap.push { cls:=.type "slice",data:=.fields #[vl,vu,.none] } }:=I3.kept (t':=s3.toks) fun b ob q=>YAe _ q
 obtain ⟨T,id,hT,ht,hg⟩:=hr O { s3 with heap:=s3.heap.push { cls:=.type "slice",data:=.fields #[vl,vu,.none] } } Y H3 x v vl vu l u s3.heap.objs.size Q I4 r1 (Heap.IsSliceOf.new ..) pl pu q3
 show wpAny (model X.prog X.w) X.A (subscriptTail e (.Slice lo hi none p2) v (.ref s3.heap.objs.size)) (EP X O Y Q) X.xe { s3 with heap:=s3.heap.push { cls:=.type "slice",data:=.fields #[vl,vu,.none] } }
 exact tail_any (ops:=[.ref s3.heap.objs.size,v]) ht hT hg (by with_unfolding_all rfl)
def cutV (xs:List V) (lo hi:Option Int):List V:=(xs.drop (HT.sIx xs.length 0 lo)).take (HT.sIx xs.length xs.length hi - HT.sIx xs.length 0 lo)
def zeE (xs:List V) (lo hi:Option Int):(cutV xs lo hi).length <= xs.length:=by
 unfold cutV
 rw [YBC,YCD]
 omega
def rSlT (K:oS):V->Option Int->Option Int->Hp->VK->Prop:=fun x lo hi H Q=>∃ a xs,x = .ref a/\SqT K H a xs /\
 ¬ (HT.sIx xs.length 0 lo = 0/\HT.sIx xs.length xs.length hi = xs.length)/\∀ p,H p = none->Q (.ref p) (upd H p (.tup (cutV xs lo hi)))
def zn5:SlR X (rSlT X.K):=by
 intro O s Y H x v vl vu lo hi sl Q I rx hs pl pu h
 obtain ⟨a,xs,rfl,hx,hw,q⟩:=h
 cases rx
 obtain ⟨its,r,ht,hz⟩:=I.tuple hx
 have hlen:its.toArray.size = xs.length:=by rw [YAz];exact r.length.symm
 refine ⟨"tuple",_,YAQ.lookup,ht.typeIs,?_⟩
 refine HT.getItem_tuple_cut ht hs pl pu (by rw [hlen];exact hw) ?_ (by rw [hlen];exact hz)
 rw [hlen]
 refine ⟨.ref s.heap.objs.size,_,I.laid (t':=s.toks) (o:=.tup (cutV xs lo hi)) (fun b ob q=>YAe _ q) (YAl _) ?_,rfl,q _ (I.hok.fresh (YAl _))⟩
 exact ⟨YAZ (zeE xs lo hi) hz,_,(r.drop (HT.sIx xs.length 0 lo)).take (HT.sIx xs.length xs.length hi - HT.sIx xs.length 0 lo),IsTup.new _ _⟩
def zpV (K:oS):R2:=fun x y H Q=>∃ a b xs ys,x = .ref a/\y = .ref b/\SqT K H a xs/\SqT K H b ys/\xs ≠ []/\xs.length + ys.length <= sizeLine /\
 (ys = []->Q (.ref a) H)/\(ys ≠ []->∀ p,H p = none->Q (.ref p) (upd H p (.tup (xs ++ ys))))
def Vals.nil_iff  (r:Vals xs us):us = [] ↔ xs = []:=by
 cases r with
 | nil=>simp
 | cons _ _=>simp
def zjr:OpR X (binaryOp .Add) (zpV X.K):=by
 intro O s Y H x y v u Q I rx ry h
 obtain ⟨a,b,xs,ys,rfl,rfl,ha,hb,hx,hz,q1,q2⟩:=h
 cases rx
 cases ry
 obtain ⟨its,r1,p1,_⟩:=I.tuple ha
 obtain ⟨its2,r2,p2,_⟩:=I.tuple hb
 refine HT.cat_tup p1 p2 (fun z=>hx (r1.nil_iff.mp z)) (fun z=>⟨.ref a,H,I,rfl,q1 (r2.nil_iff.mp z)⟩) (fun z=>?_) (by rw [<- r1.length,<- r2.length];exact hz)
 refine ⟨.ref s.heap.objs.size,_,I.laid (t':=s.toks) (o:=.tup (xs ++ ys)) (fun b ob q=>YAe _ q) (YAl _) ?_,rfl,q2 (fun w=>z (r2.nil_iff.mpr w)) _ (I.hok.fresh (YAl _))⟩
 exact ⟨by rw [YAw];exact hz,_,r1.append r2,IsTup.new _ _⟩
end
def ixN (n:Nat) (i:Int):Option Nat:=if 0 <= i then (if i < n then some i.toNat else none) else if -(n:Int) <= i then some (i + n).toNat else none
def atI {α:Type} (xs:List α) (i:Int):Option α:=(ixN xs.length i).bind fun j=>xs[j]?
def zji  (h:ixN n i = some j):seqIndex? i n = some j/\j < n/\-(n:Int) <= i/\i < n:=by
 unfold ixN at h
 by_cases h0:0 <= i
 .rw [if_pos h0] at h
  by_cases h1:i < n
  .rw [if_pos h1] at h
   have e:i.toNat = j:=Option.some.inj h
   exact ⟨by rw [seqIndex_of h0 h1,e],by omega,by omega,h1⟩
  .rw [if_neg h1] at h;cases h
 .rw [if_neg h0] at h
  by_cases h1:-(n:Int) <= i
  .rw [if_pos h1] at h
   have e:(i + n).toNat = j:=Option.some.inj h
   exact ⟨by rw [seqIndex_neg (by omega) h1,e],by omega,h1,by omega⟩
  .rw [if_neg h1] at h;cases h
def zha {α:Type} {xs:List α} {i:Int} {v:α} (h:atI xs i = some v):∃ j,seqIndex? i xs.length = some j/\xs[j]? = some v/\j < xs.length/\-(xs.length:Int) <= i/\i < xs.length:=by
 unfold atI at h
 cases e:ixN xs.length i with
 | none=>rw [e] at h;cases h
 | some j=>
  rw [e] at h
  obtain ⟨h1,h2,h3,h4⟩:=zji e
  exact ⟨j,h1,h,h2,h3,h4⟩
def zdK {α:Type} {xs:List α} {j:Nat} {v:α} (h:xs[j]? = some v):atI xs (j:Int) = some v:=by
 have hj:j < xs.length:=(YAh.mp h).1
 have e:ixN xs.length (j:Int) = some j:=by
  unfold ixN
  rw [if_pos (by omega),if_pos (by omega)];simp
 unfold atI;rw [e];exact h
def zhd (b:Expr):Prop:=∀ o i,subscripted b false o i = operate [o,i] (getItem o i)
noncomputable def IxR (X:Cx) (r:R2):Prop:=
 ∀ (value slice:Expr) (O:List (Addr × Obj)) (s:Shared) (Y:St) (H:Hp) (x y:V) (v u:Value) (Q:VK),Inv X O Y H s->RelV x v->RelV y u->r x y H Q ->
  subscripted slice false v u = operate [v,u] (getItem v u)->wpAny (model X.prog X.w) X.A (subscriptTail value slice v u) (EP X O Y Q) X.xe s
noncomputable def MtR (X:Cx) (id:String) (r:V->List V->Hp->VK->Prop):Prop:=
 ∀ (O:List (Addr × Obj)) (s:Shared) (Y:St) (H:Hp) (x:V) (xs:List V) (v:Value) (us:List Value) (Q:VK),Inv X O Y H s->RelV x v->Vals xs us->r x xs H Q ->
  wpAny (model X.prog X.w) X.A (call (.builtin id) (v :: us)) (EP X O Y Q) X.xe s
section
variable {X:Cx} {a b:Expr} {ta tb:TE} {pos:Pos}
def IxR.or {r r':R2} (h:IxR X r) (h':IxR X r'):IxR X (fun x y H Q=>r x y H Q\/r' x y H Q):=by
 intro value slice O s Y H x y v u Q I rx ry q hs
 rcases q with q | q
 .exact h value slice O s Y H x y v u Q I rx ry q hs
 .exact h' value slice O s Y H x y v u Q I rx ry q hs
def zcs (hr:IxR X r) (ha:PE X a ta) (hb:PE X b tb) (hs:zhd b):PE X (.Subscript a b pos) (tOp r ta tb):=by
 intro O s Y H Q I h
 exact Subscript_ (binT ha hb I h fun v u s2 x y H2 I2 rx ry q=>hr a b O s2 Y H2 x y v u Q I2 rx ry q (hs _ _))
def rIxL (K:oS):R2:=fun x y H Q=>∃ p xs i v,x = .ref p/\y = .int i/\SqL K H p xs/\atI xs i = some v/\Q v H
def rIxT (K:oS):R2:=fun x y H Q=>∃ p xs i v,x = .ref p/\y = .int i/\SqT K H p xs/\atI xs i = some v/\Q v H
def rIxS:R2:=fun x y H Q=>∃ z i c,x = .str z/\y = .int i/\z.length <= sizeLine/\atI z.cps.toList i = some c/\Q (.str ⟨#[c]⟩) H
def ix_list:IxR X (rIxL X.K):=by
 intro value slice O s Y H x y v u Q I rx ry h hs
 obtain ⟨p,xs,i,z,rfl,rfl,hq,he,q⟩:=h
 cases rx
 obtain ⟨t,rfl⟩:=ry
 obtain ⟨its,r,pl,hz⟩:=I.list hq
 obtain ⟨j,h1,h2,h3,h4,h5⟩:=zha he
 obtain ⟨w,ew,rw'⟩:=r.get h2
 have hl:=r.length
 have hn:=zeK
 have fin:EP X O Y Q w s:=⟨z,H,I,rw',q⟩
 by_cases h0:0 <= i
 .have hj:i.toNat = j:=by
   rw [seqIndex_of h0 h5] at h1
   exact Option.some.inj h1
  exact item_listR pl.isList h0 (by omega) (by rw [hj];simpa using ew) fin hs
 .have hj:(i + (its.toArray.size:Int)).toNat = j:=by
   rw [seqIndex_neg (by omega) h4] at h1
   rw [YAz,<- hl]
   exact Option.some.inj h1
  exact subscriptTail_builtinR (x:=w) pl.isList.typeIs slot_list_getitem.lookup
   (wpAny_getItem_list_neg (Q:=fun r s'=>r = w/\EP X O Y Q r s') pl.isList (by omega) (by rw [YAz] <;> omega) (by omega) (by rw [hj];simpa using ew) ⟨rfl,fin⟩) hs
def ix_tup:IxR X (rIxT X.K):=by
 intro value slice O s Y H x y v u Q I rx ry h hs
 obtain ⟨p,xs,i,z,rfl,rfl,hq,he,q⟩:=h
 cases rx
 obtain ⟨t,rfl⟩:=ry
 obtain ⟨its,r,pl,hz⟩:=I.tuple hq
 obtain ⟨j,h1,h2,h3,h4,h5⟩:=zha he
 obtain ⟨w,ew,rw'⟩:=r.get h2
 have hl:=r.length
 have hn:=zeK
 have fin:EP X O Y Q w s:=⟨z,H,I,rw',q⟩
 exact subscriptTail_builtinR (x:=w) pl.typeIs slot_tuple_getitem.lookup
  (getItem_tuple (j:=j) (Q:=fun r s'=>r = w/\EP X O Y Q r s') pl (by omega) (by omega) (by rw [YAz,<- hl];exact h1) (by simpa using ew) ⟨rfl,fin⟩) hs
def zoX:IxR X rIxS:=by
 intro value slice O s Y H x y v u Q I rx ry h hs
 obtain ⟨z,i,c,rfl,rfl,hz,he,q⟩:=h
 obtain ⟨t,rfl⟩:=rx
 obtain ⟨t',rfl⟩:=ry
 obtain ⟨j,h1,h2,h3,h4,h5⟩:=zha he
 have hl:z.cps.toList.length = z.length:=by simp [Str.length]
 rw [hl] at h1 h4 h5
 have hn:=zeK
 exact tail_any (typeIs_str s z t) slot_str_getitem.lookup (getItem_str (c:=c) (by
  have e1:decide (i < -(2 ^ 63:Int)) = false:=YAY (by omega)
  have e2:decide (i ≥ 2 ^ 63) = false:=YAY (by omega)
  rw [e1,e2,YC5]) (by rw [h1];simpa using h2) ⟨.str ⟨#[c]⟩,H,I.tok _,⟨_,rfl⟩,q⟩) hs
def rIx (K:oS):R2:=fun x y H Q=>rIxL K x y H Q\/rIxT K x y H Q\/rIxS x y H Q
def zl3:IxR X (rIx X.K):=ix_list.or (ix_tup.or zoX)
def zi7 (its:List Value) (n j:Nat) (u:Value):Obj.mapSeq (·.setIfInBounds j u) { cls:=.type "list",data:=.seq its.toArray n } = { cls:=.type "list",data:=.seq (its.set j u).toArray n }:=by
 simp [Obj.mapSeq]
theorem Inv.lst {O:List (Addr × Obj)} {Y:St} {H:Hp} {s:Shared} {p:Addr} {xs:List V} (I:Inv X O Y H s) (h:H p = some (.lst xs)) :
  ∃ (its:List Value) (n:Nat),Vals xs its/\s.heap.get? p = some { cls:=.type "list",data:=.seq its.toArray n }/\xs.length <= sizeLine:=by
 obtain ⟨z,its,n,r,e⟩:=I.hok p _ h
 exact ⟨its,n,r,e,z⟩
def Inv.lstUpd {O:List (Addr × Obj)} {Y:St} {H:Hp} {s:Shared} {p:Addr} {xs ys:List V} {its its':List Value} {n n':Nat} {f:Obj->Obj} (I:Inv X O Y H s) (h:H p = some (.lst xs))
  (ho:s.heap.get? p = some { cls:=.type "list",data:=.seq its.toArray n }) (hf:f { cls:=.type "list",data:=.seq its.toArray n } = { cls:=.type "list",data:=.seq its'.toArray n' }) (r:Vals ys its') (hz:ys.length <= sizeLine) (t:Nat) :
  Inv X O Y (upd H p (.lst ys)) { s with heap:=s.heap.update p f,toks:=t }:=by
 have e:(s.heap.update p f).get? p = some { cls:=.type "list",data:=.seq its'.toArray n' }:=by
  rw [YAI f ho (by rw [hf] <;> rfl),hf]
 refine I.write (x:=p) (e:=p) (by rw [h];trivial) (.inl rfl) (fun b u hb q=>(YAU _ _ (Ne.symm hb)).trans q) ⟨_,e⟩ ?_
 exact ⟨hz,its',n',r,e⟩
def zpG:V->V->V->Hp->(Hp->Prop)->Prop:=fun o i v H Q=>∃ p xs k j,o = .ref p/\i = .int k/\H p = some (.lst xs)/\ixN xs.length k = some j/\Q (upd H p (.lst (xs.set j v)))
def zca:PSet X zpG:=by
 intro O s Y H o i v ov iv u Q I ro ri rv h
 obtain ⟨p,xs,k,j,rfl,rfl,hp,hj,q⟩:=h
 cases ro
 obtain ⟨t,rfl⟩:=ri
 obtain ⟨its,n,r,ho,hz⟩:=I.lst hp
 obtain ⟨h1,h2,h3,h4⟩:=zji hj
 have hl:=r.length
 have hn:=zeK
 have I':Inv X O Y (upd H p (.lst (xs.set j v))) { s with heap:=s.heap.update p (Obj.mapSeq (·.setIfInBounds j u)) }:=
  I.lstUpd hp ho (zi7 its n j u) (r.set rv j) (by rw [YBH];exact hz) s.toks
 by_cases h0:0 <= k
 .have hk:k.toNat = j:=by
   rw [seqIndex_of h0 h4] at h1
   exact Option.some.inj h1
  exact PySem.W.ki_setAt ho h0 (by omega) (by rw [YAz,<- hl];exact h4) (by rw [hk];exact ⟨_,I',q⟩)
 .have hk:(k + (its.toArray.size:Int)).toNat = j:=by
   rw [seqIndex_neg (by omega) h3] at h1
   rw [YAz,<- hl]
   exact Option.some.inj h1
  exact PySem.W.ki_setBack ho (by omega) (by rw [YAz,<- hl];exact h3) (by omega) (by rw [hk];exact ⟨_,I',q⟩)
def zgj (lo hi:Option Int) (n:Nat):(sliceBounds lo hi none n).1 = ((HT.sIx n 0 lo:Nat):Int)/\(sliceBounds lo hi none n).2.1 = ((HT.sIx n n hi:Nat):Int)/\(sliceBounds lo hi none n).2.2 = 1:=by
 refine ⟨?_,?_,rfl⟩
 .cases lo with
  | none=>simp [sliceBounds,HT.sIx]
  | some i=>
   simp only [sliceBounds,HT.sIx,Option.getD_none,show (1:Int) > 0 by decide,YDO]
   by_cases h:i < 0
   .simp only [h,YDO] <;> omega
   .simp only [h,YBn] <;> omega
 .cases hi with
  | none=>simp [sliceBounds,HT.sIx]
  | some i=>
   simp only [sliceBounds,HT.sIx,Option.getD_none,show (1:Int) > 0 by decide,YDO]
   by_cases h:i < 0
   .simp only [h,YDO] <;> omega
   .simp only [h,YBn] <;> omega
def zfR (its:List Value) (lo hi:Option Int):slicePick its.toArray lo hi none = ((its.drop (HT.sIx its.length 0 lo)).take (HT.sIx its.length its.length hi - HT.sIx its.length 0 lo)).toArray:=by
 obtain ⟨h1,h2,h3⟩:=zgj lo hi its.toArray.size
 unfold slicePick
 rw [h1,h2,h3]
 simp only [sliceRange_one,pick_run,YAz] <;> rfl
def rSlL (K:oS):V->Option Int->Option Int->Hp->VK->Prop:=fun x lo hi H Q=>∃ a xs,x = .ref a/\SqL K H a xs/\∀ p,H p = none->Q (.ref p) (upd H p (.lst (cutV xs lo hi)))
def zmC:SlR X (rSlL X.K):=by
 intro O s Y H x v vl vu lo hi sl Q I rx hs pl pu h
 obtain ⟨a,xs,rfl,hx,q⟩:=h
 cases rx
 obtain ⟨its,r,ht,hz⟩:=I.list hx
 have hlen:=r.length
 refine ⟨"list",_,slot_list_getitem.lookup,ht.isList.typeIs,?_⟩
 refine wpAny_getItem_list_slice ht.isList hs pl pu .none (by simp) ?_ (by rw [YAz] <;> omega)
 rw [zfR,<- hlen]
 refine ⟨.ref s.heap.objs.size,_,I.laid (t':=s.toks) (o:=.lst (cutV xs lo hi)) (fun b ob q=>YAe _ q) (YAl _) ?_,rfl,q _ (I.hok.fresh (YAl _))⟩
 exact ⟨YAZ (zeE xs lo hi) hz,_,0,(r.drop (HT.sIx xs.length 0 lo)).take (HT.sIx xs.length xs.length hi - HT.sIx xs.length 0 lo),YAo _ rfl⟩
def zf7:V->Bool
 | .non=>true
 | .bl _=>true
 | .int _=>true
 | .str _=>true
 | _=>false
def eqV:V->V->Bool
 | .non,.non=>true
 | .bl a,.bl b=>a == b
 | .bl a,.int b=>(if a then 1 else 0) == b
 | .int a,.bl b=>a == (if b then 1 else 0)
 | .int a,.int b=>a == b
 | .str a,.str b=>a == b
 | _,_=>false
def zn6   (ry:RelV y u) (rx:RelV x v) (fy:zf7 y = true) (fx:zf7 x = true):SeqAt.EqAt A s u v (eqV y x):=by
 cases y with
 | non=>
  cases ry
  cases x with
  | non=>cases rx;exact SeqAt.EqAt.same _
  | bl b=>cases rx;exact SeqAt.EqAt.none_bool b
  | int b=>obtain ⟨t,rfl⟩:=rx;exact SeqAt.EqAt.none_int b t
  | str b=>obtain ⟨t,rfl⟩:=rx;exact SeqAt.EqAt.none_str b t
  | _=>exact absurd (show false = true from fx) YAy
 | bl a=>
  cases ry
  cases x with
  | non=>cases rx;exact SeqAt.EqAt.bool_none a
  | bl b=>cases rx;exact SeqAt.EqAt.bool_bool a b
  | int b=>obtain ⟨t,rfl⟩:=rx;exact SeqAt.EqAt.bool_int a b t
  | str b=>obtain ⟨t,rfl⟩:=rx;exact SeqAt.EqAt.bool_str a b t
  | _=>exact absurd (show false = true from fx) YAy
 | int a=>
  obtain ⟨t',rfl⟩:=ry
  cases x with
  | non=>cases rx;exact SeqAt.EqAt.int_none a t'
  | bl b=>cases rx;exact SeqAt.EqAt.int_bool a t' b
  | int b=>obtain ⟨t,rfl⟩:=rx;exact SeqAt.EqAt.int_int a t' b t
  | str b=>obtain ⟨t,rfl⟩:=rx;exact SeqAt.EqAt.int_str a t' b t
  | _=>exact absurd (show false = true from fx) YAy
 | str a=>
  obtain ⟨t',rfl⟩:=ry
  cases x with
  | non=>cases rx;exact SeqAt.EqAt.str_none a t'
  | bl b=>cases rx;exact SeqAt.EqAt.str_bool a t' b
  | int b=>obtain ⟨t,rfl⟩:=rx;exact SeqAt.EqAt.str_int a t' b t
  | str b=>obtain ⟨t,rfl⟩:=rx;exact SeqAt.EqAt.str_str a t' b t
  | _=>exact absurd (show false = true from fx) YAy
 | _=>exact absurd (show false = true from fy) YAy
def eqU (x:V) (u:Value):Bool:=match u with
 | .none=>eqV .non x
 | .bool b=>eqV (.bl b) x
 | .int i _=>eqV (.int i) x
 | .str z _=>eqV (.str z) x
 | _=>false
def zml  (r:RelV y u) (f:zf7 y = true):eqU x u = eqV y x:=by
 cases y with
 | non=>cases r;rfl
 | bl b=>cases r;rfl
 | int i=>obtain ⟨t,rfl⟩:=r;rfl
 | str z=>obtain ⟨t,rfl⟩:=r;rfl
 | _=>exact absurd (show false = true from f) YAy
theorem zhf:∀ {xs:List V} {us:List Value},Vals xs us->xs.all zf7 = true->us.any (eqU x) = xs.any fun y=>eqV y x
 | _,_,.nil,_=>rfl
 | y :: xs,u :: us,.cons r t,f=>by
  rw [YDC,YAX] at f
  rw [YB5,YB5,zml r f.1,zhf t f.2]
theorem zf8   (rx:RelV x v) (fx:zf7 x = true):∀ {xs:List V} {us:List Value},Vals xs us->xs.all zf7 = true->∀ u ∈ us,SeqAt.EqAt A s u v (eqU x u)
 | _,_,.nil,_=>fun u hu=>by cases hu
 | y :: xs,u :: us,.cons r t,f=>fun u' hu=>by
  rw [YDC,YAX] at f
  rcases YAs.mp hu with rfl | hu
  .rw [zml r f.1];exact zn6 r rx f.1 fx
  .exact zf8 rx fx t f.2 u' hu
def inV (x:V) (xs:List V):Bool:=xs.any fun y=>eqV y x
def rIn (K:oS) (neg:Bool):R2:=fun x y H Q=>∃ p xs,y = .ref p/\(SqL K H p xs\/SqT K H p xs)/\zf7 x = true/\xs.all zf7 = true/\Q (.bl (if neg then !inV x xs else inV x xs)) H
def zdY:OpR X (compareOp .NotIn) (rIn X.K true):=by
 intro O s Y H x y v u Q I rx ry h
 obtain ⟨p,xs,rfl,hq,fx,fs,q⟩:=h
 cases ry
 rcases hq with hq | hq
 .obtain ⟨its,r,pl,hz⟩:=I.list hq
  refine SeqAt.notIn_listAt (eqU x) pl.isList (fun w hw=>zf8 rx fx r fs w (by simpa using hw)) ⟨.bl _,H,I,rfl,?_⟩
  rw [show its.toArray.any (eqU x) = its.any (eqU x) by simp,zhf r fs]
  exact q
 .obtain ⟨its,r,pl,hz⟩:=I.tuple hq
  refine SeqAt.notIn_tupleAt (eqU x) pl (fun w hw=>zf8 rx fx r fs w (by simpa using hw)) ⟨.bl _,H,I,rfl,?_⟩
  rw [show its.toArray.any (eqU x) = its.any (eqU x) by simp,zhf r fs]
  exact q
def zbL:CallR X (.builtin "len") (fun xs H Q=>∃ p ys,xs = [.ref p]/\(SqL X.K H p ys\/SqT X.K H p ys)/\Q (.int ys.length) H):=by
 intro O s Y H xs us Q I r h
 obtain ⟨p,ys,rfl,hq,q⟩:=h
 obtain ⟨u,rfl,rx⟩:=zdv r
 cases rx
 have hn:=zeK
 rcases hq with hq | hq
 .obtain ⟨its,r',pl,hz⟩:=I.list hq
  have hlen:=r'.length
  exact Calls.call_len_list pl.isList (by simp only [YAz] <;> omega) ⟨.int ys.length,H,I.tok _,⟨s.toks + 1,by rw [YAz,hlen]⟩,q⟩
 .obtain ⟨its,r',pl,hz⟩:=I.tuple hq
  have hlen:=r'.length
  exact len_tuple pl (by simp only [YAz] <;> omega) ⟨.int ys.length,H,I.tok _,⟨s.toks + 1,by rw [YAz,hlen]⟩,q⟩
def CallR.or {f:Value} {r r':List V->Hp->VK->Prop} (h:CallR X f r) (h':CallR X f r'):CallR X f (fun xs H Q=>r xs H Q\/r' xs H Q):=by
 intro O s Y H xs us Q I rs q
 rcases q with q | q
 .exact h O s Y H xs us Q I rs q
 .exact h' O s Y H xs us Q I rs q
def zd5:CallR X (.type "list") (fun xs H Q=>∃ p ys,xs = [.ref p]/\(SqL X.K H p ys\/SqT X.K H p ys)/\∀ l,H l = none->Q (.ref l) (upd H l (.lst ys))):=by
 intro O s Y H xs us Q I r h
 obtain ⟨p,ys,rfl,hq,q⟩:=h
 obtain ⟨u,rfl,rx⟩:=zdv r
 cases rx
 have fin:∀ (its:List Value),Vals ys its->ys.length <= sizeLine->∀ (h':Heap) (c':Nat),(∀ b o',s.heap.get? b = some o'->h'.get? b = some o') ->
   h'.get? s.heap.objs.size = some { cls:=.type "list",dict:=none,data:=.seq its.toArray c',slots:=#[] }->EP X O Y Q (.ref s.heap.objs.size) { s with heap:=h' }:=fun its r' hz h' c' kp e=>
  ⟨.ref s.heap.objs.size,_,I.laid (t':=s.toks) kp (YAl _) (show ObjOk X.prog X.w _ h' _ (.lst ys) from ⟨hz,its,c',r',e⟩),rfl,q _ (I.hok.fresh (YAl _))⟩
 rcases hq with hq | hq
 .obtain ⟨its,r',pl,hz⟩:=I.list hq
  have hlen:=r'.length
  obtain ⟨o,ho,hc,n,hd⟩:=pl.isList
  exact call_list_seq p (.inl rfl) ho hc hd (fun h' c' kp e=>fin its r' hz h' c' kp e) (by simp only [YAz] <;> omega)
 .obtain ⟨its,r',pl,hz⟩:=I.tuple hq
  have hlen:=r'.length
  obtain ⟨o,ho,hc,n,hd⟩:=pl
  exact call_list_seq p (.inr rfl) ho hc hd (fun h' c' kp e=>fin its r' hz h' c' kp e) (by simp only [YAz] <;> omega)
def zfZ:CallR X (.type "tuple") (fun xs H Q=>∃ p ys,xs = [.ref p]/\((SqL X.K H p ys/\∀ l,H l = none->Q (.ref l) (upd H l (.tup ys)))\/(SqT X.K H p ys/\Q (.ref p) H))):=by
 intro O s Y H xs us Q I r h
 obtain ⟨p,ys,rfl,h⟩:=h
 obtain ⟨u,rfl,rx⟩:=zdv r
 cases rx
 rcases h with ⟨hq,q⟩ | ⟨hq,q⟩
 .obtain ⟨its,r',pl,hz⟩:=I.list hq
  have hlen:=r'.length
  refine call_tuple_list pl.isList (fun h' kp=>?_) (by simp only [YAz] <;> omega)
  have I1:Inv X O Y H { s with heap:=h' }:=I.kept (t':=s.toks) kp
  have I2:Inv X O Y (upd H h'.objs.size (.tup ys)) { s with heap:=h'.push { cls:=.type "tuple",data:=.seq its.toArray } }:=
   I1.laid (t':=s.toks) (fun b o e=>YAe _ e) (YAl _) (show ObjOk X.prog X.w _ _ _ (.tup ys) from ⟨hz,its,r',IsTup.new _ _⟩)
  exact ⟨.ref h'.objs.size,_,I2,rfl,q _ (I1.hok.fresh (YAl _))⟩
 .obtain ⟨its,r',pl,hz⟩:=I.tuple hq
  exact call_tuple_same pl ⟨.ref p,H,I,rfl,q⟩
noncomputable def tyV (K:oS) (T:String) (x:V) (H:Hp):Prop:=match x with
 | .str _=>T = "str"
 | .int _=>T = "int"
 | .ref p=>(T = "list" /\ ∃ xs,SqL K H p xs)\/(T = "tuple" /\ ∃ o,K.lookup p = some o/\o.cls = .type "tuple" /\ o.dict = none) \/
   (T = "dict" /\ ((∃ kvs,H p = some (.dK kvs))\/∃ kvs,H p = some (.dT kvs)))\/(T = "set" /\ ∃ S n,H p = some (.set S n))
 | _=>False
def zpe    (I:Inv X O Y H s) (r:RelV x v) (ty:tyV X.K T x H) :
  s.TypeIs v T/\∀ a,v = .ref a->∃ ob,s.heap.get? a = some ob/\ob.dict = none:=by
 cases x with
 | str z=>
  obtain ⟨t,rfl⟩:=r
  cases (show T = "str" from ty)
  exact ⟨typeIs_str s z t,fun _ e=>nomatch e⟩
 | int i=>
  obtain ⟨t,rfl⟩:=r
  cases (show T = "int" from ty)
  exact ⟨typeIs_int s i t,fun _ e=>nomatch e⟩
 | ref p=>
  cases r
  rcases ty with ⟨rfl,xs,hq⟩ | ⟨rfl,o,hk,hc,hd⟩ | ⟨rfl,hk⟩ | ⟨rfl,S,n,hk⟩
  .obtain ⟨its,_,pl,_⟩:=I.list hq
   refine ⟨pl.isList.typeIs,fun a e=>?_⟩
   cases e
   obtain ⟨o,n,e,c,hd,_⟩:=pl
   exact ⟨o,e,hd⟩
  .refine ⟨⟨o,I.kIn p o hk,hc⟩,fun a e=>?_⟩
   cases e
   exact ⟨o,I.kIn _ o hk,hd⟩
  .have z:∃ o,s.heap.get? p = some o/\o.ExactDict:=by
    rcases hk with ⟨kvs,hk⟩ | ⟨kvs,hk⟩
    .obtain ⟨_,_,_,_,o,_,_,e,ex,_⟩:=I.hok p _ hk
     exact ⟨o,e,ex⟩
    .obtain ⟨_,_,_,_,o,_,_,e,ex,_⟩:=I.hok p _ hk
     exact ⟨o,e,ex⟩
   obtain ⟨o,e,ex⟩:=z
   refine ⟨⟨o,e,ex.1⟩,fun a e2=>?_⟩
   cases e2
   exact ⟨o,e,ex.2.1⟩
  .obtain ⟨o,_,_,_,e,ex,_⟩:=I.hok p _ hk
   refine ⟨⟨o,e,ex.1⟩,fun a e2=>?_⟩
   cases e2
   exact ⟨o,e,ex.2.1⟩
 | _=>exact False.elim ty
def tBM (K:oS) (T:String) (r:V->List V->Hp->VK->Prop) (to:TE) (t:TA):TE:=fun Y H Q=>to Y H fun x H1=>tyV K T x H1/\t Y H1 fun xs H2=>r x xs H2 Q
variable {o e:Expr} {es:List Expr} {to:TE} {t:TA} {name:Str} {apos cpos:Pos} {T id:String} {r:V->List V->Hp->VK->Prop}
def ziK (pa:PlainAttrs T) (slot:Slot T name id) (hty:typeOf (.builtin id) = pure (.type "method_descriptor")) (hm:MtR X id r) (ho:PE X o to) (ha:PA X (e :: es) t)
  (hbase:attributeBase o name X.env (eval o X.env) = eval o X.env:=by rfl)
  (hfew:((backTo cpos (starEach (e :: es) X.env)).all (fun x=>!x.1) && (backToKw cpos (keywordEach [] X.env)).all (fun x=>x.1.isSome)
   && decide ((e :: es).length + ([]:List Keyword).length + (if ([]:List Keyword).isEmpty then 0 else 1) < 30)) = true:=by rfl)
  (hline:(apos.endLine == cpos.line) = true:=by rfl) (hs:starEach (e :: es) X.env = (false,eval e X.env) :: starEach es X.env:=by rfl) (hplain:(backTo cpos (starEach es X.env)).any (·.1) = false:=by rfl) :
  PE X (.Call (.Attribute o name apos) (e :: es) [] cpos) (tBM X.K T r to t):=by
 intro O s Y H Q I h
 refine wpAny_Call_method_late hbase hfew hline rfl (thn (ho O s Y H _ I h) fun v s1 ⟨x,H1,I1,r1,ty,q1⟩=>?_)
 obtain ⟨h1,h2⟩:=zpe I1 r1 ty
 refine ⟨T,id,pa,slot,hty,h1,h2,?_⟩
 have hA:=ha cpos O s1 Y H1 _ I1 q1
 rw [hs] at hA ⊢
 refine YBZ (by show (false || (backTo cpos (starEach es X.env)).any (·.1)) = false;rw [hplain] <;> rfl) (YCz ?_)
 exact thn hA fun us s2 ⟨vs,H2,I2,r2,q2⟩=>hm O s2 Y H2 x vs v us Q I2 r1 r2 q2
end
noncomputable def MtM (X:Cx) (id:String) (r:V->List V->Hp->VK->Prop):Prop:=
 ∀ (O:List (Addr × Obj)) (s:Shared) (Y:St) (H:Hp) (x:V) (xs:List V) (v:Value) (us:List Value) (Q:VK),Inv X O Y H s->RelV x v->Vals xs us->r x xs H Q ->
  wpAny (model X.prog X.w) X.A (call (.builtin id) (v :: us)) (EP X O Y Q) X.xe s
def Vals.one:∀ {x:V} {us:List Value},Vals [x] us->∃ u,us = [u]/\RelV x u
 | _,_,.cons r .nil=>⟨_,rfl,r⟩
theorem Vals.rep  (h:Vals xs us):∀ k:Nat,Vals (List.replicate k xs).flatten (List.replicate k us).flatten
 | 0=>.nil
 | k + 1=>by
  rw [YBf,YBf,YBS,YBS]
  exact Vals.append h (Vals.rep h k)
theorem zg3 (its:List Value):∀ (k:Nat) (acc:List Value),
  List.foldl (fun x1 x2=>x1 ++ x2) acc.toArray (List.replicate k its.toArray) = (acc ++ (List.replicate k its).flatten).toArray
 | 0,acc=>by simp
 | k + 1,acc=>by
  have e:acc.toArray ++ its.toArray = (acc ++ its).toArray:=by simp
  have e2:(acc ++ its) ++ (List.replicate k its).flatten = acc ++ (List.replicate (k + 1) its).flatten:=by
   rw [YBf,YBS,YAH]
  rw [<- e2,<- zg3 its k (acc ++ its),<- e,YBf,YDP]
section
variable {X:Cx} {O:List (Addr × Obj)} {Y:St} {H:Hp} {s:Shared} {l b:Addr} {xs ys zs:List V}
def Inv.lset {its its':List Value} {n:Nat} {f:Array Value->Array Value} {t':Nat} (I:Inv X O Y H s) (hH:H l = some (.lst xs))
  (e:s.heap.get? l = some { cls:=.type "list",data:=.seq its.toArray n }) (hf:f its.toArray = its'.toArray) (hv:Vals ys its') (hz:ys.length <= sizeLine) :
  Inv X O Y (upd H l (.lst ys)) { s with heap:=s.heap.update l (Obj.mapSeq f),toks:=t' }:=by
 have q:=PySem.IsL.update e f
 rw [hf] at q
 refine I.write (x:=l) (e:=l) (by rw [hH];exact trivial) (.inl rfl) (fun b' u hb hu=>(YAU s.heap (Obj.mapSeq f) (Ne.symm hb)).trans hu) ⟨_,q⟩ ?_
 exact ⟨hz,its',_,hv,q⟩
def Inv.lnew  (I:Inv X O Y H s) (hv:Vals ys its) (hz:ys.length <= sizeLine) :
  Inv X O Y (upd H s.heap.objs.size (.lst ys)) { s with heap:=s.heap.push { cls:=.type "list",data:=.seq its.toArray },toks:=t' }:=
 I.laid (fun _ _ q=>YAe _ q) (YAl _) ⟨hz,its,0,hv,YAo _ rfl⟩
theorem Inv.fresh (I:Inv X O Y H s):H s.heap.objs.size = none:=I.hok.fresh (YAl _)
def Inv.lstM (I:Inv X O Y H s) (hH:H l = some (.lst xs)):xs.length <= sizeLine/\∃ (its:List Value) (n:Nat),Vals xs its/\xs.length = its.length/\s.heap.get? l = some { cls:=.type "list",data:=.seq its.toArray n }:=by
 obtain ⟨z,its,n,r,e⟩:=I.hok l _ hH
 exact ⟨z,its,n,r,r.length,e⟩
def zlT {n:Nat} (h:n <= sizeLine):Builtin.List.listTooLong n = false:=by
 unfold Builtin.List.listTooLong
 exact YAY (by omega)
end
section
variable {X:Cx}
def zmU:V->List V->Hp->VK->Prop:=fun x vs H Q=>∃ l xs y,x = .ref l/\vs = [y]/\H l = some (.lst xs)/\xs.length < sizeLine/\Q .non (upd H l (.lst (xs ++ [y])))
def zbs:MtM X "list.append" zmU:=by
 intro O s Y H x vs v us Q I rx rv h
 obtain ⟨l,xs,y,rfl,rfl,hH,hz,q⟩:=h
 cases rx
 obtain ⟨u,rfl,ru⟩:=rv.one
 obtain ⟨z,its,n,r,hl,e⟩:=I.lstM hH
 refine call_meets F.slot_list_append ⟨_,e,rfl⟩ F.entry_list_append (F.args_list_append_2 _ _) (PySem.list_append l its.toArray n u (by rw [YAz];omega)) ⟨e,?_⟩
 refine ⟨.non,_,I.lset (its':=its ++ [u]) hH e (by simp) (r.append (.cons ru .nil)) ?_,rfl,q⟩
 rw [YAw,List.length_singleton]
 omega
def rCat:R2:=fun x y H Q=>∃ l b xs zs,x = .ref l/\y = .ref b/\H l = some (.lst xs)/\H b = some (.lst zs)/\xs.length + zs.length <= sizeLine/\∀ p,H p = none->Q (.ref p) (upd H p (.lst (xs ++ zs)))
def op_cat:OpR X (binaryOp .Add) rCat:=by
 intro O s Y H x y v u Q I rx ry h
 obtain ⟨l,b,xs,zs,rfl,rfl,hH,hB,hz,q⟩:=h
 cases rx
 cases ry
 obtain ⟨z,its,n,r,hl,e⟩:=I.lstM hH
 obtain ⟨z2,its2,n2,r2,hl2,e2⟩:=I.lstM hB
 refine PySem.P.add_list e e2 ?_ (by rw [YAz,YAz];omega)
 have ea:its.toArray ++ its2.toArray = (its ++ its2).toArray:=by simp
 rw [ea]
 exact ⟨.ref _,_,I.lnew (t':=s.toks) (r.append r2) (by rw [YAw];omega),rfl,q _ I.fresh⟩
def rRep:R2:=fun x y H Q=>∃ l k xs,x = .ref l/\y = .int k/\H l = some (.lst xs)/\-(2 ^ 63) <= k/\k < 2 ^ 63/\xs.length * k.toNat <= sizeLine /\
 ∀ p,H p = none->Q (.ref p) (upd H p (.lst (List.replicate k.toNat xs).flatten))
def zmz {α:Type} (xs:List α) (k:Nat):(List.replicate k xs).flatten.length = k * xs.length:=by
 induction k with
 | zero=>simp
 | succ k ih=>rw [YBf,YBS,YAw,ih,Nat.succ_mul,Nat.add_comm]
def zl7:OpR X (binaryOp .Mult) rRep:=by
 intro O s Y H x y v u Q I rx ry h
 obtain ⟨l,k,xs,rfl,rfl,hH,h1,h2,hz,q⟩:=h
 cases rx
 obtain ⟨t,rfl⟩:=ry
 obtain ⟨z,its,n,r,hl,e⟩:=I.lstM hH
 have hlen:its.toArray.size * k.toNat <= sizeLine:=by rw [YAz,<- hl];exact hz
 have hcap:¬ its.toArray.size * k.toNat > (2 ^ 63 - 1) / 8:=by
  have:(sizeLine:Nat) <= (2 ^ 63 - 1) / 8:=by decide
  omega
 have hfit:¬ (!Builtin.List.listFitsIndex k) = true:=by
  rw [fitsIndex_both h1 h2]
  exact YAy
 have hlong:¬ Builtin.List.listTooLong (its.toArray.size * k.toNat) = true:=by
  rw [zlT hlen]
  exact YAy
 have hnew:List.foldl (fun x1 x2=>x1 ++ x2) #[] (List.replicate (if its.toArray.isEmpty = true then 0 else k.toNat) its.toArray) = (List.replicate k.toNat its).flatten.toArray:=by
  have f0:∀ m:Nat,List.foldl (fun x1 x2=>x1 ++ x2) #[] (List.replicate m its.toArray) = (List.replicate m its).flatten.toArray:=fun m=>by
   have:=zg3 its m []
   rw [YBc] at this
   exact this
  rw [f0]
  cases its with
  | nil=>simp
  | cons a r'=>rw [if_neg (by simp)]
 refine wpAny_binaryOp_repeat_ref (T := "list") (U := "int") (by decide) ⟨_,e,rfl⟩ (fun s'=>typeIs_int s' k t) noFill_list_mul F.fills_int_mul F.slot_int_rmul repeat_list F.slot_int_index.lookup
  (call_meets F.slot_int_rmul (typeIs_int s k t) F.entry_int_rmul (F.args_int_rmul_2 _ _) (int___rmul___int_list k t l its.toArray n)
   ⟨e,rfl,⟨_,e,rfl⟩,call_meets F.slot_list_mul ⟨_,e,rfl⟩ F.entry_list_mul (F.args_list_mul_2 _ _) (AutoListH.list___mul___list_int_3 l its.toArray n k t hfit hcap hlong) ⟨e,?_⟩⟩)
 rw [hnew]
 exact ⟨.ref _,_,I.lnew (t':=s.toks) (r.rep k.toNat) (by rw [zmz,Nat.mul_comm];exact hz),rfl,q _ I.fresh⟩
end
section
variable {prog:Program} {w:World} {A:Around} {E:Value->Shared->Prop} {s:Shared}
end
section
variable {X:Cx}
end
end L2
namespace Att
open PySem PySem.W PySem.Calls PyProof.Rows
def zeV {P:Params} {h:Heap}:∀ (ns:List Int) (vs:List Value),WellAll P h vs (ns.map WData.int)->IntsAre vs ns:=by
 intro ns
 induction ns with
 | nil=>
  intro vs w
  rw [YDj] at w
  cases w
  exact .nil
 | cons n ns ih=>
  intro vs w
  rw [YAf] at w
  cases w with
  | cons a b=>
   cases a
   exact .cons _ _ (ih _ b)
def zkt {l:OpenLaw} {n:Nat} (hn:l.most = some n) {P:Params} {h:Heap} {args:List WData} {vals:List Value}
  (hpre:l.row.toRowW.claim.pre args = true) (hwl:WellAll P h vals args) :
  ∃ a vs ns,vals = [Value.ref a]/\args = [WData.list (ns.map WData.int)]/\h.get? a = some { cls:=.type "list",data:=.seq vs.toArray }/\IntsAre vs ns/\ns.length <= n:=by
 have hsh:WShape.hasAll [] args [.list .int] = true:=(pre_splitW hpre).1
 have hc:l.pre.holds [] { args:=args } = true:=(pre_splitW hpre).2
 obtain ⟨d,r,rfl,h1,h2⟩:=hasAllW_cons hsh
 obtain rfl:=hasAllW_nil h2
 obtain ⟨xs,rfl,h3⟩:=hasW_list h1
 obtain ⟨ns,rfl⟩:=items_int h3
 have hlen:ns.length <= n:=by
  unfold OpenLaw.pre at hc
  have h4:(WTm.not (.lt (.lit (.int (n:Int))) (.len (.arg 0)))).holds [] { args:=[.list (ns.map .int)] } = true:=by
   have h4:=(holds_andW hc).1
   rw [hn] at h4
   exact h4
  have h5:=condW_of h4 (w_not (w_lt w_lit (w_len_list (w_arg rfl))))
  rw [YAc] at h5
  refine YDF fun q=>?_
  have q':(n:Int) < ((ns.length:Nat):Int):=by omega
  first
   | (rw [YAS q'] at h5;exact absurd h5 (by decide))
   | (simp at h5;omega)
 cases hwl with
 | cons w1 w2=>
  cases w2
  cases w1 with
  | list ho hall=>exact ⟨_,_,ns,rfl,rfl,ho,zeV ns _ hall,hlen⟩
def zjz (l:OpenLaw) (args:List WData):l.row.toRowW.claim.post args (.bool true) args = true:=
 postW_of (r:=l.row.toRowW) (X:=(true == true))
  (show WShape.has [] (.bool true) .bool = true by first | rfl | decide | simp [WShape.has,WShape.arms,WShape.armsAll])
  (show (WTm.eq .res (.lit (.bool true))).value [] { args:=args,res:=some (.bool true),after:=args } = some (.bool (true == true)) from w_eq_bool (w_res rfl) w_lit) rfl
def attach_call {l:OpenLaw} {n:Nat} {q:Program} {loose:List Str} {XP:(Str->Option Value)->Heap->Prop} {YP:World->Heap->Prop} {d:DefRec}
  (hn:l.most = some n) (hdf:d.params.defaults = [])
  (call:∀ (w:World) (s₀ s₁:Shared) (mg mb:Str->Option Value) (fa:Addr) (o:Obj) (pm cd doc:Value) (a:Addr) (vs:List Value) (ns:List Int),
   Ground q loose [] XP w s₀ mg mb s₁.heap->YP w s₁.heap ->
   s₁.heap.get? fa = some o->o.data = .func (docDef d.name d.params d.body d.scope pm cd doc)->s₁.heap.CodeRec cd d.name->mg d.name = some (.ref fa) ->
   s₁.heap.get? a = some { cls:=.type "list",data:=.seq vs.toArray }->IntsAre vs ns->ns.length <= n->s₁.gens = #[] ->
   codeAny (model l.prog w) callerA (.call (.ref fa) ⟨[.ref a],[]⟩) (fun r s'=>r = .ok (.ret (.bool true))/\OldK s₁.heap s'.heap/\s'.os = s₁.os/\AllBare s'.gens) s₁) :
  WalkO q loose XP YP l.row.toRowW d [] (fun f vs=>PySem.call f vs):=by
 intro w s₀ s₁ mg mb G oQ fa o pm cd doc dV kV ho hd hcd hD hmg hg args vals as hpre hlay hrd hwl hlo
 obtain rfl:dV = .none:=Dflts.none hD hdf
 obtain rfl:kV = .none:=Dflts.noKw hD
 obtain ⟨a,vs,ns,rfl,rfl,hobj,hints,hlen⟩:=zkt hn hpre hwl
 refine enter_call (YDg (call w s₀ s₁ mg mb fa o pm cd doc a vs ns G oQ ho (fd_plain hd) hcd hmg hobj hints hlen hg) fun r s' hq=>?_)
 obtain ⟨rfl,h2,h3,h4⟩:=hq
 exact ⟨.inl ⟨.bool true,.bool true,[],rfl,fun _=>rfl,.bool true,zjz l _,fun _=>⟨List.Pairwise.nil,fun _ hm=>(nomatch hm)⟩⟩,h2,h3,h4⟩
section
variable {prog:Program} {w:World} {A:Around} {E:Value->Shared->Prop} {s:Shared} {K:Frag}
end
end Att
namespace L2
open PySem PySem.Spec PyProof.Rows
theorem zgS:∀ {vs:List Value} {ns:List Int},IntsAre vs ns->Vals (ns.map V.int) vs
 | _,_,.nil=>.nil
 | _,_,.cons n t h=>.cons ⟨t,rfl⟩ (zgS h)
def Only (H:Hp):Prop:=∀ b,H b = none\/∃ o xs,H b = some (.frz o (.lst xs))
def zlO {P:Program} {w:World} {K:oS} {mg mb:Str->Option Value} {CX:CXT} {k:Nat} {fa a:Addr} {fd:FuncData} {x:Str} {sp:Sp} {s₁:Shared} {vs:List Value} {ns:List Int}
  (KX:K.In s₁.heap) (hns:s₁.heap.Ns mainGlobals mg) (hb:s₁.heap.Ns builtinsNs mb) (hbb:∀ x:Str,x ≠ "__name__" -> mb x = bootBuiltins x) (hlim:s₁.heap.NoLimit) (hg:s₁.gens = #[])
  (ha:s₁.heap.get? a = some { cls:=.type "list",data:=.seq vs.toArray }) (hi:IntsAre vs ns) (hl:ns.length <= sizeLine) (hr:Room k callerA)
  (F:∀ base:Heap,K.In base->base.Ns mainGlobals mg->FnOk P w K mg base CX k fa fd [x] sp) (hbind:∀ (s:Shared) (u:Value),BindsTo s fd ⟨[u],[]⟩ [(x,u)])
  (hsp:∀ H:Hp,Only H->SqL K H a (ns.map V.int)->sp [.ref a] H (fun v _=>v = .bl true) fun _ _ _=>False)
  (hCX:∀ H e s',CX [] H s₁ (fun _ _ _=>False) e s'->False) :
  codeAny (model P w) callerA (.call (.ref fa) ⟨[.ref a],[]⟩) (fun r s'=>r = .ok (.ret (.bool true))/\OldK s₁.heap s'.heap/\s'.os = s₁.os/\AllBare s'.gens) s₁:=by
 have rv:=zgS hi
 have lenV:=hi.length
 -- from an abstract heap in which nothing but the script may be tracked
 have core:∀ H:Hp,Only H->SqL K H a (ns.map V.int)->HOk P w H s₁.heap->(∀ b,H b ≠ none->b = a)->(H a ≠ none->K.lookup a = none) ->
   codeAny (model P w) callerA (.call (.ref fa) ⟨[.ref a],[]⟩) (fun r s'=>r = .ok (.ret (.bool true))/\OldK s₁.heap s'.heap/\s'.os = s₁.os/\AllBare s'.gens) s₁:=by
  intro H hO hS hok hA hK
  have base_of:∀ {b:Addr} {o:Obj},s₁.heap.get? b = some o->H b = none->(hidT s₁.heap H).get? b = some o:=fun e n=>zlh e n
  have noA:∀ {b:Addr} {o:Obj} {es:Array DictEntry} {ep:Nat},s₁.heap.get? b = some o->o.data = .dict es ep->H b = none:=fun {b o es ep} e d=>by
   cases q:H b with
   | none=>rfl
   | some u=>
    have e':b = a:=hA b (by rw [q];simp)
    subst e'
    rw [ha] at e;cases e
    have d':Data.seq vs.toArray _ = Data.dict es ep:=d
    cases d'
  have nsK:∀ {b:Addr} {m:Str->Option Value},s₁.heap.Ns b m->(hidT s₁.heap H).Ns b m:=fun {b m} ⟨o,es,ep,e,d,r⟩=>⟨o,es,ep,base_of e (noA e d),d,r⟩
  have hKb:K.In (hidT s₁.heap H):=fun b o e=>base_of (KX b o e) (by
   cases q:H b with
   | none=>rfl
   | some u=>
    have e':b = a:=hA b (by rw [q];simp)
    subst e'
    rw [hK (by rw [q];simp)] at e;cases e)
  have hM:Mod K mg (hidT s₁.heap H):=⟨hKb,nsK hns,⟨mb,nsK hb,hbb⟩,let ⟨mc,h1,h2⟩:=hlim;⟨mc,nsK h1,h2⟩⟩
  have e0:Env0 P w K mg (hidT s₁.heap H) callerA [] s₁ H:=⟨rfl,hM,fun b o e=>zmo e,Nat.le_of_eq (zke _ _),trivial,fun b hb=>absurd (show b ∈ ([]:List Addr) from hb) (by simp),hok,.of_eq hg⟩
  refine YDg ((F _ hKb (nsK hns)).run callerA [] s₁ H ⟨[.ref a],[]⟩ [.ref a] [.ref a] _ _ hr e0 (hbind s₁ (.ref a)) (.cons rfl .nil) (hsp H hO hS)) fun r s' h=>?_
  cases r with
  | error e=>exact (hCX H e s' h).elim
  | ok fl=>
   cases fl with
   | next=>exact False.elim h
   | brk=>exact False.elim h
   | cont=>exact False.elim h
   | ret u=>
    obtain ⟨v,H',os,bare,un,hok',r',q⟩:=h
    have q':v = .bl true:=q
    subst q'
    obtain rfl:u = Value.bool true:=r'
    refine ⟨rfl,OldK.of_keep fun b o e=>?_,os,bare⟩
    cases q:H b with
    | none=>exact un.keep b o e q (by intro z;exact absurd (show b ∈ ([]:List Addr) from z) (by simp)) (by simp)
    | some u=>
     rcases hO b with z | ⟨ob,xs,z⟩
     .rw [q] at z;cases z
     .have z2:=un.frzs b ob _ z
      obtain ⟨e1,_⟩:=hok b _ z
      obtain ⟨e2,_⟩:=hok' b _ z2
      rw [e] at e1;cases e1
      exact e2
 cases hk:K.lookup a with
 | some o=>
  -- the script is one of the module's own objects
  have e:=KX a o hk
  rw [ha] at e
  cases e
  refine core (fun _=>none) (fun _=>.inl rfl) (.inr ⟨_,vs.toArray,_,hk,rfl,rfl,rfl,by rw [YAz,lenV];exact hl,by simpa using rv⟩) (fun b u z=>by have z':(none:Option HO) = some u:=z;cases z') (fun b z=>absurd rfl z) fun z=>absurd rfl z
 | none=>
  refine core (fun b=>if b = a then some (.frz { cls:=.type "list",data:=.seq vs.toArray } (.lst (ns.map V.int))) else none) (fun b=>?_) (.inl (.inr ⟨{ cls:=.type "list",data:=.seq vs.toArray },if_pos rfl⟩)) (fun b u z=>?_) (fun b z=>?_) fun _=>hk
  .by_cases hb:b = a
   .exact .inr ⟨_,_,if_pos hb⟩
   .exact .inl (if_neg hb)
  .by_cases hb:b = a
   .have z':=(if_pos hb).symm.trans z
    cases z'
    subst hb
    exact ⟨ha,by rw [YAc];exact hl,vs,_,rv,ha⟩
   .have z':=(if_neg hb).symm.trans z
    cases z'
  .by_cases hb:b = a
   .exact hb
   .exact absurd (if_neg hb) z
def zm0 {l:PySem.W.OpenLaw} {n k:Nat} {q:Program} {loose:List Str} {XP:(Str->Option Value)->Heap->Prop} {YP:World->Heap->Prop} {d:DefRec} {K:Params->oS} {CX:World->CXT} {sp:World->Sp} {x:Str}
  (hn:l.most = some n) (hn2:n <= sizeLine) (hdf:d.params.defaults = []) (hr:Room k callerA)
  (hY:∀ (w:World) (h:Heap),YP w h->(K w.params).In h)
  (F:∀ (w:World) (mg:Str->Option Value) (fa:Addr) (h:Heap),(K w.params).In h->h.Ns mainGlobals mg->mg d.name = some (.ref fa) ->
   ∃ fd:FuncData,(∀ (s:Shared) (u:Value),BindsTo s fd ⟨[u],[]⟩ [(x,u)]) /\
    ∀ base:Heap,(K w.params).In base->base.Ns mainGlobals mg->FnOk l.prog w (K w.params) mg base (CX w) k fa fd [x] (sp w))
  (hsp:∀ (w:World) (H:Hp) (a:Addr) (ns:List Int),ns.length <= n->Only H->SqL (K w.params) H a (ns.map V.int)->sp w [.ref a] H (fun v _=>v = .bl true) fun _ _ _=>False)
  (hCX:∀ (w:World) (H:Hp) (s:Shared) (e:Value) (s':Shared),CX w [] H s (fun _ _ _=>False) e s'->False) :
  PySem.W.WalkO q loose XP YP l.row.toRowW d [] (fun f vs=>PySem.call f vs):=by
 refine Att.attach_call hn hdf fun w s₀ s₁ mg mb fa o pm cd doc a vs ns G oQ ho hd hcd hmg hobj hints hlen hg=>?_
 have KX:=hY w _ oQ
 obtain ⟨fd,hb,hF⟩:=F w mg fa _ KX G.T.g hmg
 exact zlO KX G.T.g G.T.b G.T.builtins G.T.nolimit hg hobj hints (YAZ hlen hn2) hr hF hb (fun H hO hS=>hsp w H a ns hlen hO hS) fun H e s'=>hCX w H s₁ e s'
def zcB (s:Stmt):Arguments:=match s with
 | .FunctionDef _ a _ _ _ _ _ _ _ _=>a
 | _=>{ posonlyargs:=[],args:=[],vararg:=none,kwonlyargs:=[],kw_defaults:=[],kwarg:=none,defaults:=[] }
def zbE (s:Stmt):List Stmt:=match s with
 | .FunctionDef _ _ b _ _ _ _ _ _ _=>b
 | _=>[]
def zan (s:Stmt):Scope:=match s with
 | .FunctionDef _ _ _ _ _ _ sc _ _ _=>sc
 | _=>{ kind:=.function,names:=[],isGenerator:=false,isCoroutine:=false }
abbrev CX0:CXT:=fun _ _ _ _ _ _=>False
abbrev E0:XK:=fun _ _ _=>False
def znk:zj9 CX0 X E0:=fun _ _ _ _ _ _ _ h=>h.elim
structure Fun (K:oS) (x qual:Str) (st:Stmt) (f:Addr) (fd:FuncData):Prop where
 ex:∃ (oc:Value) (od:Option Addr) (kV doc pm:Value) (an:Option Addr) (cdv ct:Value) (osl:Array (Option Value)),
  fd = PySem.W.fnOf x qual (zcB st) (zbE st) (zan st) .none kV doc pm an cdv ct/\K.lookup f = some ⟨oc,od,.func fd,osl⟩/\PySem.W.codeIn K cdv qual = true
 kp:PySem.W.keepIn K (.ref f) = true
section
variable {P:Program} {w:World} {K:oS} {mg:Str->Option Value} {base:Heap}
def Fun.ok {x qual:Str} {st:Stmt} {f:Addr} {fd:FuncData} {N ps:List Str} {k:Nat} {sp:Sp} (F:Fun K x qual st f fd) (S:FnScope N ps (zan st)) (len:∀ vs H Q E,sp vs H Q E->vs.length = ps.length)
  (hbody:∀ (cdv:Value) (A:Around) (outer:List Env) (s:Shared) (H:Hp) (vs:List V) (Q:VK) (E:XK),Room k (A.deeper (envOfC qual (zan st) s.heap.objs.size f cdv))->sp vs H Q E ->
   ∃ t,PSs (cxOf CX0 P w K mg base N qual (zan st) f cdv A outer s H E).nox (zbE st) t/\t { nx:=fun _ H'=>Q .non H',rt:=Q } (start N vs) H):FnOk P w K mg base CX0 (k + 1) f fd ps sp:=by
 obtain ⟨oc,od,kV,doc,pm,an,cdv,ct,osl,rfl,lk,hcd⟩:=F.ex
 refine zpQ lk hcd S len fun A outer s H vs Q E hr hsp=>?_
 obtain ⟨t,h,q⟩:=hbody cdv A outer s H vs Q E hr hsp
 exact ⟨t,h.nox,q⟩
def Fun.binds {x qual:Str} {st:Stmt} {f:Addr} {fd:FuncData} {ps:List Str} (F:Fun K x qual st f fd)
  (h:∀ (kV doc pm:Value) (an:Option Addr) (cdv ct:Value) (us:List Value),us.length = ps.length->bindArgs (PySem.W.fnOf x qual (zcB st) (zbE st) (zan st) .none kV doc pm an cdv ct) ⟨us,[]⟩ = pure (ps.zip us)):Binds K fd ps []:=by
 obtain ⟨oc,od,kV,doc,pm,an,cdv,ct,osl,rfl,lk,hcd⟩:=F.ex
 exact .all (h kV doc pm an cdv ct)
def zo3 {x qual:Str} {st:Stmt} {f:Addr} {oc:Value} {od an:Option Addr} {osl:Array (Option Value)} {kV doc pm cdv ct:Value} (l:K.lookup f = some ⟨oc,od,.func (PySem.W.fnOf x qual (zcB st) (zbE st) (zan st) .none kV doc pm an cdv ct),osl⟩)
  (c:PySem.W.codeIn K cdv qual = true) (k:PySem.W.keepIn K (.ref f) = true):Fun K x qual st f (PySem.W.fnOf x qual (zcB st) (zbE st) (zan st) .none kV doc pm an cdv ct):=⟨⟨oc,od,kV,doc,pm,an,cdv,ct,osl,rfl,l,c⟩,k⟩
end
def zlC  (hr:Room k A):A.units + 1 < cLine:=Nat.lt_of_le_of_lt (Nat.add_le_add_left (by decide:1 <= 64) _) hr.units
section
variable {X:Cx}
def pv (i:Nat)  (hN:X.N[i]? = some x:=by rfl) (hv:Vis X.env.scope x:=by first | exact Or.inl rfl | exact Or.inr (Or.inl rfl) | exact Or.inr (Or.inr rfl)) (hd:(x == ("__debug__" : Str)) = false:=by decide)
  (hcd:(x == ("__classdict__" : Str)) = false:=by decide):PE X (.Name x pos) (tVar i):=zdl hN hv hd hcd
end
def iteF {A B:Prop} (h:B):if false = true then A else B:=by
 rw [if_neg YAy]
 exact h
def iteT {A B:Prop} (h:A):if true = true then A else B:=by
 rw [if_pos rfl]
 exact h
def ite2 {c A B:Prop} [Decidable c] (h1:c->A) (h2:¬ c->B):if c then A else B:=by
 by_cases h:c
 .rw [if_pos h]
  exact h1 h
 .rw [if_neg h]
  exact h2 h
def zpI {c A B:Prop} [Decidable c] (hc:c) (h:B):if (!decide c) = true then A else B:=by
 rw [YAS hc]
 exact iteF h
def Same (H H':Hp):Prop:=∀ b o,H b = some o->H' b = some o
def Same.refl (H:Hp):Same H H:=fun _ _ h=>h
def Same.trans {H H1 H2:Hp} (a:Same H H1) (b:Same H1 H2):Same H H2:=fun c o h=>b c o (a c o h)
def Same.free {H H':Hp} (e:Same H H') {l:Addr} (h:H' l = Option.none):H l = Option.none:=by
 cases q:H l with
 | none=>rfl
 | some o=>
  rw [e l o q] at h
  cases h
def Same.seq {K:oS} {H H':Hp} {a:Addr} {xs:List V} (e:Same H H') (h:SqL K H a xs):SqL K H' a xs:=by
 rcases h with (h | ⟨o,h⟩) | h
 .exact .inl (.inl (e _ _ h))
 .exact .inl (.inr ⟨o,e _ _ h⟩)
 .exact .inr h
section
variable {κ:Type} [DecidableEq κ]
def valV (kvs:List (κ × V)) (k:κ):Option V:=(kvs.find? fun kv=>decide (kv.1 = k)).map (·.2)
def putK (kvs:List (κ × V)) (k:κ) (v:V):List (κ × V):=
 if (kvs.any fun kv=>decide (kv.1 = k)) = true then kvs.map (fun kv=>if kv.1 = k then (kv.1,v) else kv) else kvs ++ [(k,v)]
def zen {p:κ × V} {r:List (κ × V)} {k:κ} (e:p.1 = k):valV (p :: r) k = some p.2:=by simp [valV,YBw,e]
def zej {p:κ × V} {r:List (κ × V)} {k:κ} (e:¬ p.1 = k):valV (p :: r) k = valV r k:=by simp [valV,YBw,e]
theorem zdp (k:κ):∀ kvs:List (κ × V),(kvs.any fun kv=>decide (kv.1 = k)) = (valV kvs k).isSome
 | []=>rfl
 | p :: r=>by
  rw [YB5]
  by_cases e:p.1 = k
  .simp only [zen e,YAS e,Bool.true_or,Option.isSome_some]
  .rw [zej e,YAY e,Bool.false_or];exact zdp k r
def zc3 (kvs:List (κ × V)) (k:κ) (v:V):(putK kvs k v).length <= kvs.length + 1:=by
 unfold putK
 split
 .rw [YAc];omega
 .rw [YAw,YA2,YC9];omega
def zhZ {kvs:List (κ × V)} {k:κ} (v:V) (h:valV kvs k = none):putK kvs k v = kvs ++ [(k,v)]:=by
 unfold putK
 rw [zdp,h]
 exact if_neg (by decide)
def RelO.isSome_eq  (r:RelO o u):o.isSome = u.isSome:=by
 cases o with
 | none=>cases u with
  | none=>rfl
  | some _=>exact (show False from r).elim
 | some _=>cases u with
  | none=>exact (show False from r).elim
  | some _=>rfl
theorem RelO.getD   (r:RelO o u) (rd:RelV d d'):RelV (o.getD d) (u.getD d'):=by
 cases o with
 | none=>cases u with
  | none=>exact rd
  | some _=>exact (show False from r).elim
 | some _=>cases u with
  | none=>exact (show False from r).elim
  | some _=>exact r
def KV.val {kvs:List (κ × V)} {vs:List (κ × Value)} (r:KV kvs vs) (k:κ):RelO (valV kvs k) (valueAt vs k):=by
 unfold KV at r
 induction r with
 | nil=>exact True.intro
 | @cons p q ps qs h t ih=>
  obtain ⟨h1,h2⟩:=h
  by_cases e:p.1 = k
  .have e':q.1 = k:=h1.symm.trans e
   have b:valueAt (q :: qs) k = some q.2:=by simp [valueAt,YBw,e']
   rw [zen e,b];exact h2
  .have e':¬ q.1 = k:=fun z=>e (h1.trans z)
   have b:valueAt (q :: qs) k = valueAt qs k:=by simp [valueAt,YBw,e']
   rw [zej e,b];exact ih
theorem KV.any  (r:KV kvs vs) (k:κ):(kvs.any fun kv=>decide (kv.1 = k)) = vs.any fun kv=>decide (kv.1 = k):=by
 unfold KV at r
 induction r with
 | nil=>rfl
 | cons h t ih=>rw [YB5,YB5,ih,h.1]
def KV.repl  (r:KV kvs vs) (k:κ)  (ry:RelV y u) :
  KV (kvs.map fun kv=>if kv.1 = k then (kv.1,y) else kv) (vs.map fun kv=>if kv.1 = k then (kv.1,u) else kv):=by
 unfold KV at r ⊢
 induction r with
 | nil=>exact .nil
 | @cons p q ps qs h t ih=>
  rw [YAf,YAf]
  refine .cons ?_ ih
  obtain ⟨h1,h2⟩:=h
  by_cases e:p.1 = k
  .rw [if_pos e,if_pos (h1.symm.trans e)];exact ⟨h1,ry⟩
  .rw [if_neg e,if_neg (fun z=>e (h1.trans z))];exact ⟨h1,h2⟩
def KV.put  (r:KV kvs vs) (k:κ)  (ry:RelV y u):KV (putK kvs k y) (stored vs k u):=by
 unfold putK stored
 rw [r.any k]
 by_cases e:(vs.any fun kv=>decide (kv.1 = k)) = true
 .rw [if_pos e,if_pos e];exact r.repl k ry
 .rw [if_neg e,if_neg e];exact Paired.snoc r ⟨rfl,ry⟩
theorem KV.length  (r:KV kvs vs):kvs.length = vs.length:=Paired.length r
end
def zhg   (r:RelV (kV k) u):(zax P w).is k u = true:=by
 cases k with
 | inl i=>obtain ⟨t,e⟩:=(show ∃ t,u = Value.int i t from r);subst e;exact zhp P w i t
 | inr x=>obtain ⟨t,e⟩:=(show ∃ t,u = Value.str x t from r);subst e;exact zhz P w x t
theorem zgB  : ∀ {ks:List Key} {us:List Value},Vals (ks.map kV) us->ItemsAre (zax P w) ks us
 | [],_,r=>by rw [YDj] at r;cases r;exact .nil
 | k :: ks,_,r=>by
  rw [YAf] at r
  cases r with
  | cons h t=>exact .cons (zhg h) (zgB t)
abbrev KT (H:Hp):List (List Key × V)->List (List Key × Addr × Value)->Prop:=Paired fun p q=>p.1 = q.1/\H q.2.1 = some (.tup (p.1.map kV))/\RelV p.2 q.2.2
def KT.val {H:Hp} {kvs:List (List Key × V)} {xs:List (List Key × Addr × Value)} (r:KT H kvs xs) (k:List Key):RelO (valV kvs k) ((atKey xs k).map (·.2)):=by
 induction r with
 | nil=>exact True.intro
 | @cons p q ps qs h t ih=>
  obtain ⟨h1,_,h2⟩:=h
  by_cases e:p.1 = k
  .have e':q.1 = k:=h1.symm.trans e
   have b:atKey (q :: qs) k = some q.2:=by simp [atKey,YBw,e']
   rw [zen e,b];exact h2
  .have e':¬ q.1 = k:=fun z=>e (h1.trans z)
   have b:atKey (q :: qs) k = atKey qs k:=by simp [atKey,YBw,e']
   rw [zej e,b];exact ih
def KT.repl  (r:KT H kvs xs) (k:List Key)  (ry:RelV y u) :
  KT H (kvs.map fun kv=>if kv.1 = k then (kv.1,y) else kv) (xs.map (putAt k u)):=by
 induction r with
 | nil=>exact .nil
 | @cons p q ps qs h t ih=>
  rw [YAf,YAf]
  refine .cons ?_ ih
  obtain ⟨h1,h2,h3⟩:=h
  unfold putAt
  by_cases e:p.1 = k
  .rw [if_pos e,if_pos (h1.symm.trans e)];exact ⟨h1,h2,ry⟩
  .rw [if_neg e,if_neg (fun z=>e (h1.trans z))];exact ⟨h1,h2,h3⟩
def KT.put  (r:KT H kvs xs) (k:List Key)  (hb:H b = some (.tup (k.map kV))) (ry:RelV y u) :
  KT H (putK kvs k y) (storedH xs k b u):=by
 have e:(kvs.any fun kv=>decide (kv.1 = k)) = (atKey xs k).isSome:=by
  rw [zdp,(r.val k).isSome_eq,YDt]
 unfold putK storedH
 rw [e]
 by_cases q:(atKey xs k).isSome = true
 .rw [if_pos q,if_pos q];exact r.repl k ry
 .rw [if_neg q,if_neg q];exact Paired.snoc r ⟨rfl,hb,ry⟩
def KT.keeps  (r:KT H kvs xs) (ht:∀ b ys,H b = some (.tup ys)->H' b = some (.tup ys)):KT H' kvs xs:=
 Paired.mapP r fun _ _ z=>⟨z.1,ht _ _ z.2.1,z.2.2⟩
section
variable {P:Program} {w:World} {H:Hp} {h:Heap} {a:Addr}
def zoT (ok:HOk P w H h) (e:Rd H a u):ObjOk P w H h a u:=e.ok ok
def zhj (ok:HOk P w H h) (e:Rd H a (.dK kvs)):kvs.length <= sizeLine/\(a == sysModules) = false/\∃ vs,KV kvs vs/\h.DictOf (zax P w) a vs:=
 show ObjOk P w H h a (.dK kvs) from zoT ok e
def ziH (ok:HOk P w H h) (e:H a = some (.dK kvs)):kvs.length <= sizeLine/\(a == sysModules) = false/\∃ vs,KV kvs vs/\h.DictOf (zax P w) a vs:=zhj ok (.inl e)
def zfi (ok:HOk P w H h) (e:H a = some (.tup (ks.map kV))):(tupleKind (zax P w)).is h ks a:=by
 obtain ⟨_,its,r,o,h1,h2,n,h3⟩:=(show ObjOk P w H h a (.tup (ks.map kV)) from ok a _ e)
 exact ⟨o,its.toArray,n,h1,h2,h3,by simpa using zgB r⟩
def zhG (ok:HOk P w H h) (e:Rd H a (.dT kvs)):kvs.length <= sizeLine/\(a == sysModules) = false /\
  ∃ xs,KT H kvs xs/\h.DictOfH (tupleKind (zax P w)) a xs:=by
 obtain ⟨z,y,xs,r,o,es,ep,h1,h2,h3,h4,h5⟩:=(show ObjOk P w H h a (.dT kvs) from zoT ok e)
 refine ⟨z,y,xs,r,o,es,ep,h1,h2,h3,h4,fun x hx=>?_,h5⟩
 have all:∀ {l:List (List Key × V)} {m:List (List Key × Addr × Value)},KT H l m->∀ x ∈ m,(tupleKind (zax P w)).is h x.1 x.2.1:=by
  intro l m q
  induction q with
  | nil=>intro x hx;exact nomatch hx
  | @cons p q ps qs hq t ih=>
   intro x hx
   rcases YAs.mp hx with e | hx
   .subst e
    exact zfi ok (by rw [<- hq.1];exact hq.2.1)
   .exact ih x hx
 exact all r x hx
def zpC (ok:HOk P w H h) (e:H a = some (.dT kvs)):kvs.length <= sizeLine/\(a == sysModules) = false /\
  ∃ xs,KT H kvs xs/\h.DictOfH (tupleKind (zax P w)) a xs:=zhG ok (.inl e)
end
def DGet (H:Hp) (a:Addr) (y:V) (r:Option V):Prop:=
 (∃ kvs k,Rd H a (.dK kvs)/\y = kV k/\r = valV kvs k)\/∃ kvs k b,Rd H a (.dT kvs)/\y = .ref b/\H b = some (.tup (k.map kV))/\r = valV kvs k
def DPut (H:Hp) (a:Addr) (y v:V) (H':Hp):Prop:=
 (∃ kvs k,H a = some (.dK kvs)/\y = kV k/\kvs.length < sizeLine/\H' = upd H a (.dK (putK kvs k v))) \/
 ∃ kvs k b,H a = some (.dT kvs)/\y = .ref b/\H b = some (.tup (k.map kV))/\kvs.length < sizeLine/\H' = upd H a (.dT (putK kvs k v))
theorem DGet.k {H:Hp} {a:Addr} {kvs:List (Key × V)} {k:Key} (e:H a = some (.dK kvs)):DGet H a (kV k) (valV kvs k):=.inl ⟨kvs,k,.inl e,rfl,rfl⟩
def DGet.t {H:Hp} {a b:Addr} {kvs:List (List Key × V)} {k:List Key} (e:H a = some (.dT kvs)) (eb:H b = some (.tup (k.map kV))):DGet H a (.ref b) (valV kvs k):=.inr ⟨kvs,k,b,.inl e,rfl,eb,rfl⟩
theorem DPut.k {H:Hp} {a:Addr} {kvs:List (Key × V)} {k:Key} {v:V} (e:H a = some (.dK kvs)) (hl:kvs.length < sizeLine):DPut H a (kV k) v (upd H a (.dK (putK kvs k v))):=.inl ⟨kvs,k,e,rfl,hl,rfl⟩
def DPut.t {H:Hp} {a b:Addr} {kvs:List (List Key × V)} {k:List Key} {v:V} (e:H a = some (.dT kvs)) (eb:H b = some (.tup (k.map kV))) (hl:kvs.length < sizeLine) :
  DPut H a (.ref b) v (upd H a (.dT (putK kvs k v))):=.inr ⟨kvs,k,b,e,rfl,eb,hl,rfl⟩
section
variable {X:Cx} {O:List (Addr × Obj)} {Y:St} {H:Hp} {s:Shared} {a:Addr} {y v:V} {u r:Value} {o:Option V} {A:Around} {E:Value->Shared->Prop}
def Inv.big (I:Inv X O Y H s):sysModules < s.heap.objs.size:=by
 have h:mainGlobals < s.heap.objs.size:=(I.mod.glob.keeps I.bk).lt
 exact Nat.lt_trans (by decide) h
def zkq (hu:A.units + 1 < cLine) (I:Inv X O Y H s) (g:DGet H a y (some v)) (ry:RelV y u) (h:∀ w' s',Inv X O Y H s'->RelV v w'->Q w' s') :
  wpAny (model X.prog X.w) A (getItem (.ref a) u) Q E s:=by
 rcases g with ⟨kvs,k,e,ey,l⟩ | ⟨kvs,k,b,e,ey,eb,l⟩
 .subst ey
  obtain ⟨z,hd,vs,rel,dd⟩:=zhj I.hok e
  obtain ⟨w',hw,rw'⟩:=RelO.some_of (v:=v) (o:=valueAt vs k) (by rw [l];exact rel.val k)
  exact wpAny_getItem_of (zhg ry) dd.mapOf hw (h w' _ (I.tok _) rw')
 .subst ey
  cases (show u = Value.ref b from ry)
  obtain ⟨z,hd,xs,rel,dd⟩:=zhG I.hok e
  obtain ⟨w',hw,rw'⟩:=RelO.some_of (v:=v) (o:=(atKey xs k).map (·.2)) (by rw [l];exact rel.val k)
  obtain ⟨p,hp,hp2⟩:=Option.map_eq_some_iff.mp hw
  refine wpAny_getItem_heap (YCu hu) (zfi I.hok eb) dd hp ?_
  rw [hp2]
  exact h w' _ (I.tok _) rw'
def d_in (hu:A.units + 1 < cLine) (I:Inv X O Y H s) (g:DGet H a y o) (ry:RelV y u) (h:∀ s',Inv X O Y H s'->Q (.bool o.isSome) s') :
  wpAny (model X.prog X.w) A (compareOp .In u (.ref a)) Q E s:=by
 rcases g with ⟨kvs,k,e,ey,l⟩ | ⟨kvs,k,b,e,ey,eb,l⟩
 .subst ey
  obtain ⟨z,hd,vs,rel,dd⟩:=zhj I.hok e
  refine wpAny_in_of (zhg ry) hd dd.mapOf ?_
  rw [<- (rel.val k).isSome_eq,<- l]
  exact h _ (I.tok _)
 .subst ey
  cases (show u = Value.ref b from ry)
  obtain ⟨z,hd,xs,rel,dd⟩:=zhG I.hok e
  refine wpAny_in_heap (YCu hu) (zfi I.hok eb) hd dd ?_
  have q:=(rel.val k).isSome_eq
  rw [YDt] at q
  rw [<- q,<- l]
  exact h _ (I.tok _)
def zmF (hu:A.units + 1 < cLine) (I:Inv X O Y H s) (g:DGet H a y o) (ry:RelV y u) (h:∀ s',Inv X O Y H s'->Q (.bool (!o.isSome)) s') :
  wpAny (model X.prog X.w) A (compareOp .NotIn u (.ref a)) Q E s:=by
 rcases g with ⟨kvs,k,e,ey,l⟩ | ⟨kvs,k,b,e,ey,eb,l⟩
 .subst ey
  obtain ⟨z,hd,vs,rel,dd⟩:=zhj I.hok e
  refine wpAny_notIn_of (zhg ry) hd dd.mapOf ?_
  rw [<- (rel.val k).isSome_eq,<- l]
  exact h _ (I.tok _)
 .subst ey
  cases (show u = Value.ref b from ry)
  obtain ⟨z,hd,xs,rel,dd⟩:=zhG I.hok e
  refine wpAny_notIn_heap (YCu hu) (zfi I.hok eb) hd dd ?_
  have q:=(rel.val k).isSome_eq
  rw [YDt] at q
  rw [<- q,<- l]
  exact h _ (I.tok _)
def zfI  (I:Inv X O Y H s) (mu:Mut (H a)) (hs:Heap.SameBut a s.heap h') (he:∃ q,h'.get? a = some q) (new:ObjOk X.prog X.w (upd H a ob) h' a ob) :
  Inv X O Y (upd H a ob) { s with heap:=h',toks:=t' }:=
 I.write (x:=a) (e:=a) mu (.inl rfl) (fun b q hb z=>(hs.2 b hb).trans z) he new
def zma    (z:kvs.length <= sizeLine) (hd:(a == sysModules) = false) (rel:KV kvs vs) (dd:h'.DictOf (zax P w) a vs) :
  ObjOk P w H' h' a (.dK kvs):=⟨z,hd,vs,rel,dd⟩
def zkw  (hu:A.units + 1 < cLine) (I:Inv X O Y H s) (g:DPut H a y v H') (ry:RelV y u) (rv:RelV v r) (h:∀ s',Inv X O Y H' s'->Q () s') :
  wpAny (model X.prog X.w) A (setItem (.ref a) u r) Q E s:=by
 rcases g with ⟨kvs,k,e,ey,l,eH⟩ | ⟨kvs,k,b,e,ey,eb,l,eH⟩
 .subst ey eH
  obtain ⟨z,hd,vs,rel,dd⟩:=ziH I.hok e
  have hz:vs.length <= sizeLine:=by rw [<- rel.length];exact z
  have hl:(putK kvs k v).length <= sizeLine:=by have:=zc3 kvs k v;omega
  refine wpAny_setItem_pairs (hsz:=hz) (zhg ry) dd fun h' dd' hs=>h _ ?_
  have he:∃ q,h'.get? a = some q:=let ⟨q,_,_,hq,_⟩:=dd';⟨q,hq⟩
  exact zfI I (by rw [e];exact True.intro) hs he (zma hl hd (rel.put k rv) dd')
 .subst ey eH
  cases (show u = Value.ref b from ry)
  obtain ⟨z,hd,xs,rel,dd⟩:=zpC I.hok e
  have hz:xs.length <= sizeLine:=by rw [<- Paired.length rel];exact z
  have hl:(putK kvs k v).length <= sizeLine:=by have:=zc3 kvs k v;omega
  refine wpAny_setItem_heap (hsz:=hz) (YCu hu) (zfi I.hok eb) dd fun h' dd' hs=>h _ ?_
  obtain ⟨q,es,ep,hq,h2,h3,h4,_,h5⟩:=dd'
  refine zfI I (by rw [e];exact True.intro) hs ⟨q,hq⟩ ⟨hl,hd,_,(rel.put k eb rv).keeps fun c ys ec=>?_,q,es,ep,hq,h2,h3,h4,h5⟩
  rw [zae (zpS ec e (fun z=>nomatch z))]
  exact ec
end
section
variable {X:Cx} {O:List (Addr × Obj)} {Y:St} {H:Hp} {s:Shared} {a:Addr} {kvs:List (Key × V)} {k:Key} {u:Value} {A:Around} {E:Value->Shared->Prop}
end
def NoSl (i:Expr):Prop:=∀ ov iv,subscripted i false ov iv = operate [ov,iv] (getItem ov iv)
def zmI {prog:Program} {w:World} {A:Around} {E:Value->Shared->Prop} {s:Shared} {env:Env} {value slice:Expr} {pos:Pos} {T id:String} {Q:Value->Shared->Prop}
  (hl:typeLookup (.type T) "__getitem__" = pure (some (.builtin id))) (hs:NoSl slice)
  (h:wpAny (model prog w) A (eval value env) (fun o s₁=>wpAny (model prog w) A (eval slice env) (fun i s₂=>s₂.TypeIs o T/\wpAny (model prog w) A (getItem o i) Q E s₂) E s₁) E s) :
  wpAny (model prog w) A (eval (.Subscript value slice pos) env) Q E s:=by
 refine Subscript_ (YA5 h (fun o s₁ h₁=>YA5 h₁ (fun i s₂ h₂=>?_) fun _ _ x=>x) fun _ _ x=>x)
 obtain ⟨hT,h₂⟩:=h₂
 unfold subscriptTail
 refine YAa ?_
 rw [getitemInPython_of_ne hT.not_modules]
 refine YAa (YBx hT hl ?_)
 have fin:wpAny (model prog w) A (subscripted slice false o i) (fun r s₃=>wpAny (model prog w) A (letTemporaryGo value o r >>= fun _=>pure r) Q E s₃) E s₂:=by
  rw [hs o i]
  exact wpAny_operating (YA5 h₂ (fun r s₃ h₃=>YAa (wpAny_letTemporaryGo (YAb h₃))) fun _ _ x=>x)
 first
  | exact YAb (YAa fin)
  | exact YAa (YAb (YAa fin))
  | exact YAa fin
def zhE     (I:Inv X O Y H s) (g:DGet H a y o):s.TypeIs (.ref a) "dict" := by
 rcases g with ⟨kvs,k,e,_,_⟩ | ⟨kvs,k,b,e,_,_,_⟩
 .obtain ⟨_,_,vs,_,dd⟩:=zhj I.hok e
  exact dd.typeIs
 .obtain ⟨_,_,xs,_,dd⟩:=zhG I.hok e
  exact dd.typeIs
def zoQ (td ty:TE):TE:=fun Y H Q=>td Y H fun x H1=>ty Y H1 fun y H2=>∃ a v,x = .ref a/\DGet H2 a y (some v)/\Q v H2
def tDIn (ty td:TE):TE:=fun Y H Q=>ty Y H fun y H1=>td Y H1 fun x H2=>∃ a o,x = .ref a/\DGet H2 a y o/\Q (.bl o.isSome) H2
def zne (ty td:TE):TE:=fun Y H Q=>ty Y H fun y H1=>td Y H1 fun x H2=>∃ a o,x = .ref a/\DGet H2 a y o/\Q (.bl (!o.isSome)) H2
def zpz (td ty tv:TE):TS:=fun D Y H=>tv Y H fun v H1=>td Y H1 fun x H2=>ty Y H2 fun y H3=>∃ a H4,x = .ref a/\DPut H3 a y v H4/\D.nx Y H4
section
variable {X:Cx} {o i e value:Expr} {pos pos' tpos:Pos} {td ty tv:TE}
def zew (hu:X.A.units + 1 < cLine) (ho:PE X o td) (hi:PE X i ty) (hs:NoSl i):PE X (.Subscript o i pos) (zoQ td ty):=by
 intro O s Y H Q I h
 refine zmI PySem.F.slot_dict_getitem.lookup hs (thn (ho O s Y H _ I h) fun u s1 ⟨x,H1,I1,rx,q1⟩=>thn (hi O s1 Y H1 _ I1 q1) fun iv s2 ⟨y,H2,I2,ry,a,v,ex,g,q2⟩=>?_)
 subst ex
 obtain rfl:u = Value.ref a:=rx
 exact ⟨zhE I2 g,zkq hu I2 g ry fun w' s3 I3 rw'=>⟨v,H2,I3,rw',q2⟩⟩
def zo9 (hu:X.A.units + 1 < cLine) (hi:PE X i ty) (ho:PE X o td):PC X .In i o (tDIn ty td):=by
 intro O s Y H Q I h
 refine thn (hi O s Y H _ I h) fun iv s1 ⟨y,H1,I1,ry,q1⟩=>thn (ho O s1 Y H1 _ I1 q1) fun u s2 ⟨x,H2,I2,rx,a,ov,ex,g,q2⟩=>?_
 subst ex
 obtain rfl:u = Value.ref a:=rx
 exact d_in hu I2 g ry fun s3 I3=>⟨.bl ov.isSome,H2,I3,rfl,q2⟩
def zer (hu:X.A.units + 1 < cLine) (hi:PE X i ty) (ho:PE X o td):PC X .NotIn i o (zne ty td):=by
 intro O s Y H Q I h
 refine thn (hi O s Y H _ I h) fun iv s1 ⟨y,H1,I1,ry,q1⟩=>thn (ho O s1 Y H1 _ I1 q1) fun u s2 ⟨x,H2,I2,rx,a,ov,ex,g,q2⟩=>?_
 subst ex
 obtain rfl:u = Value.ref a:=rx
 exact zmF hu I2 g ry fun s3 I3=>⟨.bl (!ov.isSome),H2,I3,rfl,q2⟩
def zjZ (hu:X.A.units + 1 < cLine) (ho:PE X o td) (hi:PE X i ty) (hv:PE X value tv) (hs:swapsWith value (some (.Subscript o i pos')) pos.line X.env = pure false) :
  PS X (.Assign [.Subscript o i pos'] value pos) (zpz td ty tv):=by
 intro O s Y H D I h
 refine wpAny_Assign_Subscript (thn (hv O s Y H _ I h) fun r s1 ⟨v,H1,I1,rv,q1⟩=>thn (ho O s1 Y H1 _ I1 q1) fun u s2 ⟨x,H2,I2,rx,q2⟩=>thn (hi O s2 Y H2 _ I2 q2) fun iv s3 ⟨y,H3,I3,ry,a,H4,ex,g,q3⟩=>?_) hs
 subst ex
 obtain rfl:u = Value.ref a:=rx
 exact zkw hu I3 g ry rv fun s4 I4=>⟨Y,H4,I4,q3⟩
end
def zil  (h:Heap) (hb:sysModules < h.objs.size):ObjOk P w H (h.push { cls:=.type "dict",data:=.dict #[] }) h.objs.size (.dK []):=
 ⟨YAD _,YCm.mpr (Ne.symm (YAt hb)),[],.nil,Heap.DictOf.new h⟩
def zlS  (h:Heap) (hb:sysModules < h.objs.size):ObjOk P w H (h.push { cls:=.type "dict",data:=.dict #[] }) h.objs.size (.dT []):=
 ⟨YAD _,YCm.mpr (Ne.symm (YAt hb)),[],.nil,_,#[],0,YAo _ rfl,⟨rfl,rfl,rfl⟩,rfl,rfl,YCb⟩
def zoO:TE:=fun _ H Q=>∀ p,H p = none->Q (.ref p) (upd H p (.dK []))
def zn8:TE:=fun _ H Q=>∀ p,H p = none->Q (.ref p) (upd H p (.dT []))
section
variable {X:Cx} {pos:Pos}
def ziw:PE X (.Dict [] [] pos) zoO:=fun O s Y H Q I h=>
 YDG ⟨.ref s.heap.objs.size,_,I.laid (a:=s.heap.objs.size) (o:=.dK []) (t':=s.toks) (fun _ _ q=>YAe _ q) (YAl _) (zil s.heap I.big),rfl,h _ (I.hok.fresh (YAl _))⟩
def zk4:PE X (.Dict [] [] pos) zn8:=fun O s Y H Q I h=>
 YDG ⟨.ref s.heap.objs.size,_,I.laid (a:=s.heap.objs.size) (o:=.dT []) (t':=s.toks) (fun _ _ q=>YAe _ q) (YAl _) (zlS s.heap I.big),rfl,h _ (I.hok.fresh (YAl _))⟩
end
def zjo:List (TE × TE)->St->Hp->(List (V × V)->Hp->Prop)->Prop
 | [],_,H,Q=>Q [] H
 | (tk,tv) :: r,Y,H,Q=>tk Y H fun x H1=>tv Y H1 fun y H2=>zjo r Y H2 fun ps H3=>Q ((x,y) :: ps) H3
abbrev VV:List (V × V)->List (Value × Value)->Prop:=Paired fun p q=>RelV p.1 q.1/\RelV p.2 q.2
noncomputable def PPs (X:Cx) (pos:Pos) (keys:List (Option Expr)) (values:List Expr) (trs:List (TE × TE)):Prop:=
 ∀ (O:List (Addr × Obj)) (s:Shared) (Y:St) (H:Hp) (Q:List (V × V)->Hp->Prop),Inv X O Y H s->zjo trs Y H Q ->
  wpAny (model X.prog X.w) X.A (evalPairs (pairTrees keys values X.env pos)) (fun vs s'=>∃ ps H',Inv X O Y H' s'/\VV ps vs/\Q ps H') X.xe s
def zny  : PPs X pos [] [] []:=fun O s Y H Q I h=>pairTrees_nil_walk ⟨[],H,I,.nil,h⟩
def zkW    (hk:PE X k tk) (hv:PE X v tv) (hr:PPs X pos ks vs trs) :
  PPs X pos (some k :: ks) (v :: vs) ((tk,tv) :: trs):=fun O s Y H Q I h=>
 pairTrees_cons_walk (thn (hk O s Y H _ I h) fun u s1 ⟨x,H1,I1,rx,q1⟩=>thn (hv O s1 Y H1 _ I1 q1) fun w2 s2 ⟨y,H2,I2,ry,q2⟩=>
  thn (hr O s2 Y H2 _ I2 q2) fun ws s3 ⟨ps,H3,I3,rel,q3⟩=>⟨(x,y) :: ps,H3,I3,.cons ⟨rx,ry⟩ rel,q3⟩)
def mergeK (kvs more:List (Key × V)):List (Key × V):=more.foldl (fun acc kv=>putK acc kv.1 kv.2) kvs
def KV.merge:∀ {more:List (Key × V)} {rs:List (Key × Value)} {kvs:List (Key × V)} {vs:List (Key × Value)},KV more rs->KV kvs vs->KV (mergeK kvs more) (merged vs rs):=by
 intro more rs kvs vs r
 unfold KV at r
 induction r generalizing kvs vs with
 | nil=>intro q;exact q
 | @cons p q ps qs h t ih=>
  intro r0
  have e:KV (putK kvs p.1 p.2) (stored vs q.1 q.2):=by
   have:=r0.put p.1 h.2
   rw [<- h.1];exact this
  exact ih e
theorem zcj:∀ (more kvs:List (Key × V)),(mergeK kvs more).length <= kvs.length + more.length
 | [],kvs=>by show kvs.length <= kvs.length + 0;omega
 | p :: r,kvs=>by
  have h1:=zcj r (putK kvs p.1 p.2)
  have h2:=zc3 kvs p.1 p.2
  show (mergeK (putK kvs p.1 p.2) r).length <= _
  rw [YA2];omega
theorem zfm  : ∀ {kvs:List (Key × V)} {ws:List (Value × Value)},VV (kvs.map fun kv=>(kV kv.1,kv.2)) ws->∃ rs,Carries (zax P w) ws rs/\KV kvs rs
 | [],_,r=>by rw [YDj] at r;cases r;exact ⟨[],True.intro,.nil⟩
 | p :: kvs,_,r=>by
  rw [YAf] at r
  cases r with
  | @cons a b as bs h t=>
   obtain ⟨rs,c,q⟩:=zfm (P:=P) (w:=w) t
   obtain ⟨b1,b2⟩:=b
   exact ⟨(p.1,b2) :: rs,⟨zhg h.1,rfl,c⟩,.cons ⟨rfl,h.2⟩ q⟩
def zpy (trs:List (TE × TE)):TE:=fun Y H Q=>∀ p,H p = none->zjo trs Y (upd H p (.dK [])) fun ps H2=>H2 p = some (.dK [])/\∃ kvs:List (Key × V),ps = kvs.map (fun kv=>(kV kv.1,kv.2))/\kvs.length <= 15/\Q (.ref p) (upd H2 p (.dK (mergeK [] kvs)))
def znh   (h:PPs X pos keys values trs) (hall:keys.all (·.isSome) = true) (hl:keys.length = values.length) (h0:keys ≠ [])
  (h15:keys.length <= 15):PE X (.Dict keys values pos) (zpy trs):=by
 intro O s Y H Q I q
 have hn:=I.hok.fresh (YAl s.heap.objs.size)
 have I1:=I.laid (a:=s.heap.objs.size) (o:=.dK []) (h':=s.heap.push { cls:=.type "dict",data:=.dict #[] }) (t':=s.toks) (fun _ _ q=>YAe _ q) (YAl _) (zil s.heap I.big)
 refine wpAny_Dict_walk (knd:=zax X.prog X.w) hall hl h0 h15 (thn (h O _ Y _ _ I1 (q _ hn)) fun ws s2 ⟨ps,H2,I2,rel,e,kvs,ep,lk,q2⟩=>?_)
 subst ep
 obtain ⟨rs,c,rk⟩:=zfm (P:=X.prog) (w:=X.w) rel
 obtain ⟨z,hd,vs0,r0,dd⟩:=ziH I2.hok e
 cases r0
 refine ⟨rs,c,dd,fun h' dd' hs=>⟨.ref s.heap.objs.size,_,?_,rfl,q2⟩⟩
 have hz:(mergeK [] kvs).length <= sizeLine:=by
  have h1:=zcj kvs []
  rw [YC9] at h1
  rw [YAL];omega
 have he:∃ q,h'.get? s.heap.objs.size = some q:=let ⟨q,_,_,hq,_⟩:=dd';⟨q,hq⟩
 exact zfI I2 (by rw [e];exact True.intro) hs he (zma hz hd (rk.merge .nil) dd')
structure M1 (X:Cx) (o:Expr) (m:Str) (apos:Pos) (e:Expr) (cpos:Pos):Prop where
 base:attributeBase o m X.env (eval o X.env) = eval o X.env
 few:((backTo cpos (starEach [e] X.env)).all (fun x=>!x.1) && (backToKw cpos (keywordEach [] X.env)).all (fun x=>x.1.isSome)
  && decide (([e]:List Expr).length + ([]:List Keyword).length + (if ([]:List Keyword).isEmpty then 0 else 1) < 30)) = true
 line:(apos.endLine == cpos.line) = true
 trees:backTo cpos (starEach [e] X.env) = [(false,eval e X.env)]
structure M2 (X:Cx) (o:Expr) (m:Str) (apos:Pos) (e f:Expr) (cpos:Pos):Prop where
 base:attributeBase o m X.env (eval o X.env) = eval o X.env
 few:((backTo cpos (starEach [e,f] X.env)).all (fun x=>!x.1) && (backToKw cpos (keywordEach [] X.env)).all (fun x=>x.1.isSome)
  && decide (([e,f]:List Expr).length + ([]:List Keyword).length + (if ([]:List Keyword).isEmpty then 0 else 1) < 30)) = true
 line:(apos.endLine == cpos.line) = true
 trees:backTo cpos (starEach [e,f] X.env) = [(false,eval e X.env),(false,eval f X.env)]
def IsD (H:Hp) (a:Addr):Prop:=(∃ kvs,Rd H a (.dK kvs))\/∃ kvs,Rd H a (.dT kvs)
def zl8    (I:Inv X O Y H s) (d:IsD H a) :
  s.TypeIs (.ref a) "dict" /\ (∀ b,Value.ref a = .ref b->∃ ob,s.heap.get? b = some ob/\ob.dict = none)/\(a == sysModules) = false:=by
 rcases d with ⟨kvs,e⟩ | ⟨kvs,e⟩
 .obtain ⟨_,hd,vs,_,dd⟩:=zhj I.hok e
  refine ⟨dd.typeIs,fun b q=>?_,hd⟩
  cases q
  obtain ⟨ob,_,_,h1,h2,_⟩:=dd
  exact ⟨ob,h1,h2.2.1⟩
 .obtain ⟨_,hd,xs,_,dd⟩:=zhG I.hok e
  refine ⟨dd.typeIs,fun b q=>?_,hd⟩
  cases q
  obtain ⟨ob,_,_,h1,h2,_⟩:=dd
  exact ⟨ob,h1,h2.2.1⟩
section
variable {X:Cx} {O:List (Addr × Obj)} {Y:St} {H:Hp} {s:Shared} {a:Addr} {y d:V} {u r:Value} {o:Option V} {A:Around} {E:Value->Shared->Prop}
def zo1 (hu:A.units + 1 < cLine) (I:Inv X O Y H s) (g:DGet H a y o) (ry:RelV y u) (rd:RelV d r) (h:∀ w' s',Inv X O Y H s'->RelV (o.getD d) w'->Q w' s') :
  wpAny (model X.prog X.w) A (call (.builtin "dict.get") [.ref a,u,r]) Q E s:=by
 rcases g with ⟨kvs,k,e,ey,l⟩ | ⟨kvs,k,b,e,ey,eb,l⟩
 .subst ey
  obtain ⟨z,hd,vs,rel,dd⟩:=zhj I.hok e
  refine call_meetsIn YCT dd.typeIs PySem.F.entry_dict_get (PySem.F.args_dict_get_3 _ _ _) (meets_dict_get_default (zax X.prog X.w) a (zhg ry) hd r) ⟨_,dd.mapOf,h _ _ (I.tok _) ?_⟩
  rw [l]
  exact (rel.val k).getD rd
 .subst ey
  cases (show u = Value.ref b from ry)
  obtain ⟨z,hd,xs,rel,dd⟩:=zhG I.hok e
  refine call_meetsIn YCT dd.typeIs PySem.F.entry_dict_get (PySem.F.args_dict_get_3 _ _ _) (meetsH_dict_get_default (tupleKind (zax X.prog X.w)) a b hd r) ⟨YCu hu,k,xs,zfi I.hok eb,dd,h _ _ (I.tok _) ?_⟩
  rw [l]
  exact (rel.val k).getD rd
end
def zoP (td ty tx:TE):TE:=fun Y H Q=>td Y H fun x H1=>∃ a,x = .ref a/\IsD H1 a/\ty Y H1 fun y H2=>tx Y H2 fun z H3=>∃ o,DGet H3 a y o/\Q (o.getD z) H3
section
variable {X:Cx} {o e f:Expr} {apos cpos:Pos} {td ty tx:TE}
def zlo (hu:X.A.units + 1 < cLine) (ho:PE X o td) (he:PE X e ty) (hf:PE X f tx) (m:M2 X o "get" apos e f cpos):PE X (.Call (.Attribute o "get" apos) [e,f] [] cpos) (zoP td ty tx):=by
 intro O s Y H Q I h
 refine YDu m.base m.few m.line YBP YCT PySem.F.type_dict_get (thn (ho O s Y H _ I h) fun u s1 ⟨x,H1,I1,rx,a,ex,d,q1⟩=>?_)
 subst ex
 obtain rfl:u = Value.ref a:=rx
 obtain ⟨t1,t2,_⟩:=zl8 I1 d
 refine ⟨t1,t2,?_⟩
 rw [m.trees]
 refine YBZ rfl (YCz (YCH (thn (he O s1 Y H1 _ I1 q1) fun iv s2 ⟨y,H2,I2,ry,q2⟩=>
  YCH (thn (hf O s2 Y H2 _ I2 q2) fun fv s3 ⟨z,H3,I3,rz,ov,g,q3⟩=>YDr ?_))))
 exact zo1 hu I3 g ry rz fun w' s4 I4 rw'=>⟨_,H3,I4,rw',q3⟩
end
section
variable {X:Cx} {O:List (Addr × Obj)} {Y:St} {H:Hp} {s:Shared} {a:Addr} {kvs:List (Key × V)} {A:Around} {E:Value->Shared->Prop}
end
section
variable {X:Cx} {O:List (Addr × Obj)} {Y:St} {H:Hp} {s:Shared} {a:Addr} {y:V} {u:Value} {A:Around} {E:Value->Shared->Prop}
end
section
variable {X:Cx}
end
section
variable {κ:Type} [DecidableEq κ]
def zk3 {kvs:List (κ × V)} {k:κ} (h:valV kvs k = none):¬ k ∈ kvs.map (·.1):=by
 intro m
 obtain ⟨p,hp,e⟩:=YAB.mp m
 have q:(kvs.any fun kv=>decide (kv.1 = k)) = true:=YB2.mpr ⟨p,hp,YAS e⟩
 rw [zdp,h] at q
 exact absurd q (by simp)
def zkd {kvs:List (κ × V)} {k:κ} {v:V} (h:valV kvs k = some v):k ∈ kvs.map (·.1):=by
 have q:(kvs.any fun kv=>decide (kv.1 = k)) = true:=by
  rw [zdp,h]
  all_goals rfl
 obtain ⟨p,hp,e⟩:=YB2.mp q
 exact YAB.mpr ⟨p,hp,YAV e⟩
theorem zgg:∀ {l:List κ} {k:κ},l.Nodup->¬ k ∈ l->(l ++ [k]).Nodup
 | [],k,_,_=>by simp
 | a :: r,k,h,hk=>by
  obtain ⟨h1,h2⟩:=YBb.mp h
  show (a :: (r ++ [k])).Nodup
  refine YBb.mpr ⟨fun m=>?_,zgg h2 fun m=>hk (YAs.mpr (Or.inr m))⟩
  rcases YAm.mp m with q | q
  .exact h1 q
  .exact hk (YAs.mpr (Or.inl (YAg.mp q).symm))
end
end L2
set_option maxHeartbeats 4000000
namespace L2
open PySem PySem.Spec PyProof.Rows
def zoj (Y:St):Option Nat->Option V
 | none=>none
 | some j=>(Y[j]?).join
def zaU (sub:List (Option Nat)) (Y:St):St:=sub.map (zoj Y)
def zdn (sub:List (Option Nat)) (Y:St):(zaU sub Y).length = sub.length:=by unfold zaU;simp
def zcK {sub:List (Option Nat)} {Y:St} {i:Nat} {v:V} (h:(zaU sub Y)[i]? = some (some v)):∃ j,sub[i]? = some (some j)/\Y[j]? = some (some v):=by
 unfold zaU at h
 rw [YAk] at h
 cases e:sub[i]? with
 | none=>rw [e] at h;cases h
 | some o=>
  rw [e] at h
  have h':zoj Y o = some v:=Option.some.inj h
  cases o with
  | none=>cases h'
  | some j=>
   refine ⟨j,rfl,?_⟩
   have h2:(Y[j]?).join = some v:=h'
   cases e2:Y[j]? with
   | none=>rw [e2] at h2;cases h2
   | some w=>rw [e2] at h2;exact congrArg some h2
noncomputable def zez (N:List Str) (osc sc:Scope) (Nc:List Str) (sub:List (Option Nat)):Bool:=
 decide (sc.kind = .function) && sc.names.all (fun y=>decide (y.2 ≠ .cell)) && sc.names.all (fun y=>!decide (y.2 = .local) || decide (sc.names.lookup y.1 = some .local)) && decide (sub.length = Nc.length) &&
 (Nc.zip sub).all (fun p=>match p.2 with | none=>true | some j=>decide (N[j]? = some p.1) && decide (sc.names.lookup p.1 = some .free)) &&
 sc.names.all (fun y=>!decide (y.2 = .free) || (decide (osc.names.lookup y.1 = some .cell) || decide (osc.names.lookup y.1 = some .free)))
structure CompScope (N:List Str) (osc sc:Scope) (Nc:List Str) (sub:List (Option Nat)):Prop where
 kind:sc.kind = .function
 nocell:∀ y ∈ sc.names,y.2 ≠ .cell
 names:∀ y ∈ sc.names,y.2 = .local->sc.names.lookup y.1 = some .local
 len:sub.length = Nc.length
 vis:∀ (i j:Nat) (x:Str),Nc[i]? = some x->sub[i]? = some (some j)->N[j]? = some x/\sc.names.lookup x = some .free
 frees:∀ y ∈ sc.names,y.2 = .free->osc.names.lookup y.1 = some .cell\/osc.names.lookup y.1 = some .free
def CompScope.of {N:List Str} {osc sc:Scope} {Nc:List Str} {sub:List (Option Nat)} (h:zez N osc sc Nc sub = true):CompScope N osc sc Nc sub:=by
 unfold zez at h
 simp only [YAX,YB3,YCj,Bool.or_eq_true,Bool.not_eq_true',decide_eq_false_iff_not] at h
 obtain ⟨⟨⟨⟨⟨h1,h2⟩,h3⟩,h4⟩,h5⟩,h6⟩:=h
 refine ⟨h1,h2,fun y hy e=>(h3 y hy).elim (fun z=>absurd e z) id,h4,fun i j x e1 e2=>?_,fun y hy e=>(h6 y hy).elim (fun z=>absurd e z) id⟩
 have hz:(Nc.zip sub)[i]? = some (x,some j):=by
  rw [List.getElem?_zip_eq_some]
  exact ⟨e1,e2⟩
 have q:=h5 (x,some j) (YAA hz)
 simp only [YAX,YCj] at q
 exact q
def clOf (cells:List (Str × Addr)):List (Str × NameKind)->List (Str × Addr)->List (Str × Addr)
 | [],acc=>acc
 | (n,k) :: r,acc=>clOf cells r (if k = .free then (n,(cells.lookup n).getD 0) :: acc else acc)
def zgh:∀ (names:List (Str × NameKind)) (acc:List (Str × Addr)),(∀ y ∈ names,y.2 = .free->∃ c,env.cells.lookup y.1 = some c) ->
  (forIn names acc fun x r=>match x with | (name,kind)=>if (kind == NameKind.free) = true then do let a <- cellOf env name;pure (ForInStep.yield ((name,a) :: r)) else pure (ForInStep.yield r):Sem (List (Str × Addr))) = pure (clOf env.cells names acc):=by
 intro names
 induction names with
 | nil=>intro acc _;rfl
 | cons y r ih=>
  intro acc h
  obtain ⟨n,k⟩:=y
  have ih':=ih (if k = .free then (n,(env.cells.lookup n).getD 0) :: acc else acc) fun y hy=>h y (YAn _ hy)
  rw [List.forIn_cons]
  by_cases hk:k = .free
  .subst hk
   obtain ⟨c,hc⟩:=h (n,.free) YAi rfl
   have e1:cellOf env n = pure c:=by unfold cellOf;rw [hc]
   simp only [beq_self_eq_true,YDO,e1,pure_bind]
   unfold clOf
   rw [hc] at ih' ⊢
   simpa using ih'
  .have hb:(k == NameKind.free) = false:=by simpa using hk
   simp only [hb,YAK,YBn,pure_bind]
   unfold clOf
   rw [if_neg hk] at ih' ⊢
   exact ih'
def zlv:∀ (names:List (Str × NameKind)) (acc:List (Str × Addr)),(∀ y ∈ names,y.2 = .free->∃ c,cells.lookup y.1 = some c)->(∀ p ∈ acc,cells.lookup p.1 = some p.2) ->
  ∀ p ∈ clOf cells names acc,cells.lookup p.1 = some p.2:=by
 intro names
 induction names with
 | nil=>intro acc _ h;exact h
 | cons y r ih=>
  intro acc h ha
  obtain ⟨n,k⟩:=y
  refine ih _ (fun y hy=>h y (YAn _ hy)) ?_
  by_cases hk:k = .free
  .rw [if_pos hk]
   intro p hp
   rcases YAs.mp hp with e | e
   .subst e
    obtain ⟨c,hc⟩:=h (n,k) YAi hk
    show cells.lookup n = some ((cells.lookup n).getD 0)
    have hc':cells.lookup n = some c:=hc
    rw [hc'];rfl
   .exact ha p e
  .rw [if_neg hk];exact ha
def zjU  : ∀ (names:List (Str × NameKind)) (acc:List (Str × Addr)),p ∈ acc->p ∈ clOf cells names acc:=by
 intro names
 induction names with
 | nil=>intro acc h;exact h
 | cons y r ih=>
  intro acc h
  obtain ⟨n,k⟩:=y
  refine ih _ ?_
  by_cases hk:k = .free
  .rw [if_pos hk];exact YAn _ h
  .rw [if_neg hk];exact h
def zk0  : ∀ (names:List (Str × NameKind)) (acc:List (Str × Addr)),(x,NameKind.free) ∈ names->∃ c,(x,c) ∈ clOf cells names acc:=by
 intro names
 induction names with
 | nil=>intro acc h;cases h
 | cons y r ih=>
  intro acc h
  obtain ⟨n,k⟩:=y
  rcases YAs.mp h with e | e
  .cases e
   refine ⟨(cells.lookup x).getD 0,?_⟩
   unfold clOf
   refine zjU _ _ ?_
   rw [if_pos rfl]
   exact YAi
  .exact ih _ e
theorem zdd {α:Type} {x:Str} {c:α}:∀ {l:List (Str × α)},(x,c) ∈ l->∃ d,l.lookup x = some d
 | [],h=>by cases h
 | (y,d) :: r,h=>by
  by_cases e:x = y
  .subst e;exact ⟨d,by simp [List.lookup]⟩
  .have hb:(x == y) = false:=YCm.mpr e
   rcases YAs.mp h with q | q
   .cases q;exact absurd rfl e
   .obtain ⟨d',q'⟩:=zdd q
    exact ⟨d',by simp only [List.lookup,hb];exact q'⟩
def zbi  (h:∀ y ∈ scope.names,y.2 = .free->∃ c,env.cells.lookup y.1 = some c) :
  ∃ cl,closureFor scope env = pure cl/\(∀ x c,cl.lookup x = some c->env.cells.lookup x = some c)/\∀ x,scope.names.lookup x = some .free->∃ c,cl.lookup x = some c:=by
 refine ⟨clOf env.cells scope.names [],?_,fun x c e=>?_,fun x e=>?_⟩
 .unfold closureFor
  show (forIn scope.names ([]:List (Str × Addr)) (fun x r=>match x with | (name,kind)=>if (kind == NameKind.free) = true then do let a <- cellOf env name;pure (ForInStep.yield ((name,a) :: r)) else pure (ForInStep.yield r)) >>= fun cs=>pure cs:Sem (List (Str × Addr))) = _
  rw [zgh scope.names [] h,pure_bind]
 .exact zlv scope.names [] h (fun p hp=>nomatch hp) (x,c) (YBr e)
 .obtain ⟨c,hc⟩:=zk0 (cells:=env.cells) scope.names [] (YBr e)
  exact zdd hc
theorem zby {env:Env}:∀ {names:List (Str × NameKind)} {x:Str},names.lookup x = some .free ->
  (names.map fun (n,k)=>if (k == NameKind.free && env.scope.kind == .function && env.kindOf n == some .cell) then (n,NameKind.cell) else (n,k)).lookup x = some .cell \/
  (names.map fun (n,k)=>if (k == NameKind.free && env.scope.kind == .function && env.kindOf n == some .cell) then (n,NameKind.cell) else (n,k)).lookup x = some .free
 | [],_,h=>by simp at h
 | (n,k) :: r,x,h=>by
  have ih:=@zby env r x
  show List.lookup x ((if (k == NameKind.free && env.scope.kind == .function && env.kindOf n == some .cell) = true then (n,NameKind.cell) else (n,k)) :: _) = _\/List.lookup x ((if (k == NameKind.free && env.scope.kind == .function && env.kindOf n == some .cell) = true then (n,NameKind.cell) else (n,k)) :: _) = _
  cases hx:x == n with
  | true=>
   simp only [YBo,hx] at h
   cases h
   by_cases hc:(NameKind.free == NameKind.free && env.scope.kind == .function && env.kindOf n == some .cell) = true
   .rw [if_pos hc];left;simp only [YBo,hx]
   .rw [if_neg hc];right;simp only [YBo,hx]
  | false=>
   simp only [YBo,hx] at h
   by_cases hc:(k == NameKind.free && env.scope.kind == .function && env.kindOf n == some .cell) = true
   .rw [if_pos hc];simp only [YBo,hx];exact ih h
   .rw [if_neg hc];simp only [YBo,hx];exact ih h
theorem zcH {env:Env}:∀ {names:List (Str × NameKind)} {x:Str},(∀ y ∈ names,y.2 ≠ .cell) ->
  ((names.map fun (n,k)=>if (k == NameKind.free && env.scope.kind == .function && env.kindOf n == some .cell) then (n,NameKind.cell) else (n,k)).lookup x = some .cell \/
  (names.map fun (n,k)=>if (k == NameKind.free && env.scope.kind == .function && env.kindOf n == some .cell) then (n,NameKind.cell) else (n,k)).lookup x = some .free)->names.lookup x = some .free
 | [],_,_,h=>by simp at h
 | (n,k) :: r,x,nc,h=>by
  have ih:=@zcH env r x fun y hy=>nc y (YAn _ hy)
  have nk:k ≠ .cell:=nc (n,k) YAi
  have h':List.lookup x ((if (k == NameKind.free && env.scope.kind == .function && env.kindOf n == some .cell) = true then (n,NameKind.cell) else (n,k)) :: (r.map fun (n,k)=>if (k == NameKind.free && env.scope.kind == .function && env.kindOf n == some .cell) then (n,NameKind.cell) else (n,k))) = some .cell\/List.lookup x ((if (k == NameKind.free && env.scope.kind == .function && env.kindOf n == some .cell) = true then (n,NameKind.cell) else (n,k)) :: (r.map fun (n,k)=>if (k == NameKind.free && env.scope.kind == .function && env.kindOf n == some .cell) then (n,NameKind.cell) else (n,k))) = some .free:=h
  clear h
  by_cases hc:(k == NameKind.free && env.scope.kind == .function && env.kindOf n == some .cell) = true
  .rw [if_pos hc] at h'
   have kf:k = .free:=by
    rw [YAX,YAX] at hc
    exact beq_iff_eq.mp hc.1.1
   cases hx:x == n with
   | true=>simp only [YBo,hx];rw [kf]
   | false=>simp only [YBo,hx] at h' ⊢;exact ih h'
  .rw [if_neg hc] at h'
   cases hx:x == n with
   | true=>
    simp only [YBo,hx] at h' ⊢
    rcases h' with e | e
    .exact absurd (Option.some.inj e) nk
    .exact e
   | false=>simp only [YBo,hx] at h' ⊢;exact ih h'
def zak (X:Cx) (Nc:List Str) (scope:Scope) (cl:List (Str × Addr)) (L:Addr) (s₀:Shared) (H₀:Hp) (ex:List Addr):Cx:=
 { X with N:=Nc,s₀:=s₀,H₀:=H₀,env:=compEnvC scope cl L X.env,outer:=X.stack,ex:=ex,fn:=fun _=>false,pn:=[],xe:=fun _ _=>False }
def zea (sub:List (Option Nat)) (g:TG):Prop:=∀ v Y H (Q:St->Hp->Prop),g v Y H Q->g v Y H fun Y2 H2=>Q Y2 H2/\∀ (i j:Nat),sub[i]? = some (some j)->Y2[i]? = Y[i]?
def zfq (sub:List (Option Nat)) (g:TGs):Prop:=∀ v Y H (Q:St->Hp->Prop),g v Y H Q->g v Y H fun Y2 H2=>Q Y2 H2/\∀ (i j:Nat),sub[i]? = some (some j)->Y2[i]? = Y[i]?
def zc0  (h:sub[i]? = some none):zea sub (zco i):=fun v Y H Q q=>by
 refine ⟨q,fun k j e=>?_⟩
 have ne:i ≠ k:=fun z=>by subst z;rw [h] at e;cases e
 rw [YAj ne]
def zkO:zfq sub gNil:=fun _ _ _ _ ⟨e,q⟩=>⟨e,q,fun _ _ _=>rfl⟩
def zdP (g:TG):Prop:=∀ v Y H (Q Q':St->Hp->Prop),(∀ Y2 H2,Q Y2 H2->Q' Y2 H2)->g v Y H Q->g v Y H Q'
def zeY (g:TGs):Prop:=∀ v Y H (Q Q':St->Hp->Prop),(∀ Y2 H2,Q Y2 H2->Q' Y2 H2)->g v Y H Q->g v Y H Q'
def zaX:zdP (zco i):=fun _ _ _ _ _ f q=>f _ _ q
def zdH:zeY gNil:=fun _ _ _ _ _ f ⟨e,q⟩=>⟨e,f _ _ q⟩
def zbh  (h1:zdP t) (h2:zeY u):zeY (zd8 t u):=fun v Y H Q Q' f ⟨x,r,e,q⟩=>⟨x,r,e,h1 _ _ _ _ _ (fun Y2 H2 z=>h2 _ _ _ _ _ f z) q⟩
def zoB {K:oS} {n:Nat} {t:TGs} (h:zeY t):zdP (gTup K n t):=fun v Y H Q Q' f ⟨a,xs,e,s,l,q⟩=>⟨a,xs,e,s,l,h _ _ _ _ _ f q⟩
def zdx  (h1:zea sub t) (m1:zdP t) (h2:zfq sub u) (m2:zeY u):zfq sub (zd8 t u):=fun v Y H Q ⟨x,r,e,q⟩=>by
 refine ⟨x,r,e,?_⟩
 refine m1 _ _ _ _ _ (fun Y2 H2 z=>?_) (h1 _ _ _ _ q)
 obtain ⟨z,k⟩:=z
 refine m2 _ _ _ _ _ (fun Y3 H3 y=>?_) (h2 _ _ _ _ z)
 exact ⟨y.1,fun i j e=>(y.2 i j e).trans (k i j e)⟩
def znX {K:oS} {sub:List (Option Nat)} {n:Nat} {t:TGs} (h:zfq sub t):zea sub (gTup K n t):=fun v Y H Q ⟨a,xs,e,s,l,q⟩=>⟨a,xs,e,s,l,h _ _ _ _ q⟩
noncomputable def PIfs (X:Cx) (ifs:List Expr) (t:TT):Prop:=
 ∀ (O:List (Addr × Obj)) (s:Shared) (Y:St) (H:Hp) (Q:Bool->Hp->Prop),Inv X O Y H s->t Y H Q ->
  wpAny (model X.prog X.w) X.A (forIn ifs true fun c r=>if r = true then do let ok <- isTrue c X.env (eval c X.env);pure (ForInStep.yield ok) else pure (ForInStep.yield r)) (TP X O Y Q) X.xe s
def zk1:TT:=fun _ H Q=>Q true H
def pif0:PIfs X [] zk1:=fun _ _ _ H _ I h=>wpAny_tests_nil ⟨H,I,h⟩
def pif1  (h:PT X c t):PIfs X [c] t:=fun O s Y H Q I q=>wpAny_tests_one (h O s Y H Q I q)
noncomputable def zgC (g:TG) (tc:TT) (te:TE) (Yc:St) (l:Addr) (J:It) (H1:Hp) (Q:VK):Prop:=
 ∃ W:Nat->Nat->List V->Hp->Prop,(∃ m,W 0 m [] (upd H1 l (.lst [])))/\∀ i m xs H2,W i m xs H2->H2 l = some (.lst xs) /\
  ((J.stop i H2/\Q (.ref l) H2)\/(J.go i H2/\∃ N:List V->Hp->Prop,(∀ xs' H',N xs' H'->∃ m',m' < m/\W (i + 1) m' xs' H') /\
   ∀ x H',J.yld i H2 x H'->g x Yc H' fun Y2 H3=>tc Y2 H3 fun b H4=>if b = true then te Y2 H4 fun y H5=>H5 l = some (.lst xs)/\xs.length < sizeLine/\N (xs ++ [y]) (upd H5 l (.lst (xs ++ [y]))) else N xs H4))
def zjH (sub:List (Option Nat)) (wi:TI) (g:TG) (tc:TT) (te:TE):TE:=fun Y H Q=>wi Y H fun J H1=>∀ l,H1 l = none->zgC g tc te (zaU sub Y) l J H1 Q
section
variable {X:Cx} {O:List (Addr × Obj)} {Y:St} {H:Hp} {s:Shared} {scope:Scope} {Nc:List Str} {sub:List (Option Nat)} {elt tg iter:Expr} {ifs:List Expr} {pos:Pos} {g:TG} {tc:TT} {te:TE}
def zev {cl:List (Str × Addr)} {fp:List Addr} {it:Addr} {J:It} {tn:Nat->Heap->Prop} (I:Inv X O Y H s) (hS:CompScope X.N X.env.scope scope Nc sub)
  (hcl:∀ x c,cl.lookup x = some c->X.env.cells.lookup x = some c) (hcl2:∀ x,scope.names.lookup x = some .free->∃ c,cl.lookup x = some c)
  (hf:∀ b ∈ fp,FpOk X O H b) (hlt:∀ b ∈ fp,b < s.heap.objs.size):(zak X Nc scope cl s.heap.objs.size s H fp).Ok where
 mod:=I.ok.mod
 kind:=hS.kind
 glob:=I.ok.glob
 blt:=I.ok.blt
 above:=YAl _
 inj:=fun x y c e1 e2=>I.ok.inj x y c (hcl x c e1) (hcl y c e2)
 has:=fun x h=>hcl2 x (zcH (env:=X.env) hS.nocell h)
 cab:=fun x c h=>by cases h
 hd:=I.ok.hd
 frames:=I.ok.frames
 stk:=.inl rfl
 exf:=fun b hb=>⟨YAt (hlt b hb),fun x c e=>(hf b hb).2.2.2.2.1 x c (hcl x c e)⟩
 bs:=I.bs
 bsz:=YAZ I.ok.bsz I.sz
 noex:=fun b o e hb=>by
  rcases (hf b hb).2.2.2.1 with z | z
  .exact I.ok.noex b o e z
  .exact absurd (YAu (YAp e) (YAZ I.ok.bsz z)) (YA9 _)
 exfs:=fun b hb hq=>by
  rcases YAs.mp (I.stkSub b hq) with z | z
  .exact (hf b hb).2.1 z
  .exact (hf b hb).2.2.1 z
 funs:=I.stack
 frf:=I.stkFree
def zcw {cl:List (Str × Addr)} {fp:List Addr} {h1:Heap} {t':Nat} {m:Str->Option Value} (I:Inv X O Y H s) (hS:CompScope X.N X.env.scope scope Nc sub)
  (hcl:∀ x c,cl.lookup x = some c->X.env.cells.lookup x = some c) (hcl2:∀ x,scope.names.lookup x = some .free->∃ c,cl.lookup x = some c)
  (ok:(zak X Nc scope cl s.heap.objs.size s H fp).Ok) (hn:h1.Ns s.heap.objs.size m) (hk:∀ b o,s.heap.get? b = some o->h1.get? b = some o) :
  Inv (zak X Nc scope cl s.heap.objs.size s H fp) [] (zaU sub Y) H { s with heap:=h1,toks:=t' } where
 ok:=ok
 os:=rfl
 bare:=I.bare
 base:=Un.kept hk
 loc:=by
  refine ⟨m,hn,fun i x v e1 e2 _=>?_⟩
  obtain ⟨j,e3,e4⟩:=zcK e2
  obtain ⟨e5,e6⟩:=hS.vis i j x e1 e3
  obtain ⟨m',_,hl⟩:=I.loc
  have hfr:X.env.kindOf x = some .cell\/X.env.kindOf x = some .free:=hS.frees (x,.free) (YBr e6) rfl
  obtain ⟨u,r,l⟩:=hl j x v e5 e4 (.inr hfr)
  refine ⟨u,r,?_⟩
  rcases l with ⟨k,_⟩ | ⟨_,c,e,z⟩
  .rcases hfr with q | q
   .rw [k] at q;cases q
   .rw [k] at q;cases q
  .obtain ⟨c',e'⟩:=hcl2 x e6
   have:=hcl x c' e'
   rw [e] at this;cases this
   exact .inr ⟨zby (env:=X.env) e6,c,e',z.keeps hk⟩
 cell:=fun x c e=>by
  obtain ⟨v,z⟩:=I.cell x c (hcl x c e)
  exact ⟨v,z.keeps hk⟩
 free:=I.hok.fresh (YAl _)
 freeC:=fun x c e=>I.freeC x c (hcl x c e)
 pin:=fun p hp=>absurd (show p ∈ ([]:List (Addr × Obj)) from hp) (by simp)
 hok:=I.hok.kept hk
 len:=(zdn sub Y).trans hS.len
def zdR {cl:List (Str × Addr)} {fp:List Addr} {pinsC:List (Addr × Obj)} {Yc:St} {H':Hp} {s':Shared} (I:Inv X O Y H s) (hf:∀ b ∈ fp,FpOk X O H b)
  (J:Inv (zak X Nc scope cl s.heap.objs.size s H fp) pinsC Yc H' s'):Inv X O Y H' s':=
 I.call' (ch:=fp) J.os J.base J.hok J.bare fun b hb=>⟨(hf b hb).2.2.2.1,(hf b hb).2.1,(hf b hb).2.2.2.2.1,(hf b hb).2.2.2.2.2⟩
def zh9 {cl:List (Str × Addr)} {fp:List Addr} {it:Addr} {J:It} {tn:Nat->Heap->Prop} {E:Value->Shared->Prop} {Q:VK} {RR:Value->Addr->Result->Shared->Prop}
  (hc:X.calm = true) (I:Inv X O Y H s) (hS:CompScope X.N X.env.scope scope Nc sub)
  (hcl:∀ x c,cl.lookup x = some c->X.env.cells.lookup x = some c) (hcl2:∀ x,scope.names.lookup x = some .free->∃ c,cl.lookup x = some c)
  (T:Turn X.prog X.w X.K tg J fp it tn) (st:tn 0 s.heap) (hf:∀ b ∈ fp,FpOk X O H b)
  (hg:∀ cl L s0 H0 ex,PG (zak X Nc scope cl L s0 H0 ex) tg g) (gk:zea sub g)
  (hi:∀ cl L s0 H0 ex,PIfs (zak X Nc scope cl L s0 H0 ex) ifs tc) (he:∀ cl L s0 H0 ex,PE (zak X Nc scope cl L s0 H0 ex) elt te)
  (gm:zdP g) (q:∀ l,H l = none->zgC g tc te (zaU sub Y) l J H Q)
  (hRR:∀ l C H' s' m,Inv X O Y H' s'->Q (.ref l) H'->s'.heap.Ns C m->s.heap.objs.size <= C->H' C = none->RR (.ref l) C (.ok .next) s') :
  wpAny (model X.prog X.w) X.A (newList []) (fun acc s₃=>wpAny (model X.prog X.w) X.A (newFunctionEnv scope X.env.globals cl [] X.env.qual none .none (some X.env)) (fun cenv s₄=>
   codeAny (model X.prog X.w) X.A (.compStart (.ListComp elt [⟨tg,iter,ifs,0⟩] scope pos) 0 (.ref it) acc { cenv with scope:=relabel scope X.env }) (RR acc cenv.locals) s₄) E s₃) E s:=by
 have hlt:∀ b ∈ fp,b < s.heap.objs.size:=fun b hb=>let ⟨o,e,_⟩:=T.obj _ _ st b hb;YAp e
 have hl0:H s.heap.objs.size = none:=I.hok.fresh (YAl _)
 obtain ⟨W,⟨m0,w0⟩,turn⟩:=q s.heap.objs.size hl0
 refine YAG ?_
 -- the list is laid
 have I3:Inv X O Y (upd H s.heap.objs.size (.lst [])) { s with heap:=s.heap.push { cls:=.type "list",data:=.seq ([]:List Value).toArray },toks:=s.toks }:=I.lnew (its:=[]) .nil (YAD _)
 generalize hs3:({ s with heap:=s.heap.push { cls:=.type "list",data:=.seq ([]:List Value).toArray },toks:=s.toks }:Shared) = s3 at I3
 have e3:({ s with heap:=s.heap.push { cls:=.type "list",data:=.seq ([]:List Value).toArray } }:Shared) = s3:=hs3
 have k3:∀ b o,s.heap.get? b = some o->s3.heap.get? b = some o:=fun b o e=>by rw [<- hs3];exact YAe _ e
 have z3:s.heap.objs.size <= s3.heap.objs.size:=by rw [<- hs3];show _ <= (s.heap.push _).objs.size;rw [YBm];exact Nat.le_succ _
 have f3:∀ b ∈ fp,FpOk X O (upd H s.heap.objs.size (.lst [])) b:=fun b hb=>⟨by rw [zae (YAt (hlt b hb))];exact (hf b hb).1,(hf b hb).2⟩
 have lt3:∀ b ∈ fp,b < s3.heap.objs.size:=fun b hb=>YAu (hlt b hb) z3
 have st3:tn 0 s3.heap:=T.keep _ _ _ st fun b _ o e=>k3 b o e
 refine YCZ hS.nocell (by intro y hy;simp at hy) (fun h₁ hns₁ hsb₁=>?_) hS.kind
 have k4:∀ b o,s3.heap.get? b = some o->h₁.get? b = some o:=fun b o e=>hsb₁.extBut b o (YAt (YAp e)) (YAe _ e)
 have ok4:=zev (J:=J) (it:=it) (tn:=tn) I3 hS hcl hcl2 f3 lt3
 have I4:=zcw (t':=s3.toks + ([]:List (Str × Value)).length) I3 hS hcl hcl2 ok4 hns₁ k4
 have st4:tn 0 h₁:=T.keep _ _ _ st3 fun b _ o e=>k4 b o e
 -- what stays true of the iterator's objects
 have stat:∀ {H':Hp},(∀ b ∈ fp,H' b = none)->∀ b ∈ fp,FpOk (zak X Nc scope cl s3.heap.objs.size s3 (upd H s.heap.objs.size (.lst [])) fp) [] H' b:=fun hn b hb=>
  ⟨hn b hb,(ok4.exf b hb).1,ok4.exfs b hb,.inl hb,(ok4.exf b hb).2,fun p hp=>absurd (show p ∈ ([]:List (Addr × Obj)) from hp) (by simp)⟩
 have loop:∀ s₄:Shared,s₄ = { s3 with heap:=h₁,toks:=s3.toks + ([]:List (Str × Value)).length } ->
   codeAny (model X.prog X.w) X.A (.compLoop (.ListComp elt [⟨tg,iter,ifs,0⟩] scope pos) 0 (.ref it) (.ref s.heap.objs.size) (compEnvC scope cl s3.heap.objs.size X.env)) (RR (.ref s.heap.objs.size) s3.heap.objs.size) s₄:=by
  rintro s₄ rfl
  refine YDQ rfl (fun n s'=>∃ i xs H',Inv (zak X Nc scope cl s3.heap.objs.size s3 (upd H s.heap.objs.size (.lst [])) fp) [] (zaU sub Y) H' s'/\tn i s'.heap/\(∀ b ∈ fp,H' b = none)/\W i n xs H') ?_ m0
   ⟨0,[],_,I4,st4,fun b hb=>(f3 b hb).1,w0⟩
  rintro n s5 ⟨i,xs,H5,I5,st5,fr5,w5⟩
  show wpAny _ X.A ((compTurn (.ListComp elt [⟨tg,iter,ifs,0⟩] scope pos) 0 (.ref it) (.ref s.heap.objs.size) (compEnvC scope cl s3.heap.objs.size X.env)).onRaise (fun x=>do noteFrame x (compEnvC scope cl s3.heap.objs.size X.env);theTreesLotGoes x)) _ _ s5
  refine YDZ ?_
  rw [compTurn_list]
  refine YAa (YBj (YAa ?_))
  obtain ⟨hl5,w5⟩:=turn i n xs H5 w5
  rcases w5 with ⟨stop,qn⟩ | ⟨go,N,hN,step⟩
  .refine thn (T.done (zak X Nc scope cl s3.heap.objs.size s3 (upd H s.heap.objs.size (.lst [])) fp) rfl rfl rfl hc i [] s5 (zaU sub Y) H5 _ I5 (stat fr5) st5 stop) fun r s6 ⟨hr,I6⟩=>?_
   subst hr
   obtain ⟨m6,hn6,_⟩:=I6.loc
   exact YAb (hRR _ _ H5 s6 m6 (zdR I3 f3 I6) qn hn6 z3 I6.free)
  .refine thn (T.item (zak X Nc scope cl s3.heap.objs.size s3 (upd H s.heap.objs.size (.lst [])) fp) rfl rfl rfl hc i [] s5 (zaU sub Y) H5 _ I5 (stat fr5) st5 go) fun r s6 ⟨u,hr,h6⟩=>?_
   subst hr
   refine YAa (thn h6 fun _ s7 ⟨x,H7,I7,r7,y7,st7,fr7⟩=>?_)
   have I7':=I7.pinned (stat fr7) (T.obj _ _ st7)
   have again:∀ {Y8:St} {H8:Hp} {ys:List V} {s8:Shared},Inv (zak X Nc scope cl s3.heap.objs.size s3 (upd H s.heap.objs.size (.lst [])) fp) ([] ++ zd2 fp s7.heap) Y8 H8 s8->(∀ (i j:Nat),sub[i]? = some (some j)->Y8[i]? = (zaU sub Y)[i]?)->N ys H8 ->
     ∃ m,m < n/\∃ i xs H',Inv (zak X Nc scope cl s3.heap.objs.size s3 (upd H s.heap.objs.size (.lst [])) fp) [] (zaU sub Y) H' s8/\tn i s8.heap/\(∀ b ∈ fp,H' b = none)/\W i m xs H':=fun {Y8 H8 ys s8} I8 k8 n8=>by
    obtain ⟨m',hm,w8⟩:=hN ys H8 n8
    refine ⟨m',hm,i + 1,ys,H8,?_,T.keep _ _ _ st7 fun b hb o e=>(I8.pin (b,o) (YAq _ (YAq _ (zaS hb e)))).1,fun b hb=>?_,w8⟩
    .refine I8.unpinned.weak ?_ fun k v e=>?_
     .rw [I8.len];exact (zdn sub Y).trans hS.len
     .obtain ⟨j,e1,_⟩:=zcK e
      rw [k8 k j e1];exact e
    .obtain ⟨o,e,d⟩:=T.obj _ _ st7 b hb
     exact (I8.pin (b,o) (YAq _ (YAq _ (zaS hb e)))).2.1
   refine YAa (YA5 (hg cl _ s3 _ fp _ s7 (zaU sub Y) H7 x u _ I7' r7 (gk _ _ _ _ (step x H7 y7))) (fun _ s8 ⟨Y8,H8,I8,q8,k8⟩=>?_) fun _ _ z=>False.elim z)
   refine YAa (YA5 (hi cl _ s3 _ fp _ s8 Y8 H8 _ I8 q8) (fun ok s9 ⟨H9,I9,q9⟩=>?_) fun _ _ z=>False.elim z)
   cases ok with
   | false=>exact YAb ⟨rfl,again I9 k8 q9⟩
   | true=>
    refine YAa (YAa (YA5 (he cl _ s3 _ fp _ s9 Y8 H9 _ I9 q9) (fun xv s10 ⟨y,H10,I10,r10,hl10,hz,q10⟩=>?_) fun _ _ z=>False.elim z))
    refine YAa (YA5 (zbs (X:=(zak X Nc scope cl s3.heap.objs.size s3 (upd H s.heap.objs.size (.lst [])) fp)) _ s10 Y8 H10 (.ref s.heap.objs.size) [y] (.ref s.heap.objs.size) [xv] (fun _ H11=>N (xs ++ [y]) H11) I10 rfl (.cons r10 .nil) ⟨_,xs,y,rfl,rfl,hl10,hz,q10⟩) (fun _ s11 ⟨_,H11,I11,_,q11⟩=>?_) fun _ _ z=>False.elim z)
    exact YAb (YAb ⟨rfl,again I11 k8 q11⟩)
 exact codeAny_compStart_list (loop _ rfl) (T.self _ 0 _ _ _ st4 (loop _ rfl))
def zcQ (I:Inv X O Y H s) (hS:CompScope X.N X.env.scope scope Nc sub):∀ y ∈ scope.names,y.2 = .free->∃ c,X.env.cells.lookup y.1 = some c:=fun y hy e=>
 I.ok.has y.1 (hS.frees y hy e)
def zfE (hc:X.calm = true) (hS:CompScope X.N X.env.scope scope Nc sub) (hI:PI X tg iter wi)
  (hg:∀ cl L s0 H0 ex,PG (zak X Nc scope cl L s0 H0 ex) tg g) (gk:zea sub g) (gm:zdP g)
  (hi:∀ cl L s0 H0 ex,PIfs (zak X Nc scope cl L s0 H0 ex) ifs tc) (he:∀ cl L s0 H0 ex,PE (zak X Nc scope cl L s0 H0 ex) elt te)
  (hs:∀ x,foldedSetIterable iter X.env x = pure x:=by intro _;rfl):PE X (.ListComp elt [⟨tg,iter,ifs,0⟩] scope pos) (zjH sub wi g tc te):=by
 intro O s Y H Q I h
 obtain ⟨cl,hcl0,hcl,hcl2⟩:=zbi (zcQ I hS)
 rw [eval_ListComp]
 refine YCk (use:=none) rfl hs hcl0 hS.kind hS.names ?_
 refine thn (hI O s Y H _ I h) fun xv s1 h1=>thn h1 fun itv s2 h2=>?_
 obtain ⟨it,fp,tn,J,H2,e,I2,T,st2,f2,q⟩:=h2
 subst e
 refine zh9 hc I2 hS hcl hcl2 T st2 f2 hg gk hi he gm q fun l C H' s' m I' q' hn hC hfr=>?_
 refine ⟨m,hn,fun h' sb=>?_⟩
 have nL:C ≠ X.env.locals:=YA0 (YAu I2.lt hC)
 refine ⟨.ref l,H',?_,rfl,q'⟩
 exact I'.turned (it:=C) (t':=s'.toks) (fun b o hb e=>(sb.2 b hb).trans e) hfr nL (.inr (YAZ I2.sz hC)) (fun x c e z=>by
  obtain ⟨v,w⟩:=I2.cell x c e
  exact absurd (YAu w.lt (by rw [z];exact hC)) (YA9 _)) fun p hp z=>
  absurd (YAu (YAp (I2.pin p hp).1) (by rw [z];exact hC)) (YA9 _)
def zhw   (hc:X.calm = true) (hN:X.N.Nodup) (hiN:X.N[i]? = some y) (hy:X.env.scope.names.lookup y = some .local) (hS:CompScope X.N X.env.scope scope Nc sub) (hI:PI X tg iter wi)
  (hg:∀ cl L s0 H0 ex,PG (zak X Nc scope cl L s0 H0 ex) tg g) (gk:zea sub g) (gm:zdP g)
  (hi:∀ cl L s0 H0 ex,PIfs (zak X Nc scope cl L s0 H0 ex) ifs tc) (he:∀ cl L s0 H0 ex,PE (zak X Nc scope cl L s0 H0 ex) elt te)
  (hsw:swapsWith (.ListComp elt [⟨tg,iter,ifs,0⟩] scope pos) (some (.Name y py)) spos.line X.env = pure true:=by rfl)
  (hs:∀ x,foldedSetIterable iter X.env x = pure x:=by intro _;rfl):PS X (.Assign [.Name y py] (.ListComp elt [⟨tg,iter,ifs,0⟩] scope pos) spos) (tAsg (zjH sub wi g tc te) (zco i)):=by
 intro O s Y H D I h
 obtain ⟨cl,hcl0,hcl,hcl2⟩:=zbi (zcQ I hS)
 rw [exec_Assign_Name_used _ _ _ _ hsw]
 refine YAa (YBj (YAa ?_))
 show wpAny _ X.A (do let _ <- comprehension (.ListComp elt [⟨tg,iter,ifs,0⟩] scope pos) scope X.env _ (newList []) false (eval iter X.env) (some (assign (.Name y py) X.env))) _ _ s
 refine YAa (YA5 (YCk (use:=some (assign (.Name y py) X.env)) (Q:=fun _ s'=>SP X O D .next s') rfl hs hcl0 hS.kind hS.names
  (thn (hI O s Y H _ I h) fun xv s1 h1=>thn h1 fun itv s2 h2=>?_)) (fun _ s' hq=>YAb (YAb hq)) fun _ _ e=>e)
 obtain ⟨it,fp,tn,J,H2,e,I2,T,st2,f2,q⟩:=h2
 subst e
 refine zh9 hc I2 hS hcl hcl2 T st2 f2 hg gk hi he gm q fun l C H' s' m I' q' hn hC hfr=>?_
 have nL:C ≠ X.env.locals:=YA0 (YAu I2.lt hC)
 show wpAny _ X.A (assign (.Name y py) X.env (.ref l)) _ _ _
 refine YDq (zeH I' hN hiN (.inl hy) (v:=.ref l) rfl (fun s6 I6 ⟨a,sb6,ha⟩=>?_) (.inr hy))
 have nA:C ≠ a:=fun z=>by
  rcases ha with e | e
  .exact nL (z.trans e)
  .obtain ⟨v,w⟩:=I2.cell y a e
   exact absurd (YAu w.lt (by rw [<- z];exact hC)) (YA9 _)
 refine ⟨m,hn.sameBut sb6 nA,fun h' sb=>?_⟩
 refine ⟨_,H',I6.turned (it:=C) (t':=s6.toks) (fun b o hb e=>(sb.2 b hb).trans e) hfr nL (.inr (YAZ I2.sz hC)) (fun x c e z=>by
  obtain ⟨v,w⟩:=I2.cell x c e
  exact absurd (YAu w.lt (by rw [z];exact hC)) (YA9 _)) (fun p hp z=>
  absurd (YAu (YAp (I2.pin p hp).1) (by rw [z];exact hC)) (YA9 _)),q'⟩
end
def zgq {K:oS} {a l:Addr} {ys:List V} {g:TG} {tc:TT} {te:TE} {Yc:St} {H1:Hp} {Q:VK} (Pv:Nat->List V->Hp->Prop) (h0:Pv 0 [] (upd H1 l (.lst [])))
  (hl:∀ i xs H,i <= ys.length->Pv i xs H->SqL K H a ys/\H l = some (.lst xs))
  (hs:∀ i x xs H,ys[i]? = some x->Pv i xs H->g x Yc H fun Y2 H3=>tc Y2 H3 fun b H4=>if b = true then te Y2 H4 fun y H5=>H5 l = some (.lst xs)/\xs.length < sizeLine/\Pv (i + 1) (xs ++ [y]) (upd H5 l (.lst (xs ++ [y]))) else Pv (i + 1) xs H4)
  (hd:∀ xs H,Pv ys.length xs H->Q (.ref l) H):zgC g tc te Yc l (Itl K a) H1 Q:=by
 refine ⟨fun i m xs H=>m = ys.length - i/\i <= ys.length/\Pv i xs H,⟨ys.length,by simp,YAD _,h0⟩,?_⟩
 rintro i m xs H ⟨rfl,hi,p⟩
 obtain ⟨q,hll⟩:=hl i xs H hi p
 refine ⟨hll,?_⟩
 by_cases hlt:i < ys.length
 .refine .inr ⟨⟨ys,ys[i],q,by simp [hlt]⟩,Pv (i + 1),fun xs' H' p'=>⟨ys.length - (i + 1),by omega,rfl,hlt,p'⟩,fun x H' y=>?_⟩
  obtain ⟨e,y⟩:=y
  subst e
  exact hs i x xs _ (y ys q) p
 .have e:i = ys.length:=by omega
  subst e
  exact .inl ⟨⟨ys,q,YAl _⟩,hd xs H p⟩
def zi8 {l:Addr} {lo:Int} {n:Nat} {g:TG} {tc:TT} {te:TE} {Yc:St} {H1:Hp} {Q:VK} (Pv:Nat->List V->Hp->Prop) (h0:Pv 0 [] (upd H1 l (.lst [])))
  (hl:∀ i xs H,i <= n->Pv i xs H->H l = some (.lst xs))
  (hs:∀ i xs H,i < n->Pv i xs H->g (.int (lo + i)) Yc H fun Y2 H3=>tc Y2 H3 fun b H4=>if b = true then te Y2 H4 fun y H5=>H5 l = some (.lst xs)/\xs.length < sizeLine/\Pv (i + 1) (xs ++ [y]) (upd H5 l (.lst (xs ++ [y]))) else Pv (i + 1) xs H4)
  (hd:∀ xs H,Pv n xs H->Q (.ref l) H):zgC g tc te Yc l (Itr lo n) H1 Q:=by
 refine ⟨fun i m xs H=>m = n - i/\i <= n/\Pv i xs H,⟨n,by simp,YAD _,h0⟩,?_⟩
 rintro i m xs H ⟨rfl,hi,p⟩
 refine ⟨hl i xs H hi p,?_⟩
 by_cases hlt:i < n
 .refine .inr ⟨hlt,Pv (i + 1),fun xs' H' p'=>⟨n - (i + 1),by omega,rfl,hlt,p'⟩,fun x H' y=>?_⟩
  obtain ⟨e,y⟩:=y
  subst e y
  exact hs i xs _ hlt p
 .have e:i = n:=by omega
  subst e
  exact .inl ⟨YAl _,hd xs H p⟩
def zeM (elt tg iter tg2 iter2:Expr) (ifs:List Expr) (scope:Scope) (pos:Pos) (it acc:Value) (env:Env) :
  compTurn (.ListComp elt [⟨tg,iter,[],0⟩,⟨tg2,iter2,ifs,0⟩] scope pos) 0 it acc env = (do
   standAt iter.pos
   match <- pyNext it with
   | none=>pure (.done .next)
   | some v=>
    letOwnedTupleGo tg it v
    assign tg env v
    let mut ok:=true
    for c in ([]:List Expr) do
     if ok then ok <- isTrue c env (eval c env)
    if ok then
     let x <- eval iter2 env
     standAt iter2.pos
     let x <- foldedSetIterable iter2 env x
     let _ <- runOwn (.compStart (.ListComp elt [⟨tg,iter,[],0⟩,⟨tg2,iter2,ifs,0⟩] scope pos) 1 (<- holding [x] (pyIter x)) acc env) env
    again (.compLoop (.ListComp elt [⟨tg,iter,[],0⟩,⟨tg2,iter2,ifs,0⟩] scope pos) 0 it acc env)):=by rfl
def zeJ (elt tg iter tg2 iter2:Expr) (ifs:List Expr) (scope:Scope) (pos:Pos) (it acc:Value) (env:Env) :
  compTurn (.ListComp elt [⟨tg,iter,[],0⟩,⟨tg2,iter2,ifs,0⟩] scope pos) 1 it acc env = (do
   standAt iter2.pos
   match <- pyNext it with
   | none=>pure (.done .next)
   | some v=>
    letOwnedTupleGo tg2 it v
    assign tg2 env v
    let mut ok:=true
    for c in ifs do
     if ok then ok <- isTrue c env (eval c env)
    if ok then
     (do let _ <- call (.builtin "list.append") [acc,<- eval elt env])
    again (.compLoop (.ListComp elt [⟨tg,iter,[],0⟩,⟨tg2,iter2,ifs,0⟩] scope pos) 1 it acc env)):=by rfl
def zcf
  (h0:codeAny (model prog w) A (.compLoop (.ListComp elt [⟨tg,iter,[],0⟩,⟨tg2,iter2,ifs,0⟩] scope pos) 1 it acc env) R s)
  (h:wpAny (model prog w) A (pyIter it) (fun it' s'=>codeAny (model prog w) A (.compLoop (.ListComp elt [⟨tg,iter,[],0⟩,⟨tg2,iter2,ifs,0⟩] scope pos) 1 it' acc env) R s')
   (notedBy (model prog w) A env fun x s'=>R (.error x) s') s) :
  codeAny (model prog w) A (.compStart (.ListComp elt [⟨tg,iter,[],0⟩,⟨tg2,iter2,ifs,0⟩] scope pos) 1 it acc env) R s:=by
 refine YDa ?_
 show wpAny _ _ ((compStart (.ListComp elt [⟨tg,iter,[],0⟩,⟨tg2,iter2,ifs,0⟩] scope pos) 1 it acc env).onRaise (fun x=>do noteFrame x env;standAt theWindowsPlace)) _ _ s
 refine wpAny_notedAt ?_
 unfold compStart
 show wpAny _ _ (ask >>= _) _ _ s
 refine YAa (YCr (wpAny_ite ?_))
 split
 .first
   | exact YAa (YAb (YAb (And.intro rfl h0)))
   | exact YAb (And.intro rfl h0)
 .first
   | exact YAa (YBT (YAa (YBj (YAa (YA5 h (fun it' s' h'=>YAb (And.intro rfl h')) fun _ _ x=>x)))))
   | (refine YAa (YBT ?_);show wpAny _ _ (standAt iter2.pos >>= _) _ _ s;exact YAa (YBj (YAa (YA5 h (fun it' s' h'=>YAb (And.intro rfl h')) fun _ _ x=>x))))
noncomputable def tIn (g:TG) (tc:TT) (te:TE) (Yc:St) (l:Addr) (J:It) (H1:Hp) (xs0:List V) (N:List V->Hp->Prop):Prop:=
 ∃ W:Nat->Nat->List V->Hp->Prop,(∃ m,W 0 m xs0 H1)/\∀ i m xs H2,W i m xs H2->H2 l = some (.lst xs) /\
  ((J.stop i H2/\N xs H2)\/(J.go i H2/\∃ N':List V->Hp->Prop,(∀ xs' H',N' xs' H'->∃ m',m' < m/\W (i + 1) m' xs' H') /\
   ∀ x H',J.yld i H2 x H'->g x Yc H' fun Y2 H3=>tc Y2 H3 fun b H4=>if b = true then te Y2 H4 fun y H5=>H5 l = some (.lst xs)/\xs.length < sizeLine/\N' (xs ++ [y]) (upd H5 l (.lst (xs ++ [y]))) else N' xs H4))
def zjY
  (hc:X.calm = true) (hx:X.xe = fun _ _=>False) (I:Inv X O Y H s) (T:Turn X.prog X.w X.K tg2 J fp it tn) (st:tn 0 s.heap) (hf:∀ b ∈ fp,FpOk X O H b)
  (hg:PG X tg2 g) (gk:∀ v H (Q:St->Hp->Prop),g v Y H Q->g v Y H fun Y2 H2=>Q Y2 H2/\∀ (i:Nat) (v:V),Y[i]? = some (some v)->Y2[i]? = some (some v)) (hi:PIfs X ifs tc) (he:PE X elt te)
  (q:tIn g tc te Y l J H xs0 N) (hR:∀ ys H' s',Inv X O Y H' s'->N ys H'->R (.ok .next) s') :
  codeAny (model X.prog X.w) X.A (.compStart (.ListComp elt [⟨tg,iter,[],0⟩,⟨tg2,iter2,ifs,0⟩] scope pos) 1 (.ref it) (.ref l) X.env) R s:=by
 obtain ⟨W,⟨m0,w0⟩,turn⟩:=q
 have stat:∀ {H':Hp},(∀ b ∈ fp,H' b = none)->∀ b ∈ fp,FpOk X O H' b:=fun hn b hb=>⟨hn b hb,(hf b hb).2⟩
 have nox:∀ {E:Value->Shared->Prop} (a:Value) (b:Shared),X.xe a b->E a b:=fun {E} a b z=>by rw [hx] at z;exact z.elim
 have loop:codeAny (model X.prog X.w) X.A (.compLoop (.ListComp elt [⟨tg,iter,[],0⟩,⟨tg2,iter2,ifs,0⟩] scope pos) 1 (.ref it) (.ref l) X.env) R s:=by
  refine YDQ rfl (fun n s'=>∃ i xs H',Inv X O Y H' s'/\tn i s'.heap/\(∀ b ∈ fp,H' b = none)/\W i n xs H') ?_ m0 ⟨0,xs0,H,I,st,fun b hb=>(hf b hb).1,w0⟩
  rintro n s5 ⟨i,xs,H5,I5,st5,fr5,w5⟩
  show wpAny _ X.A ((compTurn (.ListComp elt [⟨tg,iter,[],0⟩,⟨tg2,iter2,ifs,0⟩] scope pos) 1 (.ref it) (.ref l) X.env).onRaise (fun x=>do noteFrame x X.env;theTreesLotGoes x)) _ _ s5
  refine YDZ ?_
  rw [zeJ]
  refine YAa (YBj (YAa ?_))
  obtain ⟨hl5,w5⟩:=turn i n xs H5 w5
  rcases w5 with ⟨stop,qn⟩ | ⟨go,N',hN,step⟩
  .refine thn (T.done X rfl rfl rfl hc i O s5 Y H5 _ I5 (stat fr5) st5 stop) fun r s6 ⟨hr,I6⟩=>?_
   subst hr
   exact YAb (hR _ H5 s6 I6 qn)
  .refine thn (T.item X rfl rfl rfl hc i O s5 Y H5 _ I5 (stat fr5) st5 go) fun r s6 ⟨u,hr,h6⟩=>?_
   subst hr
   refine YAa (thn h6 fun _ s7 ⟨x,H7,I7,r7,y7,st7,fr7⟩=>?_)
   have I7':=I7.pinned (stat fr7) (T.obj _ _ st7)
   have again:∀ {Y8:St} {H8:Hp} {ys:List V} {s8:Shared},Inv X (O ++ zd2 fp s7.heap) Y8 H8 s8->(∀ (i:Nat) (v:V),Y[i]? = some (some v)->Y8[i]? = some (some v))->N' ys H8 ->
     ∃ m,m < n/\∃ i xs H',Inv X O Y H' s8/\tn i s8.heap/\(∀ b ∈ fp,H' b = none)/\W i m xs H':=fun {Y8 H8 ys s8} I8 k8 n8=>by
    obtain ⟨m',hm,w8⟩:=hN ys H8 n8
    refine ⟨m',hm,i + 1,ys,H8,?_,T.keep _ _ _ st7 fun b hb o e=>(I8.pin (b,o) (YAq _ (YAq _ (zaS hb e)))).1,fun b hb=>?_,w8⟩
    .refine I8.unpinned.weak ?_ fun k v e=>k8 k v e
     rw [I8.len];exact I.len
    .obtain ⟨o,e,d⟩:=T.obj _ _ st7 b hb
     exact (I8.pin (b,o) (YAq _ (YAq _ (zaS hb e)))).2.1
   refine YAa (YA5 (hg _ s7 Y H7 x u _ I7' r7 (gk _ _ _ (step x H7 y7))) (fun _ s8 ⟨Y8,H8,I8,q8,k8⟩=>?_) nox)
   refine YAa (YA5 (hi _ s8 Y8 H8 _ I8 q8) (fun ok s9 ⟨H9,I9,q9⟩=>?_) nox)
   cases ok with
   | false=>exact YAb ⟨rfl,again I9 k8 q9⟩
   | true=>
    refine YAa (YAa (YA5 (he _ s9 Y8 H9 _ I9 q9) (fun xv s10 ⟨y,H10,I10,r10,hl10,hz,q10⟩=>?_) nox))
    refine YAa (YA5 (zbs (X:=X) _ s10 Y8 H10 (.ref l) [y] (.ref l) [xv] (fun _ H11=>N' (xs ++ [y]) H11) I10 rfl (.cons r10 .nil) ⟨_,xs,y,rfl,rfl,hl10,hz,q10⟩) (fun _ s11 ⟨_,H11,I11,_,q11⟩=>?_) nox)
    exact YAb (YAb ⟨rfl,again I11 k8 q11⟩)
 exact zcf loop (T.self _ 0 _ _ _ st loop)
noncomputable def znD (sub:List (Option Nat)) (g g2:TG):Prop:=∀ v (Y:St) H (Q:St->Hp->Prop),g v (zaU sub Y) H Q->g v (zaU sub Y) H fun Y2 H2=>Q Y2 H2 /\
 ∀ Y',Y' = Y->∀ u H' (Q':St->Hp->Prop),g2 u Y2 H' Q'->g2 u Y2 H' fun Y3 H3=>Q' Y3 H3/\∀ (i:Nat) (v:V),Y2[i]? = some (some v)->Y3[i]? = some (some v)
noncomputable def zky (g:TG) (wi2:TI) (g2:TG) (tc:TT) (te:TE) (Yc:St) (l:Addr) (J:It) (H1:Hp) (Q:VK):Prop:=
 ∃ W:Nat->Nat->List V->Hp->Prop,(∃ m,W 0 m [] (upd H1 l (.lst [])))/\∀ i m xs H2,W i m xs H2->H2 l = some (.lst xs) /\
  ((J.stop i H2/\Q (.ref l) H2)\/(J.go i H2/\∃ N:List V->Hp->Prop,(∀ xs' H',N xs' H'->∃ m',m' < m/\W (i + 1) m' xs' H') /\
   ∀ x H',J.yld i H2 x H'->g x Yc H' fun Y2 H3=>wi2 Y2 H3 fun J2 H4=>tIn g2 tc te Y2 l J2 H4 xs N))
def zkj (sub:List (Option Nat)) (wi:TI) (g:TG) (wi2:TI) (g2:TG) (tc:TT) (te:TE):TE:=fun Y H Q=>wi Y H fun J H1=>∀ l,H1 l = none->zky g wi2 g2 tc te (zaU sub Y) l J H1 Q
section
variable {X:Cx} {O:List (Addr × Obj)} {Y:St} {H:Hp} {s:Shared} {scope:Scope} {Nc:List Str} {sub:List (Option Nat)} {elt tg iter tg2 iter2:Expr} {ifs:List Expr} {pos:Pos} {g g2:TG} {wi2:TI} {tc:TT} {te:TE}
def zjA {cl:List (Str × Addr)} {fp:List Addr} {it:Addr} {J:It} {tn:Nat->Heap->Prop} {E:Value->Shared->Prop} {Q:VK} {RR:Value->Addr->Result->Shared->Prop}
  (hc:X.calm = true) (I:Inv X O Y H s) (hS:CompScope X.N X.env.scope scope Nc sub)
  (hcl:∀ x c,cl.lookup x = some c->X.env.cells.lookup x = some c) (hcl2:∀ x,scope.names.lookup x = some .free->∃ c,cl.lookup x = some c)
  (T:Turn X.prog X.w X.K tg J fp it tn) (st:tn 0 s.heap) (hf:∀ b ∈ fp,FpOk X O H b)
  (hg:∀ cl L s0 H0 ex,PG (zak X Nc scope cl L s0 H0 ex) tg g) (gk:zea sub g) (hI2:∀ cl L s0 H0 ex,PI (zak X Nc scope cl L s0 H0 ex) tg2 iter2 wi2) (hg2:∀ cl L s0 H0 ex,PG (zak X Nc scope cl L s0 H0 ex) tg2 g2) (gk2:znD sub g g2) (hs2:∀ cl L s0 H0 ex x,foldedSetIterable iter2 (zak X Nc scope cl L s0 H0 ex).env x = pure x)
  (hi:∀ cl L s0 H0 ex,PIfs (zak X Nc scope cl L s0 H0 ex) ifs tc) (he:∀ cl L s0 H0 ex,PE (zak X Nc scope cl L s0 H0 ex) elt te)
  (gm:zdP g) (q:∀ l,H l = none->zky g wi2 g2 tc te (zaU sub Y) l J H Q)
  (hRR:∀ l C H' s' m,Inv X O Y H' s'->Q (.ref l) H'->s'.heap.Ns C m->s.heap.objs.size <= C->H' C = none->RR (.ref l) C (.ok .next) s') :
  wpAny (model X.prog X.w) X.A (newList []) (fun acc s₃=>wpAny (model X.prog X.w) X.A (newFunctionEnv scope X.env.globals cl [] X.env.qual none .none (some X.env)) (fun cenv s₄=>
   codeAny (model X.prog X.w) X.A (.compStart (.ListComp elt [⟨tg,iter,[],0⟩,⟨tg2,iter2,ifs,0⟩] scope pos) 0 (.ref it) acc { cenv with scope:=relabel scope X.env }) (RR acc cenv.locals) s₄) E s₃) E s:=by
 have hlt:∀ b ∈ fp,b < s.heap.objs.size:=fun b hb=>let ⟨o,e,_⟩:=T.obj _ _ st b hb;YAp e
 have hl0:H s.heap.objs.size = none:=I.hok.fresh (YAl _)
 obtain ⟨W,⟨m0,w0⟩,turn⟩:=q s.heap.objs.size hl0
 refine YAG ?_
 -- the list is laid
 have I3:Inv X O Y (upd H s.heap.objs.size (.lst [])) { s with heap:=s.heap.push { cls:=.type "list",data:=.seq ([]:List Value).toArray },toks:=s.toks }:=I.lnew (its:=[]) .nil (YAD _)
 generalize hs3:({ s with heap:=s.heap.push { cls:=.type "list",data:=.seq ([]:List Value).toArray },toks:=s.toks }:Shared) = s3 at I3
 have e3:({ s with heap:=s.heap.push { cls:=.type "list",data:=.seq ([]:List Value).toArray } }:Shared) = s3:=hs3
 have k3:∀ b o,s.heap.get? b = some o->s3.heap.get? b = some o:=fun b o e=>by rw [<- hs3];exact YAe _ e
 have z3:s.heap.objs.size <= s3.heap.objs.size:=by rw [<- hs3];show _ <= (s.heap.push _).objs.size;rw [YBm];exact Nat.le_succ _
 have f3:∀ b ∈ fp,FpOk X O (upd H s.heap.objs.size (.lst [])) b:=fun b hb=>⟨by rw [zae (YAt (hlt b hb))];exact (hf b hb).1,(hf b hb).2⟩
 have lt3:∀ b ∈ fp,b < s3.heap.objs.size:=fun b hb=>YAu (hlt b hb) z3
 have st3:tn 0 s3.heap:=T.keep _ _ _ st fun b _ o e=>k3 b o e
 refine YCZ hS.nocell (by intro y hy;simp at hy) (fun h₁ hns₁ hsb₁=>?_) hS.kind
 have k4:∀ b o,s3.heap.get? b = some o->h₁.get? b = some o:=fun b o e=>hsb₁.extBut b o (YAt (YAp e)) (YAe _ e)
 have ok4:=zev (J:=J) (it:=it) (tn:=tn) I3 hS hcl hcl2 f3 lt3
 have I4:=zcw (t':=s3.toks + ([]:List (Str × Value)).length) I3 hS hcl hcl2 ok4 hns₁ k4
 have st4:tn 0 h₁:=T.keep _ _ _ st3 fun b _ o e=>k4 b o e
 -- what stays true of the iterator's objects
 have stat:∀ {H':Hp},(∀ b ∈ fp,H' b = none)->∀ b ∈ fp,FpOk (zak X Nc scope cl s3.heap.objs.size s3 (upd H s.heap.objs.size (.lst [])) fp) [] H' b:=fun hn b hb=>
  ⟨hn b hb,(ok4.exf b hb).1,ok4.exfs b hb,.inl hb,(ok4.exf b hb).2,fun p hp=>absurd (show p ∈ ([]:List (Addr × Obj)) from hp) (by simp)⟩
 have loop:∀ s₄:Shared,s₄ = { s3 with heap:=h₁,toks:=s3.toks + ([]:List (Str × Value)).length } ->
   codeAny (model X.prog X.w) X.A (.compLoop (.ListComp elt [⟨tg,iter,[],0⟩,⟨tg2,iter2,ifs,0⟩] scope pos) 0 (.ref it) (.ref s.heap.objs.size) (compEnvC scope cl s3.heap.objs.size X.env)) (RR (.ref s.heap.objs.size) s3.heap.objs.size) s₄:=by
  rintro s₄ rfl
  refine YDQ rfl (fun n s'=>∃ i xs H',Inv (zak X Nc scope cl s3.heap.objs.size s3 (upd H s.heap.objs.size (.lst [])) fp) [] (zaU sub Y) H' s'/\tn i s'.heap/\(∀ b ∈ fp,H' b = none)/\W i n xs H') ?_ m0
   ⟨0,[],_,I4,st4,fun b hb=>(f3 b hb).1,w0⟩
  rintro n s5 ⟨i,xs,H5,I5,st5,fr5,w5⟩
  show wpAny _ X.A ((compTurn (.ListComp elt [⟨tg,iter,[],0⟩,⟨tg2,iter2,ifs,0⟩] scope pos) 0 (.ref it) (.ref s.heap.objs.size) (compEnvC scope cl s3.heap.objs.size X.env)).onRaise (fun x=>do noteFrame x (compEnvC scope cl s3.heap.objs.size X.env);theTreesLotGoes x)) _ _ s5
  refine YDZ ?_
  rw [zeM]
  refine YAa (YBj (YAa ?_))
  obtain ⟨hl5,w5⟩:=turn i n xs H5 w5
  rcases w5 with ⟨stop,qn⟩ | ⟨go,N,hN,step⟩
  .refine thn (T.done (zak X Nc scope cl s3.heap.objs.size s3 (upd H s.heap.objs.size (.lst [])) fp) rfl rfl rfl hc i [] s5 (zaU sub Y) H5 _ I5 (stat fr5) st5 stop) fun r s6 ⟨hr,I6⟩=>?_
   subst hr
   obtain ⟨m6,hn6,_⟩:=I6.loc
   exact YAb (hRR _ _ H5 s6 m6 (zdR I3 f3 I6) qn hn6 z3 I6.free)
  .refine thn (T.item (zak X Nc scope cl s3.heap.objs.size s3 (upd H s.heap.objs.size (.lst [])) fp) rfl rfl rfl hc i [] s5 (zaU sub Y) H5 _ I5 (stat fr5) st5 go) fun r s6 ⟨u,hr,h6⟩=>?_
   subst hr
   refine YAa (thn h6 fun _ s7 ⟨x,H7,I7,r7,y7,st7,fr7⟩=>?_)
   have I7':=I7.pinned (stat fr7) (T.obj _ _ st7)
   have again:∀ {Y8:St} {H8:Hp} {ys:List V} {s8:Shared},Inv (zak X Nc scope cl s3.heap.objs.size s3 (upd H s.heap.objs.size (.lst [])) fp) ([] ++ zd2 fp s7.heap) Y8 H8 s8->(∀ (i j:Nat),sub[i]? = some (some j)->Y8[i]? = (zaU sub Y)[i]?)->N ys H8 ->
     ∃ m,m < n/\∃ i xs H',Inv (zak X Nc scope cl s3.heap.objs.size s3 (upd H s.heap.objs.size (.lst [])) fp) [] (zaU sub Y) H' s8/\tn i s8.heap/\(∀ b ∈ fp,H' b = none)/\W i m xs H':=fun {Y8 H8 ys s8} I8 k8 n8=>by
    obtain ⟨m',hm,w8⟩:=hN ys H8 n8
    refine ⟨m',hm,i + 1,ys,H8,?_,T.keep _ _ _ st7 fun b hb o e=>(I8.pin (b,o) (YAq _ (YAq _ (zaS hb e)))).1,fun b hb=>?_,w8⟩
    .refine I8.unpinned.weak ?_ fun k v e=>?_
     .rw [I8.len];exact (zdn sub Y).trans hS.len
     .obtain ⟨j,e1,_⟩:=zcK e
      rw [k8 k j e1];exact e
    .obtain ⟨o,e,d⟩:=T.obj _ _ st7 b hb
     exact (I8.pin (b,o) (YAq _ (YAq _ (zaS hb e)))).2.1
   refine YAa (YA5 (hg cl _ s3 _ fp _ s7 (zaU sub Y) H7 x u _ I7' r7 (gk2 _ _ _ _ (gk _ _ _ _ (step x H7 y7)))) (fun _ s8 ⟨Y8,H8,I8,⟨q8,k8⟩,hga⟩=>?_) fun _ _ z=>False.elim z)
   refine YAa (wpAny_tests_nil ?_)
   refine YAa (YA5 (hI2 cl _ s3 _ fp _ s8 Y8 H8 _ I8 q8) (fun xv s9 h9=>?_) fun _ _ z=>False.elim z)
   refine YAa (YBj (YAa (YDD (hs2 cl s3.heap.objs.size s3 (upd H s.heap.objs.size (.lst [])) fp xv) (YAa (YAR (YA5 h9 (fun itv s10 h10=>?_) fun _ _ z=>False.elim z))))))
   obtain ⟨it2,fp2,tn2,J2,H10,e10,I10,T2,st10,f10,q10⟩:=h10
   subst e10
   refine YAa (wpAny_runOwn (zjY (X:=zak X Nc scope cl s3.heap.objs.size s3 (upd H s.heap.objs.size (.lst [])) fp) hc rfl I10 T2 st10 f10 (hg2 cl _ s3 _ fp) (hga Y rfl) (hi cl _ s3 _ fp) (he cl _ s3 _ fp) q10 fun ys H11 s11 I11 n11=>?_))
   exact YAb ⟨rfl,again I11 k8 n11⟩
 exact codeAny_compStart_list (loop _ rfl) (T.self _ 0 _ _ _ st4 (loop _ rfl))
def zkS   (hc:X.calm = true) (hN:X.N.Nodup) (hiN:X.N[i]? = some y) (hy:X.env.scope.names.lookup y = some .local) (hS:CompScope X.N X.env.scope scope Nc sub) (hI:PI X tg iter wi)
  (hg:∀ cl L s0 H0 ex,PG (zak X Nc scope cl L s0 H0 ex) tg g) (gk:zea sub g) (hI2:∀ cl L s0 H0 ex,PI (zak X Nc scope cl L s0 H0 ex) tg2 iter2 wi2) (hg2:∀ cl L s0 H0 ex,PG (zak X Nc scope cl L s0 H0 ex) tg2 g2) (gk2:znD sub g g2) (hs2:∀ cl L s0 H0 ex x,foldedSetIterable iter2 (zak X Nc scope cl L s0 H0 ex).env x = pure x) (gm:zdP g)
  (hi:∀ cl L s0 H0 ex,PIfs (zak X Nc scope cl L s0 H0 ex) ifs tc) (he:∀ cl L s0 H0 ex,PE (zak X Nc scope cl L s0 H0 ex) elt te)
  (hsw:swapsWith (.ListComp elt [⟨tg,iter,[],0⟩,⟨tg2,iter2,ifs,0⟩] scope pos) (some (.Name y py)) spos.line X.env = pure true:=by rfl)
  (hs:∀ x,foldedSetIterable iter X.env x = pure x:=by intro _;rfl):PS X (.Assign [.Name y py] (.ListComp elt [⟨tg,iter,[],0⟩,⟨tg2,iter2,ifs,0⟩] scope pos) spos) (tAsg (zkj sub wi g wi2 g2 tc te) (zco i)):=by
 intro O s Y H D I h
 obtain ⟨cl,hcl0,hcl,hcl2⟩:=zbi (zcQ I hS)
 rw [exec_Assign_Name_used _ _ _ _ hsw]
 refine YAa (YBj (YAa ?_))
 show wpAny _ X.A (do let _ <- comprehension (.ListComp elt [⟨tg,iter,[],0⟩,⟨tg2,iter2,ifs,0⟩] scope pos) scope X.env _ (newList []) false (eval iter X.env) (some (assign (.Name y py) X.env))) _ _ s
 refine YAa (YA5 (YCk (use:=some (assign (.Name y py) X.env)) (Q:=fun _ s'=>SP X O D .next s') rfl hs hcl0 hS.kind hS.names
  (thn (hI O s Y H _ I h) fun xv s1 h1=>thn h1 fun itv s2 h2=>?_)) (fun _ s' hq=>YAb (YAb hq)) fun _ _ e=>e)
 obtain ⟨it,fp,tn,J,H2,e,I2,T,st2,f2,q⟩:=h2
 subst e
 refine zjA hc I2 hS hcl hcl2 T st2 f2 hg gk hI2 hg2 gk2 hs2 hi he gm q fun l C H' s' m I' q' hn hC hfr=>?_
 have nL:C ≠ X.env.locals:=YA0 (YAu I2.lt hC)
 show wpAny _ X.A (assign (.Name y py) X.env (.ref l)) _ _ _
 refine YDq (zeH I' hN hiN (.inl hy) (v:=.ref l) rfl (fun s6 I6 ⟨a,sb6,ha⟩=>?_) (.inr hy))
 have nA:C ≠ a:=fun z=>by
  rcases ha with e | e
  .exact nL (z.trans e)
  .obtain ⟨v,w⟩:=I2.cell y a e
   exact absurd (YAu w.lt (by rw [<- z];exact hC)) (YA9 _)
 refine ⟨m,hn.sameBut sb6 nA,fun h' sb=>?_⟩
 refine ⟨_,H',I6.turned (it:=C) (t':=s6.toks) (fun b o hb e=>(sb.2 b hb).trans e) hfr nL (.inr (YAZ I2.sz hC)) (fun x c e z=>by
  obtain ⟨v,w⟩:=I2.cell x c e
  exact absurd (YAu w.lt (by rw [z];exact hC)) (YA9 _)) (fun p hp z=>
  absurd (YAu (YAp (I2.pin p hp).1) (by rw [z];exact hC)) (YA9 _)),q'⟩
end
end L2
set_option maxHeartbeats 1000000
namespace L2
open PySem
def Up (xs:Array Nat):Prop:=xs.toList.Pairwise (· < ·)
def Up.lt {xs:Array Nat} (h:Up xs) {i j a b:Nat} (hij:i < j) (ha:xs[i]? = some a) (hb:xs[j]? = some b):a < b:=by
 obtain ⟨h1,e1⟩:=YBE.mp ha
 obtain ⟨h2,e2⟩:=YBE.mp hb
 have:=YA1.mp h i j (by simpa using h1) (by simpa using h2) hij
 simp only [YC0] at this
 omega
def zld (xs:Array Nat) (j:Nat) (hu:Up xs):∀ (fuel lo hi:Nat),hi - lo <= fuel->lo <= hi->hi <= xs.size->(∀ i a,i < lo->xs[i]? = some a->a < j)->(∀ i a,hi <= i->xs[i]? = some a->j <= a) ->
  SetTable.below.go xs j fuel lo hi <= xs.size/\(∀ i a,i < SetTable.below.go xs j fuel lo hi->xs[i]? = some a->a < j)/\(∀ i a,SetTable.below.go xs j fuel lo hi <= i->xs[i]? = some a->j <= a):=by
 intro fuel
 induction fuel with
 | zero=>
  intro lo hi h1 h2 h3 h4 h5
  have e:lo = hi:=by omega
  subst e
  unfold SetTable.below.go
  exact ⟨h3,h4,h5⟩
 | succ fuel ih=>
  intro lo hi h1 h2 h3 h4 h5
  unfold SetTable.below.go
  by_cases hl:lo < hi
  .rw [if_pos hl]
   have hm:(lo + hi) / 2 < hi:=by omega
   have hm2:lo <= (lo + hi) / 2:=by omega
   have hs:(lo + hi) / 2 < xs.size:=by omega
   have hg:xs[(lo + hi) / 2]? = some xs[(lo + hi) / 2]:=YAM hs
   have hd:xs.getD ((lo + hi) / 2) j = xs[(lo + hi) / 2]:=by simp [Array.getD,hs]
   dsimp only
   rw [hd]
   by_cases hc:xs[(lo + hi) / 2] < j
   .rw [if_pos hc]
    refine ih _ _ (by omega) (by omega) h3 (fun i a hi' ha=>?_) h5
    by_cases e:i = (lo + hi) / 2
    .subst e;rw [hg] at ha;cases ha;exact hc
    .have:=hu.lt (show i < (lo + hi) / 2 by omega) ha hg
     omega
   .rw [if_neg hc]
    refine ih _ _ (by omega) hm2 (by omega) h4 (fun i a hi' ha=>?_)
    by_cases e:i = (lo + hi) / 2
    .subst e;rw [hg] at ha;cases ha;omega
    .have:=hu.lt (show (lo + hi) / 2 < i by omega) hg ha
     omega
  .rw [if_neg hl]
   have e:lo = hi:=by omega
   subst e
   exact ⟨h3,h4,h5⟩
def zfH (hu:Up xs) (j:Nat):SetTable.below xs j <= xs.size/\(∀ i a,i < SetTable.below xs j->xs[i]? = some a->a < j)/\(∀ i a,SetTable.below xs j <= i->xs[i]? = some a->j <= a):=by
 unfold SetTable.below
 exact zld xs j hu xs.size 0 xs.size (by omega) (by omega) (YAl _) (fun i a h=>absurd h (Nat.not_lt_zero _)) (fun i a h e=>by
  obtain ⟨h1,_⟩:=YBE.mp e
  omega)
def ziF {xs:Array Nat} (hu:Up xs) {i a:Nat} (h:xs[i]? = some a):SetTable.below xs (a + 1) = i + 1:=by
 obtain ⟨h1,h2,h3⟩:=zfH hu (a + 1)
 obtain ⟨hi,_⟩:=YBE.mp h
 have c1:¬ SetTable.below xs (a + 1) <= i:=fun z=>by have:=h3 i a z h;omega
 have c2:¬ i + 1 < SetTable.below xs (a + 1):=fun z=>by
  have hs:i + 1 < xs.size:=by omega
  have e2:xs[i + 1]? = some xs[i + 1]:=YAM hs
  have:=h2 (i + 1) _ z e2
  have:=hu.lt (YBp i) h e2
  omega
 omega
def ziX (xs:Array Nat) (hu:Up xs):SetTable.below xs 0 = 0:=by
 obtain ⟨h1,h2,_⟩:=zfH hu 0
 by_cases h:0 < SetTable.below xs 0
 .have hs:0 < xs.size:=by omega
  have:=h2 0 _ h (YAM hs)
  omega
 .omega
structure TabOk (led:Bool) (t:SetTable):Prop where
 up:Up t.place
 nod:t.dummies = #[]
 led:t.led = led
theorem TabOk.fresh (f m:Nat) (led:Bool):TabOk led (SetTable.fresh f m led):=⟨by simp [Up,SetTable.fresh],rfl,rfl⟩
theorem TabOk.standIn {led:Bool} {t:SetTable} (h:TabOk led t) (n:Nat):TabOk led (t.standIn n):=
 ⟨by simp only [Up,SetTable.standIn,Array.toList_range];exact List.pairwise_lt_range,rfl,h.led⟩
theorem TabOk.orStandIn {led:Bool} {t:SetTable} (h:TabOk led t) (n:Nat):TabOk led (t.orStandIn n):=by
 unfold SetTable.orStandIn
 split
 .exact h
 .exact h.standIn n
def TabOk.plainOff {led:Bool} {t:SetTable} (h:TabOk led t):TabOk led { t with plain:=false }:=⟨h.up,h.nod,h.led⟩
def zkQ (j:Nat):SetTable.has #[] j = false:=by simp [SetTable.has]
theorem TabOk.put {led:Bool} {t:SetTable} (h:TabOk led t) {j:Nat} (hj:t.place[SetTable.below t.place j]? ≠ some j):TabOk led (t.put j).1:=by
 refine ⟨?_,?_,h.led⟩
 .show (SetTable.insertAt t.place (SetTable.below t.place j) j).toList.Pairwise (· < ·)
  rw [SetTable.toList_insertAt]
  obtain ⟨h1,h2,h3⟩:=zfH h.up j
  have e:=YB6 (SetTable.below t.place j) t.place.toList
  have hp:(t.place.toList.take (SetTable.below t.place j) ++ t.place.toList.drop (SetTable.below t.place j)).Pairwise (· < ·):=by rw [e];exact h.up
  obtain ⟨p1,p2,p3⟩:=YBN.mp hp
  have lo:∀ a ∈ t.place.toList.take (SetTable.below t.place j),a < j:=fun a ha=>by
   obtain ⟨i,hi,e⟩:=List.mem_take_iff_getElem.mp ha
   exact h2 i a (by omega) (by rw [<- e];simp only [YC0];exact YAM _)
  have hi:∀ a ∈ t.place.toList.drop (SetTable.below t.place j),j < a:=fun a ha=>by
   obtain ⟨i,hi,e⟩:=List.mem_drop_iff_getElem.mp ha
   have hs:SetTable.below t.place j + i < t.place.size:=by simp at hi;omega
   have ea:t.place[SetTable.below t.place j + i]? = some a:=by rw [<- e];simp only [YC0];exact YAM _
   have g1:=h3 _ a (Nat.le_add_right _ _) ea
   by_cases z:j = a
   .exfalso
    by_cases z2:i = 0
    .subst z2;rw [Nat.add_zero,<- z] at ea;exact hj ea
    .have hs0:SetTable.below t.place j < t.place.size:=by omega
     have e0:t.place[SetTable.below t.place j]? = some t.place[SetTable.below t.place j]:=YAM hs0
     have g2:=h3 _ _ (YAl _) e0
     have g3:=h.up.lt (show SetTable.below t.place j < SetTable.below t.place j + i by omega) e0 ea
     omega
   .omega
  refine YBN.mpr ⟨p1,YBJ.mpr ⟨hi,p2⟩,fun a ha b hb=>?_⟩
  rcases YAs.mp hb with z | z
  .subst z;exact lo a ha
  .exact p3 a ha b z
 .show (if SetTable.has t.dummies j = true then _ else _) = _
  rw [h.nod,zkQ]
  simp
def zhi (hd:t.dummies = #[]) (f:Nat->Int) (h:Int):∀ (fuel:Nat) (p:SetTable.Probe),p.dummy = none->∀ j d,SetTable.probe.go t f h fuel p = some (.empty j d)->d = none/\t.place[SetTable.below t.place j]? ≠ some j:=by
 intro fuel
 induction fuel with
 | zero=>intro p _ j d e;unfold SetTable.probe.go at e;cases e
 | succ fuel ih=>
  intro p hp j d e
  unfold SetTable.probe.go at e
  have adv:∀ q:SetTable.Probe,q.dummy = none->(t.advance q).dummy = none:=fun q hq=>by
   unfold SetTable.advance
   split
   .exact hq
   .exact hq
  cases hs:t.slot p.j with
  | empty=>
   rw [hs] at e
   injection e with e
   injection e with e1 e2
   subst e1 e2
   refine ⟨hp,fun z=>?_⟩
   unfold SetTable.slot at hs
   simp only [z,beq_self_eq_true,YDO] at hs
   cases hs
  | dummy=>
   exfalso
   unfold SetTable.slot at hs
   rw [hd,zkQ] at hs
   by_cases z:t.place[SetTable.below t.place p.j]? = some p.j
   .simp [z] at hs
   .simp [z] at hs
  | live i=>
   rw [hs] at e
   dsimp only at e
   split at e
   .cases e
   .exact ih _ (adv p hp) j d e
theorem TabOk.layNew {led:Bool} {t:SetTable} (h:TabOk led t) (es:Array (Int × Value)) (hh:Int) (x:Value):TabOk led (PySem.layNew t es hh x).2.1:=by
 unfold PySem.layNew
 cases e:t.freeSlot hh with
 | none=>exact h.standIn _
 | some r=>
  obtain ⟨slot,wd⟩:=r
  unfold SetTable.freeSlot at e
  cases e2:t.probe (fun _=>hh + 1) hh (t.probeStart hh) with
  | none=>rw [e2] at e;cases e
  | some m=>
   rw [e2] at e
   cases m with
   | candidate _ _ _=>cases e
   | empty j d=>
    obtain ⟨z1,z2⟩:=zhi h.nod (fun _=>hh + 1) hh (10 * SetTable.turns t.mask) (t.probeStart hh) rfl j d (by unfold SetTable.probe at e2;exact e2)
    subst z1
    injection e with e
    injection e with e3 e4
    subst e3
    exact (h.put z2).orStandIn _
theorem TabOk.relayAll {led:Bool} {t:SetTable} (h:TabOk led t) (es:Array (Int × Value)) (wanted:Nat):TabOk led (PySem.relayAll t es wanted).2.1:=by
 unfold PySem.relayAll
 cases e:t.relaid (es.map (·.1)) wanted with
 | none=>exact h.standIn _
 | some r=>
  obtain ⟨t',order⟩:=r
  dsimp only
  have ok:TabOk led t':=by
   unfold SetTable.relaid SetTable.laid at e
   cases e1:SetTable.layClean (SetTable.sizeAbove wanted - 1) (es.map (·.1)) with
   | none=>rw [e1] at e;cases e
   | some owner=>
    rw [e1] at e
    injection e with e
    injection e with e2 e3
    subst e2
    refine ⟨?_,rfl,h.led⟩
    show List.Pairwise (· < ·) _
    simp only [List.toList_toArray,List.pairwise_map]
    refine List.Pairwise.filterMap (R:=(· < ·)) _ ?_ List.pairwise_lt_range
    intro a a' haa b hb b' hb'
    simp only [Option.mem_def,Option.map_eq_some_iff] at hb hb'
    obtain ⟨k,_,q⟩:=hb
    obtain ⟨k',_,q'⟩:=hb'
    subst q q'
    exact haa
  split
  .exact ok
  .exact h.standIn _
end L2
namespace L2
open PySem PyProof.Rows
def slot_setiter_next:Slot "set_iterator" "__next__" "set_iterator.__next__":=
 .of (owner := "set_iterator") (n := "__next__") (by rw [typeLookup_type,builtinLookup_eq_fast];kernel_rfl) (by decide +kernel) (by decide +kernel) (by decide +kernel)
  (by first | exact .inl (by decide +kernel) | exact .inr (by decide +kernel)) (by rw [YDW];kernel_rfl)
def zbZ:Slot "set_iterator" "__iter__" "set_iterator.__iter__":=
 .of (owner := "set_iterator") (n := "__iter__") (by rw [typeLookup_type,builtinLookup_eq_fast];kernel_rfl) (by decide +kernel) (by decide +kernel) (by decide +kernel)
  (by first | exact .inl (by decide +kernel) | exact .inr (by decide +kernel)) (by rw [YDW];kernel_rfl)
def zbN:entryFor table "set_iterator.__next__" = some Builtin.«set_iterator.__next__»:=entryFor_of_fast (by kernel_rfl)
def zbU (a:Value):argsOk "set_iterator.__next__" ⟨[a],[]⟩:=by unfold argsOk;kernel_rfl
def ze0:entryFor table "set.__iter__" = some Builtin.«frozenset.__iter__»:=
 YDX (id' := "frozenset.__iter__") (by kernel_rfl) rfl (by decide +kernel) (by kernel_rfl)
def zgd (a:Value):argsOk "set.__iter__" ⟨[a],[]⟩:=by unfold argsOk;kernel_rfl
structure SetRec (w:World) (h:Heap) (a:Addr) (es:Array (Int × Value)) (ep:Nat) (t:SetTable):Prop where
 at_:h.get? a = some { cls:=.type "set",dict:=none,data:=.set es ep t }
 fits:t.fits es.size = true
 tab:TabOk (!w.params.followText "set-order") t
def SetRec.keep    (r:SetRec w h a es ep t) (k:∀ o,h.get? a = some o->h'.get? a = some o):SetRec w h' a es ep t:=⟨k _ r.at_,r.fits,r.tab⟩
def zfz {α:Type} {l:List α} {i:Nat} (h:i < l.length):(l[i] :: l.eraseIdx i).Perm l:=by
 have e:l = l.take i ++ l[i] :: l.drop (i + 1):=by rw [List.getElem_cons_drop,YB6]
 have e2:l.eraseIdx i = l.take i ++ l.drop (i + 1):=List.eraseIdx_eq_take_drop_succ l i
 rw [e2]
 exact List.perm_middle.symm.trans (List.Perm.of_eq e.symm)
def zjE {α:Type} (next:Nat->Nat):∀ (fuel k:Nat) (left:List α) (out:Array α),left.length <= fuel->(pickOrder.go next fuel k left out).toList.Perm (out.toList ++ left):=by
 intro fuel
 induction fuel with
 | zero=>
  intro k left out h
  have e:left = []:=List.eq_nil_of_length_eq_zero (by omega)
  subst e
  unfold pickOrder.go
  rw [YAP]
 | succ fuel ih=>
  intro k left out h
  unfold pickOrder.go
  cases hl:left with
  | nil=>simp
  | cons x r=>
   have hi:next k % (x :: r).length < (x :: r).length:=Nat.mod_lt _ (by simp)
   have e:(x :: r)[next k % (x :: r).length]? = some (x :: r)[next k % (x :: r).length]:=YAd hi
   rw [e]
   dsimp only
   refine (ih _ _ _ (by rw [List.length_eraseIdx,if_pos hi];rw [hl] at h;omega)).trans ?_
   rw [YDv,YAH,List.singleton_append]
   exact (zfz hi).append_left _
def ze5 {α:Type} (next:Nat->Nat) (xs:Array α):(pickOrder next xs).toList.Perm xs.toList:=by
 unfold pickOrder
 have:=zjE next xs.size 0 xs.toList #[] (by simp)
 simpa using this
section
variable {prog:Program} {w:World} {A:Around} {E:Value->Shared->Prop} {s:Shared}
def zgl {M:Model} {src:Source} {n:Nat} {Q:Nat->Shared->Prop} (hn:n ≠ 0) (h:∀ i d,i < n->Q i { s with drawn:=d }):wpAny M A (choose src n) Q E s:=fun _ _ _=>⟨hn,h _ _ (Nat.mod_lt _ (Nat.pos_of_ne_zero hn))⟩
def zeF {α:Type}:∀ (n:Nat) (xs:List α) (s:Shared) {M:Model} {Q:List α->Shared->Prop},xs.length <= n->(∀ ys d,ys.Perm xs->Q ys { s with drawn:=d })->wpAny M A (drawOrder n xs) Q E s:=by
 intro n
 induction n with
 | zero=>
  intro xs s M Q h hq
  have e:xs = []:=List.eq_nil_of_length_eq_zero (by omega)
  subst e
  unfold drawOrder
  exact YAb (hq [] s.drawn (.refl _))
 | succ n ih=>
  intro xs s M Q h hq
  cases xs with
  | nil=>unfold drawOrder;exact YAb (hq [] s.drawn (.refl _))
  | cons x r=>
   unfold drawOrder
   refine YAa (zgl (by simp) fun i d hi=>?_)
   have e:(x :: r)[i]? = some (x :: r)[i]:=YAd hi
   rw [e]
   dsimp only
   refine YAa (ih _ _ (by rw [List.length_eraseIdx,if_pos hi];omega) fun ys d' hp=>YAb ?_)
   exact hq _ d' ((hp.cons _).trans (zfz hi))
def zdC (h:Q (w.params.followText "set-order") s):wpAny (model prog w) A setsByText Q E s:=by
 unfold setsByText
 exact YAa (YCr (YAb h))
variable {a:Addr} {es:Array (Int × Value)} {ep:Nat} {t:SetTable}
def zbK (r:SetRec w s.heap a es ep t) (h:Q (es,ep,t) s):wpAny (model prog w) A (setState a) Q E s:=wpAny_setState_of r.at_ rfl r.fits h
def zgV (r:SetRec w s.heap a es ep t) (ht:w.params.followText "set-order" = true) (h:Q (pickOrder (w.params.setOrder a ep) es) s):wpAny (model prog w) A (setWalk a) Q E s:=by
 unfold setWalk
 refine YAa (zbK r ?_)
 dsimp only
 refine YAa (zdC ?_)
 rw [if_pos ht]
 exact YAa (YCr (YAb h))
def zd4  (r:SetRec w s.heap a es ep t) (ht:w.params.followText "set-order" = true)
  (h:Q (((pickOrder (w.params.setOrder a ep) es)[given]?).map fun e=>(e.2,slot)) s):wpAny (model prog w) A (setNext a slot given ep) Q E s:=by
 unfold setNext
 refine YAa (zbK r ?_)
 dsimp only
 refine YAa (zdC ?_)
 rw [if_pos ht]
 simp only [YCQ,YAK,YBn]
 exact YAa (zgV r ht (YAb h))
def zdi  (r:SetRec w s.heap a es ep t) (ht:w.params.followText "set-order" = false) (hd:(!t.plain && decide (es.size > 1)) = false)
  (h:Q (match es[SetTable.below t.place slot]?,t.place[SetTable.below t.place slot]? with | some (_,x),some j=>some (x,j + 1) | _,_=>none) s):wpAny (model prog w) A (setNext a slot given ep') Q E s:=by
 unfold setNext
 refine YAa (zbK r ?_)
 dsimp only
 refine YAa (zdC ?_)
 rw [if_neg (by rw [ht];exact YAy)]
 show wpAny _ _ (if (!t.plain && decide (es.size > 1)) = true then _ else _) _ _ _
 rw [if_neg (by rw [hd];exact YAy)]
 have hl:t.led = true:=by have:=r.tab.led;rw [ht] at this;exact this
 show wpAny _ _ ((if (!t.led && !es.isEmpty) = true then unsupported "set:maker-not-led" else pure ()) >>= _) _ _ _
 rw [if_neg (by rw [hl];simp)]
 exact YAa (YAb (YAb h))
def zlx (r:SetRec w s.heap a es ep t) (h:Q (!w.params.followText "set-order" && (!t.plain && decide (es.size > 1))) s):wpAny (model prog w) A (setDrawn a) Q E s:=by
 unfold setDrawn
 refine YAa (zbK r ?_)
 dsimp only
 exact YAa (zdC (YAb h))
noncomputable def Goes (w:World) (a p:Addr) (es:Array (Int × Value)) (ep:Nat) (t:SetTable) (first:Value) (ord:List (Int × Value)) (i:Nat) (h:Heap):Prop:=
 (w.params.followText "set-order" = true/\ord = (pickOrder (w.params.setOrder a ep) es).toList/\∃ k tk,first = .int k tk) \/
 (w.params.followText "set-order" = false/\∃ ps n,first = .ref p/\h.get? p = some { cls:=.type "tuple",data:=.seq ps n }/\ps.size = es.size/\ord.length = es.size/\∀ (j:Nat) e,ord[j]? = some e->∃ k:Nat,ps[j]? = some (rawInt k)/\es[k]? = some e) \/
 (w.params.followText "set-order" = false/\(!t.plain && decide (es.size > 1)) = false/\ord = es.toList/\∃ k:Nat,first = rawInt k/\SetTable.below t.place k = i)
structure IterAt (w:World) (h:Heap) (it a p:Addr) (es:Array (Int × Value)) (ep:Nat) (t:SetTable) (ord:List (Int × Value)) (i:Nat):Prop where
 rc:SetRec w h a es ep t
 rec':∃ first,h.get? it = some { cls:=.type "set_iterator",data:=.fields #[first,rawInt i,.ref a,rawInt es.size,rawInt ep] }/\Goes w a p es ep t first ord i h
 len:ord.length = es.size
end
def zi9:¬ (Value.type "set_iterator" = Value.type "set"):=by decide +kernel
def ze3:¬ (Value.type "set_iterator" = Value.type "tuple"):=by decide +kernel
section
variable {prog:Program} {w:World} {A:Around} {E:Value->Shared->Prop} {s:Shared} {it a p:Addr} {es:Array (Int × Value)} {ep:Nat} {t:SetTable} {ord:List (Int × Value)} {i:Nat}
def IterAt.ty (x:IterAt w s.heap it a p es ep t ord i):s.TypeIs (.ref it) "set_iterator" := let ⟨_,e,_⟩:=x.rec';⟨_,e,rfl⟩
def zeC {h h':Heap} {f f':Value} (x:IterAt w h it a p es ep t ord i) (hg':Goes w a p es ep t f' ord (i + 1) h')
  (hs:Heap.SameBut it h h') (e':h'.get? it = some { cls:=.type "set_iterator",data:=.fields #[f',rawInt (i + 1:Nat),.ref a,rawInt es.size,rawInt ep] }):IterAt w h' it a p es ep t ord (i + 1):=by
 have ne:a ≠ it:=fun z=>by
  obtain ⟨f,e,_⟩:=x.rec'
  have q:=x.rc.at_
  rw [z,e] at q
  exact zi9 (congrArg Obj.cls (Option.some.inj q))
 exact ⟨x.rc.keep fun o e=>(hs.2 a ne).trans e,⟨f',e',hg'⟩,x.len⟩
def zeS {e:Int × Value} {Q:Option Value->Shared->Prop} (x:IterAt w s.heap it a p es ep t ord i) (he:ord[i]? = some e)
  (hQ:∀ h',IterAt w h' it a p es ep t ord (i + 1)->Heap.SameBut it s.heap h'->Q (some e.2) { s with heap:=h' }):wpAny (model prog w) A (pyNext (.ref it)) Q E s:=by
 obtain ⟨f,hf,hg⟩:=id x.rec'
 unfold pyNext
 refine YAa (YCI (YA6 (name:=Str.ofString "__next__") x.ty slot_setiter_next
  (YAN slot_setiter_next x.ty zbN ?_ (zbU _))))
 unfold Builtin.«set_iterator.__next__»
 refine YAa (m:=slotArgs "__next__" 0 _) (YAb ?_)
 dsimp only
 refine YAa (YCB hf rfl ?_)
 dsimp only [rawInt]
 refine YAa (YDb x.rc.at_ rfl x.rc.fits ?_)
 simp only [YCQ,YAK,YBn]
 have ei:((i:Int) + 1) = ((i + 1:Nat):Int):=by omega
 rcases hg with ⟨ht,ho,k,tk,rfl⟩ | ⟨ht,ps,n,rfl,hp,hz,hl,hP⟩ | ⟨ht,hd,ho,k,rfl,hb⟩
 .dsimp only
  simp only [YAE]
  refine YAa (zd4 x.rc ht ?_)
  have e1:(pickOrder (w.params.setOrder a ep) es)[i]? = some e:=by rw [<- YBI,<- ho];exact he
  rw [e1]
  dsimp only [Option.map]
  refine YAa (YBk hf (by simp) fun h1 e1 s1=>?_)
  refine YAa (YBk (s:={ s with heap:=h1 }) e1 (by simp) fun h2 e2 s2=>?_)
  refine YAb ⟨e.2,rfl,YAb (hQ h2 (zeC (f:=.int k tk) (f':=.int (k.toNat:Nat) 0) x (.inl ⟨ht,ho,_,_,rfl⟩) (s1.trans s2) ?_) (s1.trans s2))⟩
  rw [e2,ei];rfl
 .dsimp only
  refine YAa (YCC hp rfl ?_)
  obtain ⟨k,e1,e2⟩:=hP i e he
  simp only [YAE,e1,rawInt]
  refine YAa ?_
  unfold setNextDrawn
  refine YAa (zbK x.rc ?_)
  simp only [YCQ,YAK,YBn,e2]
  refine YAb ?_
  refine YAa (YBk hf (by simp) fun h2 e2 s2=>?_)
  have nep:p ≠ it:=fun z=>by rw [z,hf] at hp;exact ze3 (congrArg Obj.cls (Option.some.inj hp))
  refine YAb ⟨e.2,rfl,YAb (hQ h2 (zeC (f:=.ref p) (f':=.ref p) x (.inr (.inl ⟨ht,ps,n,rfl,(s2.2 p nep).trans hp,hz,hl,hP⟩)) s2 ?_) s2)⟩
  rw [e2,ei];rfl
 .dsimp only [rawInt]
  simp only [YAE]
  refine YAa (zdi x.rc ht hd ?_)
  have e1:es[i]? = some e:=by rw [<- YBI,<- ho];exact he
  have hi:i < es.size:=(YBE.mp e1).1
  have hps:t.place.size = es.size:=by
   have:=x.rc.fits
   simp only [SetTable.fits,YAX,beq_iff_eq,YCj] at this
   exact this.1
  have e3:t.place[i]? = some t.place[i]:=YAM (by omega)
  rw [hb,e1,e3]
  dsimp only
  refine YAa (YBk hf (by simp) fun h1 e1 s1=>?_)
  refine YAa (YBk (s:={ s with heap:=h1 }) e1 (by simp) fun h2 e2 s2=>?_)
  refine YAb ⟨e.2,rfl,YAb (hQ h2 (zeC (f:=rawInt k) (f':=rawInt (t.place[i] + 1:Nat)) x (.inr (.inr ⟨ht,hd,ho,t.place[i] + 1,rfl,ziF x.rc.tab.up e3⟩)) (s1.trans s2) ?_) (s1.trans s2))⟩
  rw [e2,ei];rfl
def zfN {s1:Shared} {A':Around} {Q:Option Value->Shared->Prop} (hh:A'.handled = none) (h:∀ h',(∀ b o,s1.heap.get? b = some o->h'.get? b = some o)->Q none { s1 with heap:=h' }) {R:Fin->Shared->Prop} :
  wpAny (model prog w) A' (do let x <- newExc (Value.type "StopIteration") [];raiseNew x:Sem Fin) R (fun e s'=>wpAny (model prog w) A (do
     let b <- isInstance e (Value.type "StopIteration")
     if b = true then pure none else throw e) Q E s') s1:=by
 refine YAa ?_
 simp only [newExc,newTuple]
 refine YAa (YAG ?_ (by size_fits))
 refine YAa (m:=firstArgMember _ _) (YDD (a:=Value.none) (by first | rfl | (simp only [firstArgMember];rfl)) ?_)
 refine YAG ?_ (by size_fits)
 simp only [raiseNew]
 refine YAa (wpAny_handled ?_)
 rw [hh]
 refine YAa (YAb (wpAny_throw ?_))
 refine YAa (YBD (T := "StopIteration") (b:=true) ⟨_,YAo _ rfl,rfl⟩ YDY ?_)
 exact YAb (h _ fun b o e=>YAe _ (YAe _ e))
def ze6 {Q:Option Value->Shared->Prop} (hh:A.handled = none) (x:IterAt w s.heap it a p es ep t ord i) (he:i = es.size)
  (hQ:∀ h',(∀ b o,b ≠ it->s.heap.get? b = some o->h'.get? b = some o)->Q none { s with heap:=h' }):wpAny (model prog w) A (pyNext (.ref it)) Q E s:=by
 obtain ⟨f,hf,hg⟩:=id x.rec'
 unfold pyNext
 refine YAa (YCI (YA6 (name:=Str.ofString "__next__") x.ty slot_setiter_next
  (YAN slot_setiter_next x.ty zbN ?_ (zbU _))))
 unfold Builtin.«set_iterator.__next__»
 refine YAa (m:=slotArgs "__next__" 0 _) (YAb ?_)
 dsimp only
 refine YAa (YCB hf rfl ?_)
 dsimp only [rawInt]
 refine YAa (YDb x.rc.at_ rfl x.rc.fits ?_)
 simp only [YCQ,YAK,YBn]
 rcases hg with ⟨ht,ho,k,tk,rfl⟩ | ⟨ht,ps,n,rfl,hp,hz,hl,hP⟩ | ⟨ht,hd,ho,k,rfl,hb⟩
 .dsimp only
  simp only [YAE]
  refine YAa (zd4 x.rc ht ?_)
  have e1:(pickOrder (w.params.setOrder a ep) es)[i]? = none:=by
   rw [<- YBI,<- ho]
   exact YCc.mpr (by rw [x.len];omega)
  rw [e1]
  dsimp only [Option.map]
  refine YAa (YBk hf (by simp) fun h1 e1 s1=>?_)
  exact zfN (A':=A.in1) (s1:={ s with heap:=h1 }) hh fun h' k=>hQ h' fun b o nb e=>k b o ((s1.2 b nb).trans e)
 .dsimp only
  refine YAa (YCC hp rfl ?_)
  have e1:ps[i]? = none:=by simp;omega
  simp only [YAE,e1]
  refine YAa (YBk hf (by simp) fun h1 e1 s1=>?_)
  refine YAa (YBk (s:={ s with heap:=h1 }) e1 (by simp) fun h2 e2 s2=>?_)
  exact zfN (A':=A.in1) (s1:={ s with heap:=h2 }) hh fun h' k=>hQ h' fun b o nb e=>k b o (((s1.trans s2).2 b nb).trans e)
 .dsimp only [rawInt]
  simp only [YAE]
  refine YAa (zdi x.rc ht hd ?_)
  have e1:es[i]? = none:=by simp;omega
  rw [hb,e1]
  dsimp only
  refine YAa (YBk hf (by simp) fun h1 e1 s1=>?_)
  exact zfN (A':=A.in1) (s1:={ s with heap:=h1 }) hh fun h' k=>hQ h' fun b o nb e=>k b o ((s1.2 b nb).trans e)
def zi5 (r:SetRec w s.heap a es ep t) (hz:es.size <= sizeLine)
  (hQ:∀ it p h' d ord,s.heap.objs.size <= it->(p = a\/s.heap.objs.size <= p)->(∀ b o,s.heap.get? b = some o->h'.get? b = some o)->ord.Perm es.toList->IterAt w h' it a p es ep t ord 0->Q (.ref it) { s with heap:=h',drawn:=d }) :
  wpAny (model prog w) A (pyIter (.ref a)) Q E s:=by
 have hT:s.TypeIs (.ref a) "set" := ⟨_,r.at_,rfl⟩
 refine YCy hT F.slot_set_iter (YAN F.slot_set_iter hT ze0 ?_ (zgd _))
 unfold Builtin.«frozenset.__iter__» Builtin.Frozenset.slot0
 refine YAa (YAa (m:=slotArgs "__iter__" 0 _) (YAb ?_))
 dsimp only
 unfold Builtin.Frozenset.addrOf
 refine YAb ?_
 refine YAa (m:=Builtin.Frozenset.sizeOf a) ?_
 unfold Builtin.Frozenset.sizeOf
 refine YAa (YDb r.at_ rfl r.fits (YAb ?_))
 refine YAa (zlx r ?_)
 by_cases hdr:(!w.params.followText "set-order" && (!t.plain && decide (es.size > 1))) = true
 .rw [if_pos hdr]
  have ht:w.params.followText "set-order" = false:=by
   rw [YAX] at hdr
   simpa using hdr.1
  refine YAa (zeF es.size (List.range es.size) s (by simp) fun ys d hp=>?_)
  have hyl:ys.length = es.size:=by rw [hp.length_eq];simp
  refine YAa (wpAny_newTuple ?_ (by rw [YAc,hyl];exact hz))
  refine YAa (m:=setEpoch a) ?_
  unfold setEpoch
  have r1:SetRec w (s.heap.push { cls:=.type "tuple",data:=.seq (ys.map fun (i:Nat)=>rawInt i).toArray }) a es ep t:=r.keep fun o e=>YAe _ e
  refine YAa (zbK (s:={ s with heap:=s.heap.push { cls:=.type "tuple",data:=.seq (ys.map fun (i:Nat)=>rawInt i).toArray },drawn:=d }) r1 (YAb ?_))
  refine YAa (YAG ?_ (by size_fits))
  refine YAb ⟨_,rfl,"set_iterator",_,⟨_,YAo _ rfl,rfl⟩,slot_setiter_next.lookup,?_⟩
  refine hQ _ s.heap.objs.size _ d (ys.filterMap fun j=>es[j]?) ?_ (.inr (YAl _)) (fun b o e=>YAe _ (YAe _ e)) ?_ ?_
  .show s.heap.objs.size <= (s.heap.push _).objs.size
   rw [YBm];omega
  .exact (hp.filterMap _).trans (List.Perm.of_eq (filterMap_getElem?_range es))
  .have all:∀ j ∈ ys,∃ e,es[j]? = some e:=fun j hj=>by
    have:=hp.mem_iff.mp hj
    exact ⟨_,YAM (YAW.mp this)⟩
   have key:∀ (l:List Nat),(∀ j ∈ l,∃ e,es[j]? = some e)->(l.filterMap fun j=>es[j]?).length = l.length/\∀ (k:Nat) e,(l.filterMap fun j=>es[j]?)[k]? = some e->∃ j,l[k]? = some j/\es[j]? = some e:=by
    intro l
    induction l with
    | nil=>intro _;exact ⟨rfl,fun k e h=>by simp at h⟩
    | cons j r ih=>
     intro h
     obtain ⟨e0,he0⟩:=h j YAi
     obtain ⟨i1,i2⟩:=ih fun j hj=>h j (YAn _ hj)
     rw [List.filterMap_cons_some (b:=e0) he0]
     refine ⟨by rw [YA2,YA2,i1],fun k e hk=>?_⟩
     cases k with
     | zero=>simp at hk;subst hk;exact ⟨j,rfl,he0⟩
     | succ k=>simpa using i2 k e (by simpa using hk)
   obtain ⟨k1,k2⟩:=key ys all
   refine ⟨r1.keep fun o e=>YAe _ e,⟨_,YAo _ rfl,.inr (.inl ⟨ht,_,_,rfl,YAe _ (YAo _ rfl),by simp [hyl],by rw [k1];exact hyl,fun j e hj=>?_⟩)⟩,by rw [k1];exact hyl⟩
   obtain ⟨k,e1,e2⟩:=k2 j e hj
   exact ⟨k,by simp [e1],e2⟩
 .rw [if_neg hdr]
  refine YAa (YAb ?_)
  refine YAa (m:=setEpoch a) ?_
  unfold setEpoch
  refine YAa (zbK r (YAb ?_))
  refine YAa (YAG ?_ (by size_fits))
  refine YAb ⟨_,rfl,"set_iterator",_,⟨_,YAo _ rfl,rfl⟩,slot_setiter_next.lookup,?_⟩
  cases ht:w.params.followText "set-order" with
  | true=>
   have hp:=ze5 (w.params.setOrder a ep) es
   refine hQ _ a _ s.drawn (pickOrder (w.params.setOrder a ep) es).toList (YAl _) (.inl rfl) (fun b o e=>YAe _ e) hp ?_
   exact ⟨r.keep fun o e=>YAe _ e,⟨_,YAo _ rfl,.inl ⟨ht,rfl,_,_,rfl⟩⟩,by rw [hp.length_eq];simp⟩
  | false=>
   have hd:(!t.plain && decide (es.size > 1)) = false:=by rw [ht] at hdr;simpa using hdr
   refine hQ _ a _ s.drawn es.toList (YAl _) (.inl rfl) (fun b o e=>YAe _ e) (.refl _) ?_
   exact ⟨r.keep fun o e=>YAe _ e,⟨_,YAo _ rfl,.inr (.inr ⟨ht,hd,rfl,0,rfl,ziX _ r.tab.up⟩)⟩,by simp⟩
end
theorem zaQ:∀ {ks xs:List Int},ks.Nodup->(∀ x ∈ ks,x ∈ xs)->ks.length <= xs.length
 | [],_,_,_=>YAD _
 | k :: r,xs,nd,h=>by
  obtain ⟨n1,n2⟩:=YBb.mp nd
  have hk:k ∈ xs:=h k YAi
  have ih:=zaQ (xs:=xs.erase k) n2 fun x hx=>(List.mem_erase_of_ne (show x ≠ k from fun z=>n1 (z ▸ hx))).mpr (h x (YAn _ hx))
  rw [List.length_erase_of_mem hk] at ih
  have:0 < xs.length:=YCM hk
  rw [YA2]
  omega
def keyV:Value->Int
 | .int k _=>k
 | _=>0
def keys (es:Array (Int × Value)):List Int:=es.toList.map fun e=>keyV e.2
def AllInt (es:Array (Int × Value)):Prop:=∀ e ∈ es.toList,∃ k t,e = (hashInt k,Value.int k t)
structure SetInts (w:World) (h:Heap) (a:Addr) (xs:List Int):Prop where
 ex:∃ es ep t,SetRec w h a es ep t/\AllInt es/\es.size < scanBound/\(keys es).Nodup/\∀ k,k ∈ keys es ↔ k ∈ xs
theorem SetInts.keep   (r:SetInts w h a xs) (k:∀ o,h.get? a = some o->h'.get? a = some o):SetInts w h' a xs:=
 let ⟨es,ep,t,r1,r2⟩:=r.ex
 ⟨es,ep,t,r1.keep k,r2⟩
def AllInt.elems  (h:AllInt es):ElemsOf (intKind prog w) es.toList:=fun e he=>by
 obtain ⟨k,t,rfl⟩:=h e he
 exact ⟨⟨k,YCR _ _ _ _,rfl⟩,rfl⟩
def AllInt.perm (h:AllInt es) (p:es'.toList.Perm es.toList):AllInt es':=fun e he=>h e (p.mem_iff.mp he)
def mem_keys  (h:AllInt es) (k:Int):k ∈ keys es ↔ ∃ e ∈ es.toList,(intKind prog w).is k e.2 = true:=by
 unfold keys
 rw [YAB]
 constructor
 .rintro ⟨e,he,rfl⟩
  obtain ⟨k,t,rfl⟩:=h e he
  exact ⟨_,he,YCR _ _ _ _⟩
 .rintro ⟨e,he,q⟩
  obtain ⟨k',t,rfl⟩:=h e he
  exact ⟨_,he,((intKind prog w).inj _ _ _ q (YCR _ _ _ _)).symm⟩
section
variable {prog:Program} {w:World} {A:Around} {E:Value->Shared->Prop} {s:Shared} {a:Addr}
def zgz   (r:SetRec w h a es ep t) (hf:t'.fits es'.size = true) (ht:TabOk (!w.params.followText "set-order") t') :
  SetRec w (h.update a (Obj.putSet es' t')) a es' (ep + 1) t':=by
 refine ⟨?_,hf,ht⟩
 have q:=YAI (Obj.putSet es' t') r.at_ (by rw [putSet_of es' t' rfl];rfl)
 rw [putSet_of es' t' rfl] at q
 exact q
def zfs   (r:SetInts w s.heap a xs) (hr:xs.length + 1 < scanBound)
  (h:∀ b h',Heap.SameBut a s.heap h'->SetInts w h' a (k :: xs)->Q b { s with heap:=h' }):wpAny (model prog w) A (setAddHashed a (.int k tk) (hashInt k)) Q E s:=by
 obtain ⟨es,ep,t,r1,ai,hb,nd,hm⟩:=r.ex
 have hkey:(intKind prog w).is k (.int k tk) = true:=YCR _ _ _ _
 have hlen:es.size <= xs.length:=by
  have e1:es.size = (keys es).length:=by unfold keys;simp
  rw [e1]
  exact zaQ nd fun x hx=>(hm x).mp hx
 unfold setAddHashed setAddHashedIn
 refine YAR (YAa (zbK r1 ?_))
 dsimp only
 rw [byScan_of (knd:=intKind prog w) rfl hb ai.elems]
 simp only [↓reduceIte]
 unfold setAddByScan
 refine YAa (YAa (YBT ?_))
 refine YAa (wpAny_setScan_of (knd:=intKind prog w) hkey r1.at_ rfl r1.fits ai.elems ?_)
 cases hr2:List.findIdx? (fun e=>(intKind prog w).is k e.2) es.toList with
 | some j=>
  dsimp only
  obtain ⟨hj,hpj,_⟩:=List.findIdx?_eq_some_iff_getElem.mp hr2
  have hk:k ∈ xs:=(hm k).mp ((mem_keys (prog:=prog) (w:=w) ai k).mpr ⟨_,YCs hj,hpj⟩)
  refine YAb (YAb ?_)
  exact h _ s.heap (Heap.SameBut.refl a s.heap) ⟨es,ep,t,r1,ai,hb,nd,fun k'=>by
   rw [hm k',YAs]
   exact ⟨.inr,fun z=>z.elim (fun e=>e ▸ hk) id⟩⟩
 | none=>
  dsimp only
  have hk:k ∉ keys es:=fun hk=>by
   obtain ⟨e,he,q⟩:=(mem_keys (prog:=prog) (w:=w) ai k).mp hk
   have:=List.findIdx?_eq_none_iff.mp hr2 e he
   rw [q] at this;cases this
  have hperm:=layNew_perm t es (hashInt k) (.int k tk)
  have hfits:=layNew_fits t es (hashInt k) (.int k tk)
  have htab:=r1.tab.layNew es (hashInt k) (.int k tk)
  have hgw:∀ (b:Bool) {s₁:Shared} {Q':Unit->Shared->Prop},Q' () s₁->wpAny (model prog w) A (match b with | true=>rule "set.scan.the-table-gave-way" | false=>pure ()) Q' E s₁:=
   fun b s₁ Q' hq=>by cases b <;> first | exact YAb hq | exact YBT hq
  show wpAny (model prog w) A (match layNew t es (hashInt k) (.int k tk) with | _=>_) _ _ _
  generalize layNew t es (hashInt k) (.int k tk) = L at hperm hfits htab ⊢
  obtain ⟨es1,t1,wd,gave⟩:=L
  dsimp only at hperm hfits htab ⊢
  rw [YDv] at hperm
  have ai1:AllInt es1:=fun e he=>by
   rcases YAm.mp (hperm.mem_iff.mp he) with z | z
   .exact ai e z
   .rw [YAg] at z;exact ⟨k,tk,z⟩
  have kp:(keys es1).Perm (keys es ++ [k]):=by
   have:=hperm.map fun e:Int × Value=>keyV e.2
   rw [YAv] at this
   exact this
  have hz1:es1.size = es.size + 1:=by
   have:=hperm.length_eq
   rw [YAw] at this
   simpa using this
  have hb1:es1.size < scanBound:=by omega
  have nd1:(keys es1).Nodup:=kp.nodup_iff.mpr (YBU.mpr ⟨nd,by simp,fun x hx y hy=>by rw [YAg] at hy;subst hy;exact fun z=>hk (z ▸ hx)⟩)
  have hm1:∀ k',k' ∈ keys es1 ↔ k' ∈ k :: xs:=fun k'=>by
   rw [kp.mem_iff,YAm,YAg,YAs,hm k']
   exact or_comm
  refine YAa (hgw _ ?_)
  -- the table as it is stored: plain stays or goes
  have fin:∀ t2:SetTable,t2.fits es1.size = true->TabOk (!w.params.followText "set-order") t2->wpAny (model prog w) A (do
    storeSet a es1 t2
    if (!wd && t2.tooFull) = true then do
      (match (relayAll t2 es1 (SetTable.grown es1.size)).2.2 with | true=>rule "set.scan.the-table-gave-way" | false=>pure ())
      storeSet a (relayAll t2 es1 (SetTable.grown es1.size)).1 (relayAll t2 es1 (SetTable.grown es1.size)).2.1
      pure (some true)
     else pure (some true)) (fun x s'=>wpAny (model prog w) A (match x with | some added=>pure added | none=>setAddHashedIn a (.int k tk) (hashInt k) 99999) Q E s') E s:=fun t2 hf2 ht2=>by
   refine YAa (wpAny_storeSet_of r1.at_ rfl ?_ (YDw hb1))
   have r2:=zgz (es':=es1) (t':=t2) r1 hf2 ht2
   split
   .have hp2:=relayAll_perm t2 es1 (SetTable.grown es1.size)
    have hf3:=relayAll_fits t2 es1 (SetTable.grown es1.size)
    have ht3:=ht2.relayAll es1 (SetTable.grown es1.size)
    generalize relayAll t2 es1 (SetTable.grown es1.size) = R at hp2 hf3 ht3 ⊢
    obtain ⟨es2,t3,gave2⟩:=R
    dsimp only at hp2 hf3 ht3 ⊢
    have hz2:es2.size = es1.size:=by simpa using hp2.length_eq
    have kp2:(keys es2).Perm (keys es1):=hp2.map _
    refine YAa (hgw _ ?_)
    refine YAa (wpAny_storeSet_of (s:={ s with heap:=_ }) r2.at_ rfl ?_ (YDw (by omega)))
    refine YAb (YAb ?_)
    exact h _ _ ((YBs ..).trans (YBs ..)) ⟨es2,_,t3,zgz r2 hf3 ht3,ai1.perm hp2,by omega,kp2.nodup_iff.mpr nd1,fun k'=>(kp2.mem_iff).trans (hm1 k')⟩
   .refine YAb (YAb ?_)
    exact h _ _ (YBs ..) ⟨es1,_,t2,r2,ai1,hb1,nd1,hm1⟩
  split
  .refine YAa ?_
   rw [hashByValue_scannable 8 rfl]
   refine YAb ?_
   split
   .exact fin t1 hfits htab
   .exact fin _ (SetTable.fits_plain_off hfits) htab.plainOff
  .refine YAa (YAb ?_)
   simp only [↓reduceIte]
   exact fin t1 hfits htab
end
section
variable {prog:Program} {w:World} {A:Around} {R:Result->Shared->Prop} {I S:Addr} {fp wr:List Addr} {n:Nat} {P:Nat->Value->Prop} {St:Nat->Heap->Prop}
def zhL (W:Walks prog w A.in1 I fp wr n P St) (hSf:S ∉ fp) (val:Nat->Int) (hval:∀ i v,P i v->∃ t,v = .int (val i) t) (hb:n + 1 < scanBound) :
  ∀ (k i:Nat) (s:Shared),n - i = k->i <= n->St i s.heap->SetInts w s.heap S ((List.range i).map val).reverse ->
   (∀ h' tk,(∀ b o,b ∉ S :: wr->s.heap.get? b = some o->h'.get? b = some o)->SetInts w h' S ((List.range n).map val).reverse->R (.ok (.ret .none)) { s with heap:=h',toks:=tk }) ->
   codeAny (model prog w) A (.builtin "set.update.loop" ⟨[.ref S,.ref I],[]⟩) R s:=by
 have hSw:S ∉ wr:=fun h=>hSf (W.sub _ h)
 intro k
 induction k with
 | zero=>
  intro i s hk hi hst hS hR
  have hin:i = n:=by omega
  subst hin
  refine YBX PyProof.Rows.F.entry_set_update_loop ?_
  rw [YC1 YBQ _]
  show wpAny _ A.in1 (pyNext (.ref I) >>= _) _ _ s
  refine YAa (W.done s _ _ hst fun h' tk hm=>YAb ?_)
  exact hR h' tk (fun b o hb' e=>hm b o (fun z=>hb' (YAn _ z)) e) (hS.keep fun o e=>hm S o hSw e)
 | succ k ih=>
  intro i s hk hi hst hS hR
  have hlt:i < n:=by omega
  refine YBX PyProof.Rows.F.entry_set_update_loop ?_
  rw [YC1 YBQ _]
  show wpAny _ A.in1 (pyNext (.ref I) >>= _) _ _ s
  refine YAa (W.item i s _ _ hlt hst fun v h1 tk1 hP hst' hm=>?_)
  obtain ⟨t,rfl⟩:=hval i v hP
  show wpAny _ A.in1 (holding [Value.int (val i) t] (setAdd S (.int (val i) t)) >>= _) _ _ _
  refine YAa (YAR ?_)
  unfold setAdd
  refine YAR (YAa ((intKind prog w).pyHash (k:=val i) (YCR _ _ _ _) ?_))
  refine zfs (s:={ s with heap:=h1,toks:=tk1 + 1 }) (xs:=((List.range i).map val).reverse) (hS.keep fun o e=>hm S o hSw e) (by simp;omega) fun b h2 sb hS2=>?_
  refine YAb ⟨YCJ YBQ _,ih (i + 1) _ (by omega) hlt (W.frame _ _ _ hst' fun b hb o e=>(sb.2 b (fun z=>hSf (z ▸ hb))).trans e) ?_ fun h3 tk3 hm3 hS3=>?_⟩
  .rw [YCK,YAv,List.reverse_append]
   exact hS2
  .exact hR h3 tk3 (fun b o hb' e=>hm3 b o hb' ((sb.2 b (fun z=>hb' (z ▸ YAi))).trans (hm b o (fun z=>hb' (YAn _ z)) e))) hS3
end
section
variable {prog:Program} {w:World} {A:Around} {E:Value->Shared->Prop} {s:Shared}
def zgG
  (h:Q₁ (.ref s.heap.objs.size) { s with heap:=s.heap.push { cls:=.type "set",dict:=none,data:=.set #[] 0 (.fresh 0 0 (!w.params.followText "set-order")) } }) :
  codeAny (model prog w) A (.call (.builtin "set.__new__") ⟨[.type "set",a],[]⟩) (wants Q₁ E) s:=by
 refine YDa ?_
 show wpAny _ A.in1 (do checkBuiltinCall "set.__new__" ⟨[.type "set",a],[]⟩;again (.builtin "set.__new__" ⟨[.type "set",a],[]⟩)) _ _ s
 refine YAa (YDD (PySem.F.newCall_set_1 a) (YAb ⟨YCJ PySem.F.plain_set_new _,YBX PySem.F.entry_set_new ?_⟩))
 rw [YC1 PySem.F.plain_set_new _]
 unfold Builtin.«set.__new__» Builtin.Frozenset.newClass
 have hsub:=sub_set_self
 obtain ⟨hp,g,d,tk,os⟩:=s
 dsimp only
 wp_walk
 refine YCr (YAb ?_)
 dsimp only
 simp only [newObj]
 exact YAa (wpAny_alloc (YAb (YAb h)))
def zfg {h:Heap}:SetInts w (h.push { cls:=.type "set",dict:=none,data:=.set #[] 0 (.fresh 0 0 (!w.params.followText "set-order")) }) h.objs.size []:=
 ⟨#[],0,_,⟨YAo _ rfl,by rfl,TabOk.fresh _ _ _⟩,fun e he=>by simp at he,by decide,by simp [keys],fun k=>by simp [keys]⟩
abbrev set0 (led:Bool):Obj:={ cls:=.type "set",dict:=none,data:=.set #[] 0 (.fresh 0 0 led) }
def zg1 {l:Addr} {ns:List Int} {Q:Value->Shared->Prop}
  (hin:∀ (led:Bool) (R:PySem.Fin->Shared->Prop) (E:Value->Shared->Prop),SetInts w (s.heap.push (set0 led)) s.heap.objs.size []->(∀ h' tk,SetInts w h' s.heap.objs.size ns->(∀ b o,s.heap.get? b = some o->h'.get? b = some o)->R (.done (.ret .none)) { s with heap:=h',toks:=tk }) ->
   wpAny (model prog w) A.in1.in1 (Builtin.«set.__init__» ⟨[.ref s.heap.objs.size,.ref l],[]⟩) R E { s with heap:=s.heap.push (set0 led) })
  (h:∀ (h':Heap) (tk:Nat),SetInts w h' s.heap.objs.size ns->(∀ b o,s.heap.get? b = some o->h'.get? b = some o)->Q (.ref s.heap.objs.size) { s with heap:=h',toks:=tk }) :
  wpAny (model prog w) A (call (.type "set") [.ref l]) Q E s:=by
 obtain ⟨c,tl,hmro⟩:=YBy.mro
 have hmade:=YBy.made
 have hsub:=YBy.sub
 refine wpAny_call (YDa ?_)
 show wpAny _ _ (callAny (.type "set") _) _ _ _
 refine YAb ⟨YDk _ (by decide +kernel),YBX PySem.F.entry_type_call ?_⟩
 rw [Around.under_plain (weight_type_call_type "set" [.ref l] []) rfl]
 have h1:=YBy.notType
 have h2:=YBy.canCreate
 have hct:=PySem.F.typeCall_set_1 (.ref l)
 repeat (any_goals (first | assumption | wp_step))
 refine YDg (zgG (a:=.ref l) (E:=E) (Q₁:=fun obj s₁=>obj = .ref s.heap.objs.size/\s₁ = { s with heap:=s.heap.push (set0 (!w.params.followText "set-order")) }) ⟨rfl,rfl⟩) fun r s₁ hr=>?_
 cases r with
 | error e=>exact hr
 | ok fl=>
  cases fl with
  | ret obj=>
   obtain ⟨rfl,rfl⟩:=hr
   have hSI:SetInts w (s.heap.push (set0 (!w.params.followText "set-order"))) s.heap.objs.size []:=zfg
   generalize (!w.params.followText "set-order") = led at hSI ⊢
   have hT:Shared.TypeIs { s with heap:=s.heap.push (set0 led) } (.ref s.heap.objs.size) "set" := ⟨_,YAo _ rfl,rfl⟩
   have hli:=YBy.init.lookup
   have hbi:=YBy.init.bind (.ref s.heap.objs.size)
   repeat (any_goals (first | assumption | wp_step))
   refine YDg (codeAny_call_builtin (R:=wants (fun r s₂=>r = .none/\∃ h' tk,s₂ = { s with heap:=h',toks:=tk }/\SetInts w h' s.heap.objs.size ns/\(∀ b o,s.heap.get? b = some o->h'.get? b = some o)) E)
    YBy.init.plain PySem.F.entry_set_init (check_set_init_1 hT (hin led _ _ hSI fun h' tk a b=>⟨rfl,h',tk,rfl,a,b⟩))) fun r₂ s₂ hr₂=>?_
   cases r₂ with
   | error e=>exact hr₂
   | ok fl₂=>
    cases fl₂ with
    | ret r=>
     obtain ⟨rfl,h',tk,rfl,hS',hk'⟩:=hr₂
     repeat (any_goals (first | assumption | wp_step))
     exact h _ _ hS' hk'
    | _=>exact hr₂.elim
  | _=>exact hr.elim
def zoa (h:Heap) (a b:Obj) (f:b.isFreed = false):((h.push a).push b).get? (h.objs.size + 1) = some b:=by rw [<- YBm h a];exact YAo _ f
def zp7 {items:Array Value} {ns:List Int} (hi:IntsAre items.toList ns):(∀ (i:Nat) (v:Value),items[i]? = some v->∃ t,v = .int (ns.getD i 0) t)/\((List.range items.size).map fun i=>ns.getD i 0) = ns:=
 ⟨fun i v hv=>IntsAre.int_at hi i v (by rw [YBI];exact hv),by
  have hnl:items.size = ns.length:=by rw [<- hi.length];simp
  apply YDH
  .simp [hnl]
  .intro j h1 h2;simp [List.getD,YAd h2]⟩
def zh8 {l:Addr} {items:Array Value} {ns:List Int} {led:Bool} {R:Result->Shared->Prop} {itO:Obj} {St:Nat->Heap->Prop} (hi:IntsAre items.toList ns) (hb:items.size + 1 < scanBound) (hl:l < s.heap.objs.size) (hSI:SetInts w (s.heap.push (set0 led)) s.heap.objs.size [])
  (W:Walks prog w A.in1.in1.in1 (s.heap.objs.size + 1) [s.heap.objs.size + 1,l] [s.heap.objs.size + 1] items.size (fun i v=>items[i]? = some v) St) (st:St 0 ((s.heap.push (set0 led)).push itO))
  (k:∀ h' tk,SetInts w h' s.heap.objs.size ns->(∀ b o,s.heap.get? b = some o->h'.get? b = some o)->R (.ok (.ret .none)) { s with heap:=h',toks:=tk }) :
  codeAny (model prog w) A.in1.in1 (.builtin "set.update.loop" ⟨[.ref s.heap.objs.size,.ref (s.heap.objs.size + 1)],[]⟩) R { s with heap:=(s.heap.push (set0 led)).push itO }:=by
 obtain ⟨hval,hns⟩:=zp7 hi
 refine zhL W (by simp only [YAs,YAT,YB7,not_or];exact ⟨YAt (YBp _),YA0 hl⟩) (fun i=>ns.getD i 0) hval hb (items.size - 0) 0 _ (by omega) (YAD _) st (hSI.keep fun o e=>YAe _ e) fun h' tk hm hS'=>?_
 rw [hns] at hS'
 refine k h' tk ?_ fun b o e=>?_
 .obtain ⟨es,ep,t,q1,q2,q3,q4,q5⟩:=hS'.ex
  exact ⟨es,ep,t,q1,q2,q3,q4,fun k=>by rw [q5 k,YDI]⟩
 .have hb1:=YAp e
  exact hm b o (by simp only [YAs,YAT,YB7,not_or];exact ⟨YAt hb1,YAt (YA8 hb1)⟩) (YAe _ (YAe _ e))
def ze4   (hh:A.handled = none) (hl:s.heap.IsList l items) (hi:IntsAre items.toList ns) (hb:items.size + 1 < scanBound)
  (h:∀ (h':Heap) (tk:Nat),SetInts w h' s.heap.objs.size ns->(∀ b o,s.heap.get? b = some o->h'.get? b = some o)->Q (.ref s.heap.objs.size) { s with heap:=h',toks:=tk }) :
  wpAny (model prog w) A (call (.type "set") [.ref l]) Q E s:=zg1 (fun led R E hSI k=>by
 obtain ⟨⟨ocls,odict,odata,oslots⟩,hol,hcl,nl,hdl⟩:=hl
 simp only at hcl hdl
 subst hcl;subst hdl
 have hol':(s.heap.push (set0 led)).get? l = some { cls:=.type "list",dict:=odict,data:=.seq items nl,slots:=oslots }:=YAe _ hol
 have hsls:=PySem.F.sub_list_set
 have hslf:=PySem.F.sub_list_frozenset
 have hne:(Value.type "list" == Value.type "dict") = false:=by decide
 have hl1:(s.heap.push (set0 led)).IsList l items:=⟨_,hol',rfl,nl,rfl⟩
 unfold Builtin.«set.__init__» noKeywords Builtin.Frozenset.updateFrom
 generalize hPI:pyIter = PI
 wp_walk
 subst hPI
 refine YCg hl1 ?_
 have hlS:l < s.heap.objs.size:=YAp hol
 have hz:(s.heap.push (set0 led)).objs.size = s.heap.objs.size + 1:=YBm _ _
 rw [hz]
 refine YAa (YDn (zh8 hi hb hlS hSI (Walks.list (by simp [hh]) _ l (YAt (YA8 hlS)) items) ⟨⟨_,zoa _ _ _ rfl,rfl,rfl⟩,hl1.push _⟩ fun h' tk a b=>?_))
 exact YAb (YAb (k h' tk a b))) h
end
def zfC:splitId "set.__len__" = some ("set","__len__"):=by decide +kernel
def zdj:entryFor table "set_iterator.__iter__" = some Builtin.«dict_keyiterator.__iter__»:=
 YDX (id' := "dict_keyiterator.__iter__") (by kernel_rfl) rfl (by decide +kernel) (by kernel_rfl)
def zdI (a:Value):argsOk "set_iterator.__iter__" ⟨[a],[]⟩:=by unfold argsOk;kernel_rfl
def IterAt.frame {w:World} {h h':Heap} {it a p:Addr} {es:Array (Int × Value)} {ep:Nat} {t:SetTable} {ord:List (Int × Value)} {i:Nat} (x:IterAt w h it a p es ep t ord i)
  (k:∀ b ∈ [it,a,p],∀ o,h.get? b = some o->h'.get? b = some o):IterAt w h' it a p es ep t ord i:=by
 obtain ⟨f,e,g⟩:=x.rec'
 refine ⟨x.rc.keep fun o e=>k a (by simp) o e,⟨f,k it (by simp) _ e,?_⟩,x.len⟩
 rcases g with g | ⟨ht,ps,n,e1,e2,r⟩ | g
 .exact .inl g
 .exact .inr (.inl ⟨ht,ps,n,e1,k p (by simp) _ e2,r⟩)
 .exact .inr (.inr g)
def zdX {M:Model} {A:Around} {E:Value->Shared->Prop} {s:Shared} {α:Type} {c:Prop} [Decidable c] {x y:Sem α} {Q:α->Shared->Prop} (hc:c) (h:wpAny M A x Q E s):wpAny M A (if c then x else y) Q E s:=by rw [if_pos hc];exact h
def za0 {M:Model} {A:Around} {E:Value->Shared->Prop} {s:Shared} {α:Type} {c:Prop} [Decidable c] {x y:Sem α} {Q:α->Shared->Prop} (hc:¬ c) (h:wpAny M A y Q E s):wpAny M A (if c then x else y) Q E s:=by rw [if_neg hc];exact h
section
variable {prog:Program} {w:World} {A:Around} {E:Value->Shared->Prop} {s:Shared}
def zj2 {it a p:Addr} {es:Array (Int × Value)} {ep:Nat} {t:SetTable} {ord:List (Int × Value)} (hh:A.handled = none) (hl:ord.length = es.size) :
  Walks prog w A it [it,a,p] [it] es.size (fun i v=>∃ e,ord[i]? = some e/\v = e.2) (fun i h=>IterAt w h it a p es ep t ord i) where
 sub:=fun b hb=>by simp at hb;simp [hb]
 frame:=fun i h h' st k=>st.frame k
 item:=fun i s Q E' hi st hQ=>by
  have e:ord[i]? = some ord[i]:=YAd (by omega)
  refine zeS st e fun h' st' sb=>?_
  exact hQ _ h' s.toks ⟨_,e,rfl⟩ st' fun b o hb e=>(sb.2 b (by simpa using hb)).trans e
 done:=fun s Q E' st hQ=>ze6 hh st rfl fun h' k=>hQ h' s.toks fun b o hb e=>k b o (by simpa using hb) e
 self:=fun i s Q E' st hQ=>by
  refine YCy st.ty zbZ (YAN zbZ st.ty zdj ?_ (zdI _))
  show wpAny _ _ (ret (.ref it)) _ _ s
  exact YAb ⟨_,rfl,"set_iterator",_,st.ty,slot_setiter_next.lookup,hQ⟩
theorem zdV:∀ (l:List (Int × Value)),(∀ e ∈ l,∃ k t,e = (hashInt k,Value.int k t))->IntsAre (l.map (·.2)) (l.map fun e=>keyV e.2)
 | [],_=>.nil
 | e :: r,h=>by
  obtain ⟨k,t,rfl⟩:=h e YAi
  exact .cons k t (zdV r fun e he=>h e (YAn _ he))
def zgI {a:Addr} {xs:List Int} {Q:List Value->Shared->Prop} (hh:A.handled = none) (r:SetInts w s.heap a xs)
  (h:∀ vs ns h' d tk,IntsAre vs ns->ns.Nodup->(∀ k,k ∈ ns ↔ k ∈ xs)->(∀ b o,s.heap.get? b = some o->h'.get? b = some o)->s.heap.objs.size < h'.objs.size->Q vs { s with heap:=h',drawn:=d,toks:=tk }) :
  wpAny (model prog w) A (collect (.ref a)) Q E s:=by
 obtain ⟨es,ep,t,r1,ai,hb,nd,hm⟩:=r.ex
 have hz:es.size <= sizeLine:=YDw hb
 unfold collect
 refine YAa (YDn (YBX entry_proto_collect' ?_))
 show wpAny _ _ (do again (.builtin "list.__iadd__" ⟨[<- newList [],.ref a],[]⟩)) _ _ s
 refine YAa (YDE (YAb ⟨YDk _ (by decide +kernel),YBX entry_list_iadd' ?_⟩))
 show wpAny _ A.in1 (Builtin.List.listExtendWith (.ref s.heap.objs.size) (.ref a) (.ref s.heap.objs.size)) _ _ { s with heap:=s.heap.push (seqObj "list" #[] 0) }
 have ra:SetRec w (s.heap.push (seqObj "list" #[] 0)) a es ep t:=r1.keep fun o e=>YAe _ e
 have hTa:Shared.TypeIs { s with heap:=s.heap.push (seqObj "list" #[] 0) } (.ref a) "set" := ⟨_,ra.at_,rfl⟩
 have alt:a < s.heap.objs.size:=YAp r1.at_
 unfold Builtin.List.listExtendWith
 refine YAa (YBG hTa ?_)
 have h1:Builtin.List.listSameRef (.ref s.heap.objs.size) (.ref a) = false:=by simp [Builtin.List.listSameRef,YA0 alt]
 have h2:(Value.type "set" == Value.type "list") = false:=by decide
 have h3:(Value.type "set" == Value.type "tuple") = false:=by decide
 simp only [h1,h2,h3,YC5,YAK,YBn]
 refine YAa (zi5 ra hz fun it p h2 d ord hit hp k2 pm x=>?_)
 have lt2:s.heap.objs.size < it:=YAu (by rw [YBm];exact YBp _) hit
 have hTb:Shared.TypeIs { s with heap:=h2,drawn:=d } (.ref a) "set" := ⟨_,x.rc.at_,rfl⟩
 refine YAa (YAR ?_)
 unfold Builtin.List.listLengthHint
 refine YAa (YBx hTb PySem.F.slot_set_len.lookup ?_)
 dsimp only
 rw [zfC]
 dsimp only
 refine YAa (YBD hTb sub_set_self ?_)
 refine za0 (by decide) ?_
 refine zdX (by decide +kernel) ?_
 refine YAa (YBG hTb ?_)
 refine YAb ?_
 refine zdX (by decide +kernel) ?_
 refine YAa (YBT ?_)
 have hS1:h2.get? s.heap.objs.size = some { cls:=.type "list",data:=.seq #[] }:=k2 _ _ (YAo _ rfl)
 refine YAa ?_
 show wpAny _ A.in1 (updateSeq s.heap.objs.size (·.push .none) >>= fun _=>updateSeq s.heap.objs.size (·.pop)) _ _ _
 refine YAa (YBz (s:={ s with heap:=h2,drawn:=d }) hS1 rfl ?_)
 have hS2:=YAI (Obj.mapSeq (·.push Value.none)) hS1 rfl
 refine YBz (hz:=by seq_fits) hS2 rfl ?_
 have hS3:=YAI (Obj.mapSeq (·.pop)) hS2 rfl
 have oth:∀ b o,b ≠ s.heap.objs.size->h2.get? b = some o->((h2.update s.heap.objs.size (Obj.mapSeq (·.push Value.none))).update s.heap.objs.size (Obj.mapSeq (·.pop))).get? b = some o:=fun b o hb e=>
  (YAU _ _ (Ne.symm hb)).trans ((YAU _ _ (Ne.symm hb)).trans e)
 have nS:s.heap.objs.size ∉ [it,a,p]:=by
  simp only [YAs,YAT,YB7,not_or]
  refine ⟨YAt lt2,YA0 alt,?_⟩
  rcases hp with z | z
  .rw [z];exact YA0 alt
  .exact YAt (YAu (by rw [YBm];exact YBp _) z)
 have W:=(zj2 (prog:=prog) (w:=w) (A:=A.in1) (it:=it) (a:=a) (p:=p) (es:=es) (ep:=ep) (t:=t) (ord:=ord) hh x.len).toS
 have x3:IterAt w ((h2.update s.heap.objs.size (Obj.mapSeq (·.push Value.none))).update s.heap.objs.size (Obj.mapSeq (·.pop))) it a p es ep t ord 0:=x.frame fun b hb o e=>oth b o (fun z=>nS (z ▸ hb)) e
 refine YAb ⟨YCJ YCd _,YCA W hz _ nS _ es.size 0 _ _ _ rfl (YAD _) x3 hS3 (YD0 _) fun s' acc' c' hm' hS' hacc=>?_⟩
 refine YAa (wpAny_load hS' ?_)
 refine YAb ?_
 have ev:acc'.toList = ord.map (·.2):=by
  apply YDH
  .rw [YBW,hacc.1,YAc,x.len]
  .intro j j1 j2
   obtain ⟨e,e1,e2⟩:=hacc.2 j acc'.toList[j] (by rw [<- YBI];exact YAd j1)
   rw [e2,YCE]
   rw [YAd (by simpa using j2)] at e1
   rw [Option.some.inj e1]
 have hord:∀ e ∈ ord,∃ k t,e = (hashInt k,Value.int k t):=fun e he=>ai e (pm.mem_iff.mp he)
 have kp:(ord.map fun e=>keyV e.2).Perm (keys es):=pm.map _
 obtain ⟨hh',g',d',tk',o'⟩:=s'
 have eg:g' = s.gens:=hm'.gens
 have ed:d' = d:=hm'.drawn
 have eo:o' = s.os:=hm'.os
 subst eg ed eo
 refine h acc'.toList (ord.map fun e=>keyV e.2) hh' d' tk' (by rw [ev];exact zdV ord hord) (kp.nodup_iff.mpr nd) (fun k=>(kp.mem_iff).trans (hm k)) (fun b o e=>?_) (YAp hS')
 have hb1:=YAp e
 exact hm'.heap b o (by
  simp only [YAs,YAT,YB7,not_or]
  exact ⟨YAt hb1,YAt (Nat.lt_trans hb1 lt2)⟩) (oth b o (YAt hb1) (k2 b o (YAe _ e)))
def zf1  (hh:A.handled = none) (r:SetInts w s.heap a xs) (h64:xs.length < 64)
  (h:∀ l (out:List Value) ns' h' d tk n,IntsAre out ns'->ns'.Pairwise (· < ·)->(∀ k,k ∈ ns' ↔ k ∈ xs)->s.heap.objs.size <= l->h'.get? l = some { cls:=.type "list",data:=.seq out.toArray n } ->
   (∀ b o,s.heap.get? b = some o->h'.get? b = some o)->Q (.ref l) { s with heap:=h',drawn:=d,toks:=tk }) :
  wpAny (model prog w) A (call (.builtin "sorted") [.ref a]) Q E s:=by
 refine Calls.call_function_entry kind_sorted plain_sorted entry_sorted (args_sorted1 _) ?_
 unfold Builtin.«sorted»
 refine YAa (m:=checkCount "sorted" 1 1 _) (YAb ?_)
 refine YAa (zgI (A:=A.in1) hh r fun vs ns h1 d tk hI hnd hm k1 hz1=>?_)
 have hl:vs.length < 64:=by
  have e:=hI.length
  have:=zaQ hnd fun x hx=>(hm x).mp hx
  omega
 refine YAa (YDE ?_ (by rw [YAL];omega))
 have hoL:(h1.push (seqObj "list" vs.toArray 0)).get? h1.objs.size = some (seqObj "list" vs.toArray 0):=YAo _ rfl
 refine YAa (YAR (YAN slot_list_sort ⟨_,hoL,rfl⟩ entry_list_sort (list_sort_tree hoL hI hl fun out ns' a1 a2 a3=>⟨_,rfl,?_⟩) (args_list_sort _)))
 refine YAb ⟨_,rfl,?_⟩
 obtain ⟨n,hat⟩:=sortedHeap_at (out:=out) hoL
 refine h h1.objs.size out.toList ns' _ d tk n a1 ?_ (fun k=>a2.mem_iff.trans (hm k)) (YDf hz1) hat fun b o e=>?_
 .have nd':ns'.Nodup:=a2.nodup_iff.mpr hnd
  exact (YA1.mpr fun i j hi hj hij=>by
   have q1:=YA1.mp a3 i j hi hj hij
   have q2:ns'[i] ≠ ns'[j]:=fun z=>absurd ((YCW nd').mp z) (YAt hij)
   omega)
 .have hb:=YAp (k1 b o e)
  rw [sortedHeap_old (YAt hb) (by rw [size_push'];exact YA8 hb)]
  exact YAe _ (k1 b o e)
end
end L2
namespace L2
open PySem PySem.Spec PyProof.Rows
def SetO (w:World) (a:Addr) (xs:List Int):HO:=.ext fun h=>SetInts w h a xs
section
variable {X:Cx}
def zde    (r:SetInts w h a xs):ObjOk P w H h a (SetO w a xs):=
 ⟨r,let ⟨_,_,_,q,_⟩:=r.ex;⟨_,q.at_⟩,fun h1 h2 q k=>q.keep k⟩
def zhu (hc:X.calm = true):CallR X (.type "set") (fun vs H Q=>∃ (p:Addr) (ns:List Int),vs = [.ref p]/\SqL X.K H p (ns.map V.int)/\ns.length + 1 < scanBound/\∀ l,H l = none->Q (.ref l) (upd H l (SetO X.w l ns))):=by
 intro O s Y H vs us Q I r h
 obtain ⟨p,ns,rfl,hq,hb,q⟩:=h
 obtain ⟨u,rfl,rx⟩:=zdv r
 cases rx
 obtain ⟨its,r',pl,hz⟩:=I.list hq
 have hlen:=r'.length
 rw [YAc] at hlen
 refine ze4 (ns:=ns) (I.ok.hd hc) pl.isList (by simpa using zff r') (by simp only [YAz];omega) fun h' tk hS hk=>?_
 exact ⟨.ref s.heap.objs.size,_,I.laid hk (YAl _) (zde hS),rfl,q _ I.fresh⟩
theorem zfJ:∀ {vs:List Value} {ns:List Int},IntsAre vs ns->Vals (ns.map V.int) vs
 | _,_,.nil=>.nil
 | _,_,.cons n t r=>.cons ⟨t,rfl⟩ (zfJ r)
def zcy (hc:X.calm = true):CallR X (.builtin "sorted") (fun vs H Q=>∃ p xs,vs = [.ref p]/\H p = some (SetO X.w p xs)/\xs.length < 64 /\
  ∀ (l:Addr) (ns:List Int),H l = none->ns.Pairwise (· < ·)->(∀ k:Int,k ∈ ns ↔ k ∈ xs)->Q (.ref l) (upd H l (.lst (ns.map V.int)))):=by
 intro O s Y H vs us Q I r h
 obtain ⟨p,xs,rfl,hq,hb,q⟩:=h
 obtain ⟨u,rfl,rx⟩:=zdv r
 cases rx
 have hS:SetInts X.w s.heap p xs:=(I.hok p _ hq).1
 refine zf1 (I.ok.hd hc) hS hb fun l out ns' h' d tk n hI hp hm hl he hk=>?_
 have hn:H l = none:=I.hok.fresh hl
 have hle:(ns'.map V.int).length <= sizeLine:=by
  have:=zaQ (hp.imp fun h=>YDR h) fun x hx=>(hm x).mp hx
  rw [YAc,YAL];omega
 refine ⟨.ref l,upd H l (.lst (ns'.map V.int)),?_,rfl,q l ns' hn hp hm⟩
 exact I.call (ch:=[]) (Un.laid hk hl hn) (I.hok.laid hk hl ⟨hle,out,n,zfJ hI,he⟩) I.bare fun b hb=>absurd hb (by simp)
def ziC {bs:List Bool}:∀ {us:List Value},Vals (bs.map V.bl) us->∀ (i:Nat) v,us[i]? = some v->v = .bool (bs.getD i false):=by
 induction bs with
 | nil=>intro us r i v h;cases r;simp at h
 | cons b bs ih=>
  intro us r i v h
  rw [YAf] at r
  cases r with
  | cons r1 r2=>
   cases i with
   | zero=>simp at h;subst h;exact r1
   | succ i=>simpa using ih r2 i v (by simpa using h)
def zjh (bs:List Bool):((List.range bs.length).all fun i=>bs.getD i false) = bs.all id:=by
 induction bs with
 | nil=>rfl
 | cons b bs ih=>
  rw [YA2,YCN,YDC,List.all_map,YDC,<- ih]
  rfl
def zjb (bs:List Bool):((List.range bs.length).any fun i=>bs.getD i false) = bs.any id:=by
 induction bs with
 | nil=>rfl
 | cons b bs ih=>
  rw [YA2,YCN,YB5,YDS,YB5,<- ih]
  rfl
def zgk (hc:X.calm = true):CallR X (.builtin "all") (fun vs H Q=>∃ (p:Addr) (bs:List Bool),vs = [.ref p]/\SqL X.K H p (bs.map V.bl)/\Q (.bl (bs.all id)) H):=by
 intro O s Y H vs us Q I r h
 obtain ⟨p,bs,rfl,hq,q⟩:=h
 obtain ⟨u,rfl,rx⟩:=zdv r
 cases rx
 obtain ⟨its,r',pl,hz⟩:=I.list hq
 have hlen:=r'.length
 rw [YAc] at hlen
 have hp:p < s.heap.objs.size:=let ⟨o,n,e,_⟩:=pl;YAp e
 refine call_all_walk (YCg pl.isList ?_)
 refine ⟨s.heap.objs.size,_,[s.heap.objs.size],_,_,_,fun i=>bs.getD i false,rfl,Walks.list (A:=X.A.in1) (I.ok.hd hc) _ p (YAt hp) its.toArray,⟨⟨_,YAo _ rfl,rfl,rfl⟩,pl.isList.push _⟩,fun i v s' Q' E' hP hQ=>?_,fun h' tk hk=>?_⟩
 .rw [ziC r' i v (by simpa using hP)]
  exact YBR hQ
 .rw [YAz,<- hlen,zjh]
  exact ⟨.bl _,H,I.kept fun b o e=>hk b o (by simpa using YAt (YAp e)) (YAe _ e),rfl,q⟩
def zku (hc:X.calm = true):CallR X (.builtin "any") (fun vs H Q=>∃ (p:Addr) (bs:List Bool),vs = [.ref p]/\SqL X.K H p (bs.map V.bl)/\Q (.bl (bs.any id)) H):=by
 intro O s Y H vs us Q I r h
 obtain ⟨p,bs,rfl,hq,q⟩:=h
 obtain ⟨u,rfl,rx⟩:=zdv r
 cases rx
 obtain ⟨its,r',pl,hz⟩:=I.list hq
 have hlen:=r'.length
 rw [YAc] at hlen
 have hp:p < s.heap.objs.size:=let ⟨o,n,e,_⟩:=pl;YAp e
 refine call_any_walk (YCg pl.isList ?_)
 refine ⟨s.heap.objs.size,_,[s.heap.objs.size],_,_,_,fun i=>bs.getD i false,rfl,Walks.list (A:=X.A.in1) (I.ok.hd hc) _ p (YAt hp) its.toArray,⟨⟨_,YAo _ rfl,rfl,rfl⟩,pl.isList.push _⟩,fun i v s' Q' E' hP hQ=>?_,fun h' tk hk=>?_⟩
 .rw [ziC r' i v (by simpa using hP)]
  exact YBR hQ
 .rw [YAz,<- hlen,zjb]
  exact ⟨.bl _,H,I.kept fun b o e=>hk b o (by simpa using YAt (YAp e)) (YAe _ e),rfl,q⟩
def zpL (i j:Int):Prop:=0 < j/\j < 2 ^ 64
def zhV:OpR X (binaryOp .FloorDiv) (rI zpL fun i j=>.int (i / j)):=opI fun i j _ _ _ _ _ hc q=>by
 have hp:(0:Int) < j:=hc.1
 have hl:j.natAbs.log2 < 9000:=by
  have h2:j < 2 ^ 64:=hc.2
  have h3:j.natAbs < 2 ^ 64:=by omega
  have h4:j.natAbs.log2 < 64:=(Nat.log2_lt (by omega)).mpr h3
  omega
 exact floordiv_int (by omega) (by rw [Int.fdiv_eq_ediv_of_nonneg i (by omega)];exact q) (.inl (PyProof.noPylong_of_log2 hl))
def zp4 (K:oS):V->V->Hp->VK->Prop:=fun x y H Q=>∃ (p:Addr) (xs:List V) (j:Nat) (v:V),x = .ref p/\y = .int j/\SqL K H p xs/\xs[j]? = some v/\Q v H
def zit:PGet X (zp4 X.K):=by
 intro O s Y H o i ov iv Q I r1 r2 h
 obtain ⟨p,xs,j,v,rfl,rfl,hq,he,q⟩:=h
 cases r1
 obtain ⟨t,rfl⟩:=r2
 obtain ⟨its,r,pl,hz⟩:=I.list hq
 obtain ⟨u,eu,ru⟩:=r.get he
 have hj:j < xs.length:=(YAh.mp he).1
 have hn:=zeK
 exact wpAny_getItem_list pl.isList (by omega) (by omega) (by simpa using eu) ⟨v,H,I,ru,q⟩
end
section
variable {P:Program} {w:World} {A:Around} {E:Value->Shared->Prop} {s:Shared}
end
section
variable {P:Program} {w:World} {A:Around} {E:Value->Shared->Prop} {s:Shared} {z a b i j:Addr} {f g:List Addr} {n m k:Nat} {F1 F2:Nat->Value->Prop} {S1 S2:Nat->Heap->Prop}
end
section
variable {X:Cx} {O:List (Addr × Obj)} {Y:St} {H:Hp} {s:Shared} {h':Heap} {ch:List Addr} {t':Nat}
def Inv.turnedLaid  (I:Inv X O Y H s) (k:∀ b u,b ∉ ch->s.heap.get? b = some u->h'.get? b = some u) (hf:∀ b ∈ ch,FpOk X O H b) (hp:s.heap.objs.size <= a) (new:ObjOk X.prog X.w (upd H a o) h' a o) :
  Inv X O Y (upd H a o) { s with heap:=h',toks:=t' }:=by
 have hn:H a = none:=I.hok.fresh hp
 have nch:∀ b u,H b = some u->b ∉ ch:=fun b u e z=>by rw [(hf b z).1] at e;cases e
 refine I.step (g':=s.gens) (d':=s.drawn) (ch:=ch) (fun b hb=>⟨(hf b hb).2.2.2.1,(hf b hb).2.1,(hf b hb).2.2.2.2.1,(hf b hb).2.2.2.2.2⟩) (fun b u _ _ hc e _=>k b u hc e) (fun b u _ _ hc e _=>⟨u.slots,k b u hc e⟩)
  (fun b u _ e n=>by rw [zae (YAt (YAu (YAp e) hp))];exact n) (fun b u hc e=>⟨u,k b u hc e⟩) (fun b xs e=>by rw [zae (zad e hn)];exact e) (fun b u xs e=>by rw [zae (zad e hn)];exact e)
  (fun b ps e=>⟨#[],by rw [zae (zad e hn),e];simp⟩) (fun m hm=>?_) (fun b u e=>?_) I.bare
 .obtain ⟨o,es,ep,ho,r⟩:=hm
  exact ⟨o,es,ep,k _ o (fun z=>(hf _ z).2.1 rfl) ho,r⟩
 .by_cases hb:b = a
  .subst hb;rw [zac] at e;cases e;exact new
  .rw [zae hb] at e
   refine (I.hok b u e).stay (fun c v hc q=>k c v ?_ q) (fun c q=>by rw [zae (zad q hn)];exact q) fun c xs q=>by rw [zae (zad q hn)];exact q
   rcases hc with z | z
   .rw [z];exact nch b u e
   .exact nch c _ z
def Inv.turnedAll (I:Inv X O Y H s) (k:∀ b u,b ∉ ch->s.heap.get? b = some u->h'.get? b = some u) (hf:∀ b ∈ ch,FpOk X O H b):Inv X O Y H { s with heap:=h',toks:=t' }:=by
 have nch:∀ b u,H b = some u->b ∉ ch:=fun b u e z=>by rw [(hf b z).1] at e;cases e
 refine I.step (g':=s.gens) (d':=s.drawn) (ch:=ch) (fun b hb=>⟨(hf b hb).2.2.2.1,(hf b hb).2.1,(hf b hb).2.2.2.2.1,(hf b hb).2.2.2.2.2⟩) (fun b u _ _ hc e _=>k b u hc e) (fun b u _ _ hc e _=>⟨u.slots,k b u hc e⟩)
  (fun _ _ _ _ n=>n) (fun b u hc e=>⟨u,k b u hc e⟩) (fun _ _ e=>e) (fun _ _ _ e=>e) (fun b ps e=>⟨#[],by rw [e];simp⟩) (fun m hm=>?_) (fun b u e=>?_) I.bare
 .obtain ⟨o,es,ep,ho,r⟩:=hm
  exact ⟨o,es,ep,k _ o (fun z=>(hf _ z).2.1 rfl) ho,r⟩
 .refine (I.hok b u e).stay (fun c v hc q=>k c v ?_ q) (fun _ q=>q) fun _ _ q=>q
  rcases hc with z | z
  .rw [z];exact nch b u e
  .exact nch c _ z
end
def SQ (tp:Bool) (K:oS) (H:Hp) (a:Addr) (xs:List V):Prop:=match tp with | true=>SqT K H a xs | false=>SqL K H a xs
section
variable {X:Cx} {O:List (Addr × Obj)} {Y:St} {H:Hp} {s:Shared} {tp:Bool} {a:Addr} {xs ys:List V}
end
section
variable {P:Program} {w:World} {A:Around} {E:Value->Shared->Prop} {s:Shared}
end
def zka (elt tg iter:Expr) (ifs:List Expr) (scope:Scope) (pos:Pos) (it acc:Value) (env:Env) :
  compTurn (.SetComp elt [⟨tg,iter,ifs,0⟩] scope pos) 0 it acc env = (do
   standAt iter.pos
   match <- pyNext it with
   | none=>pure (.done .next)
   | some v=>
    letOwnedTupleGo tg it v
    assign tg env v
    let mut ok:=true
    for c in ifs do
     if ok then ok <- isTrue c env (eval c env)
    if ok then
     (do let x <- eval elt env;standAt elt.pos;let _ <- call (.builtin "set.add") [acc,x])
    again (.compLoop (.SetComp elt [⟨tg,iter,ifs,0⟩] scope pos) 0 it acc env)):=by rfl
section
variable {P:Program} {w:World} {A:Around} {E:Value->Shared->Prop} {R:Result->Shared->Prop} {s:Shared}
def ziL
  (h0:codeAny (model P w) A (.compLoop (.SetComp elt [⟨tg,iter,ifs,0⟩] scope pos) 0 it acc env) R s)
  (h:wpAny (model P w) A (pyIter it) (fun it' s'=>codeAny (model P w) A (.compLoop (.SetComp elt [⟨tg,iter,ifs,0⟩] scope pos) 0 it' acc env) R s') (notedBy (model P w) A env fun x s'=>R (.error x) s') s) :
  codeAny (model P w) A (.compStart (.SetComp elt [⟨tg,iter,ifs,0⟩] scope pos) 0 it acc env) R s:=by
 refine YDa ?_
 show wpAny _ _ ((compStart (.SetComp elt [⟨tg,iter,ifs,0⟩] scope pos) 0 it acc env).onRaise (fun x=>do noteFrame x env;standAt theWindowsPlace)) _ _ s
 refine wpAny_notedAt ?_
 unfold compStart
 show wpAny _ _ (ask >>= _) _ _ s
 refine YAa (YCr (wpAny_ite ?_))
 split
 .first | exact YAa (YAb (YAb (And.intro rfl h0))) | exact YAb (And.intro rfl h0)
 .first
   | exact YAa (YBT (YAa (YBj (YAa (YA5 h (fun it' s' h'=>YAb (And.intro rfl h')) fun _ _ x=>x)))))
   | (refine YAa (YBT ?_);show wpAny _ _ (standAt iter.pos >>= _) _ _ s;exact YAa (YBj (YAa (YA5 h (fun it' s' h'=>YAb (And.intro rfl h')) fun _ _ x=>x))))
def zkD (h:Q (.ref s.heap.objs.size) { s with heap:=s.heap.push { cls:=.type "set",dict:=none,data:=.set #[] 0 (.fresh 0 0 (!w.params.followText "set-order")) } }) :
  wpAny (model P w) A (newSet (.type "set")) Q E s:=by
 unfold newSet setsByText
 obtain ⟨hp,g,d,tk,os⟩:=s
 refine YAa (YAa (YCr (YAb ?_)))
 dsimp only
 simp only [newObj]
 exact YAa (wpAny_alloc (YAb h))
def zg7   (r:SetInts w s.heap a xs) (hr:xs.length + 1 < scanBound)
  (h:∀ h',Heap.SameBut a s.heap h'->SetInts w h' a (k :: xs)->Q .none { s with heap:=h',toks:=s.toks + 1 }):wpAny (model P w) A (call (.builtin "set.add") [.ref a,.int k tk]) Q E s:=by
 have hT:s.TypeIs (.ref a) "set" := let ⟨es,ep,t,q,_⟩:=r.ex;⟨_,q.at_,rfl⟩
 refine YAN F.slot_set_add hT F.entry_set_add ?_ (F.args_set_add_2 _ _)
 unfold Builtin.«set.add» Builtin.Frozenset.oneOther;simp only [List.isEmpty_nil,bind_assoc]
 unfold Builtin.Frozenset.addrOf setAdd;refine YAa (YAb ?_);try dsimp only
 refine YAa (YAb ?_);try dsimp only
 refine YAa (YAR (YAa ((intKind P w).pyHash (k:=k) (YCR _ _ _ _) ?_)))
 refine zfs (s:={ s with toks:=s.toks + 1 }) r hr fun b h' sb hS=>?_
 show wpAny _ _ (ret Value.none) _ _ _
 exact YAb ⟨_,rfl,h h' sb hS⟩
end
noncomputable def zl0 (w:World) (g:TG) (tc:TT) (te:TE) (Yc:St) (l:Addr) (J:It) (H1:Hp) (Q:VK):Prop:=
 ∃ W:Nat->Nat->List Int->Hp->Prop,(∃ m,W 0 m [] (upd H1 l (SetO w l [])))/\∀ i m xs H2,W i m xs H2->H2 l = some (SetO w l xs) /\
  ((J.stop i H2/\Q (.ref l) H2)\/(J.go i H2/\∃ N:List Int->Hp->Prop,(∀ xs' H',N xs' H'->∃ m',m' < m/\W (i + 1) m' xs' H') /\
   ∀ x H',J.yld i H2 x H'->g x Yc H' fun Y2 H3=>tc Y2 H3 fun b H4=>if b = true then te Y2 H4 fun y H5=>∃ k,y = .int k/\H5 l = some (SetO w l xs)/\xs.length + 1 < scanBound/\N (k :: xs) (upd H5 l (SetO w l (k :: xs))) else N xs H4))
def znZ (w:World) (sub:List (Option Nat)) (wi:TI) (g:TG) (tc:TT) (te:TE):TE:=fun Y H Q=>wi Y H fun J H1=>∀ l,H1 l = none->zl0 w g tc te (zaU sub Y) l J H1 Q
section
variable {X:Cx} {O:List (Addr × Obj)} {Y:St} {H:Hp} {s:Shared} {scope:Scope} {Nc:List Str} {sub:List (Option Nat)} {elt tg iter:Expr} {ifs:List Expr} {pos:Pos} {g:TG} {tc:TT} {te:TE}
def zm6 {cl:List (Str × Addr)} {fp:List Addr} {it:Addr} {J:It} {tn:Nat->Heap->Prop} {E:Value->Shared->Prop} {Q:VK} {RR:Value->Addr->Result->Shared->Prop}
  (hc:X.calm = true) (I:Inv X O Y H s) (hS:CompScope X.N X.env.scope scope Nc sub)
  (hcl:∀ x c,cl.lookup x = some c->X.env.cells.lookup x = some c) (hcl2:∀ x,scope.names.lookup x = some .free->∃ c,cl.lookup x = some c)
  (T:Turn X.prog X.w X.K tg J fp it tn) (st:tn 0 s.heap) (hf:∀ b ∈ fp,FpOk X O H b)
  (hg:∀ cl L s0 H0 ex,PG (zak X Nc scope cl L s0 H0 ex) tg g) (gk:zea sub g)
  (hi:∀ cl L s0 H0 ex,PIfs (zak X Nc scope cl L s0 H0 ex) ifs tc) (he:∀ cl L s0 H0 ex,PE (zak X Nc scope cl L s0 H0 ex) elt te)
  (gm:zdP g) (q:∀ l,H l = none->zl0 X.w g tc te (zaU sub Y) l J H Q)
  (hRR:∀ l C H' s' m,Inv X O Y H' s'->Q (.ref l) H'->s'.heap.Ns C m->s.heap.objs.size <= C->H' C = none->RR (.ref l) C (.ok .next) s') :
  wpAny (model X.prog X.w) X.A (newSet (.type "set")) (fun acc s₃=>wpAny (model X.prog X.w) X.A (newFunctionEnv scope X.env.globals cl [] X.env.qual none .none (some X.env)) (fun cenv s₄=>
   codeAny (model X.prog X.w) X.A (.compStart (.SetComp elt [⟨tg,iter,ifs,0⟩] scope pos) 0 (.ref it) acc { cenv with scope:=relabel scope X.env }) (RR acc cenv.locals) s₄) E s₃) E s:=by
 have hlt:∀ b ∈ fp,b < s.heap.objs.size:=fun b hb=>let ⟨o,e,_⟩:=T.obj _ _ st b hb;YAp e
 have hl0:H s.heap.objs.size = none:=I.hok.fresh (YAl _)
 obtain ⟨W,⟨m0,w0⟩,turn⟩:=q s.heap.objs.size hl0
 refine zkD ?_
 have I3:Inv X O Y (upd H s.heap.objs.size (SetO X.w s.heap.objs.size [])) { s with heap:=s.heap.push { cls:=.type "set",dict:=none,data:=.set #[] 0 (.fresh 0 0 (!X.w.params.followText "set-order")) },toks:=s.toks }:=
  I.laid (fun b o e=>YAe _ e) (YAl _) (zde zfg)
 have e3:({ s with heap:=s.heap.push { cls:=.type "set",dict:=none,data:=.set #[] 0 (.fresh 0 0 (!X.w.params.followText "set-order")) } }:Shared) = { s with heap:=s.heap.push { cls:=.type "set",dict:=none,data:=.set #[] 0 (.fresh 0 0 (!X.w.params.followText "set-order")) },toks:=s.toks }:=rfl
 rw [e3]
 generalize hs3:({ s with heap:=s.heap.push { cls:=.type "set",dict:=none,data:=.set #[] 0 (.fresh 0 0 (!X.w.params.followText "set-order")) },toks:=s.toks }:Shared) = s3 at I3 ⊢
 have k3:∀ b o,s.heap.get? b = some o->s3.heap.get? b = some o:=fun b o e=>by rw [<- hs3];exact YAe _ e
 have z3:s.heap.objs.size <= s3.heap.objs.size:=by rw [<- hs3];show _ <= (s.heap.push _).objs.size;rw [YBm];exact Nat.le_succ _
 have f3:∀ b ∈ fp,FpOk X O (upd H s.heap.objs.size (SetO X.w s.heap.objs.size [])) b:=fun b hb=>⟨by rw [zae (YAt (hlt b hb))];exact (hf b hb).1,(hf b hb).2⟩
 have lt3:∀ b ∈ fp,b < s3.heap.objs.size:=fun b hb=>YAu (hlt b hb) z3
 have st3:tn 0 s3.heap:=T.keep _ _ _ st fun b _ o e=>k3 b o e
 refine YCZ hS.nocell (by intro y hy;simp at hy) (fun h₁ hns₁ hsb₁=>?_) hS.kind
 have k4:∀ b o,s3.heap.get? b = some o->h₁.get? b = some o:=fun b o e=>hsb₁.extBut b o (YAt (YAp e)) (YAe _ e)
 have ok4:=zev (J:=J) (it:=it) (tn:=tn) I3 hS hcl hcl2 f3 lt3
 have I4:=zcw (t':=s3.toks + ([]:List (Str × Value)).length) I3 hS hcl hcl2 ok4 hns₁ k4
 have st4:tn 0 h₁:=T.keep _ _ _ st3 fun b _ o e=>k4 b o e
 have stat:∀ {H':Hp},(∀ b ∈ fp,H' b = none)->∀ b ∈ fp,FpOk (zak X Nc scope cl s3.heap.objs.size s3 (upd H s.heap.objs.size (SetO X.w s.heap.objs.size [])) fp) [] H' b:=fun hn b hb=>
  ⟨hn b hb,(ok4.exf b hb).1,ok4.exfs b hb,.inl hb,(ok4.exf b hb).2,fun p hp=>absurd (show p ∈ ([]:List (Addr × Obj)) from hp) (by simp)⟩
 have loop:∀ s₄:Shared,s₄ = { s3 with heap:=h₁,toks:=s3.toks + ([]:List (Str × Value)).length } ->
   codeAny (model X.prog X.w) X.A (.compLoop (.SetComp elt [⟨tg,iter,ifs,0⟩] scope pos) 0 (.ref it) (.ref s.heap.objs.size) (compEnvC scope cl s3.heap.objs.size X.env)) (RR (.ref s.heap.objs.size) s3.heap.objs.size) s₄:=by
  rintro s₄ rfl
  refine YDQ rfl (fun n s'=>∃ i xs H',Inv (zak X Nc scope cl s3.heap.objs.size s3 (upd H s.heap.objs.size (SetO X.w s.heap.objs.size [])) fp) [] (zaU sub Y) H' s'/\tn i s'.heap/\(∀ b ∈ fp,H' b = none)/\W i n xs H') ?_ m0
   ⟨0,[],_,I4,st4,fun b hb=>(f3 b hb).1,w0⟩
  rintro n s5 ⟨i,xs,H5,I5,st5,fr5,w5⟩
  show wpAny _ X.A ((compTurn (.SetComp elt [⟨tg,iter,ifs,0⟩] scope pos) 0 (.ref it) (.ref s.heap.objs.size) (compEnvC scope cl s3.heap.objs.size X.env)).onRaise (fun x=>do noteFrame x (compEnvC scope cl s3.heap.objs.size X.env);theTreesLotGoes x)) _ _ s5
  refine YDZ ?_
  rw [zka]
  refine YAa (YBj (YAa ?_))
  obtain ⟨hl5,w5⟩:=turn i n xs H5 w5
  rcases w5 with ⟨stop,qn⟩ | ⟨go,N,hN,step⟩
  .refine thn (T.done (zak X Nc scope cl s3.heap.objs.size s3 (upd H s.heap.objs.size (SetO X.w s.heap.objs.size [])) fp) rfl rfl rfl hc i [] s5 (zaU sub Y) H5 _ I5 (stat fr5) st5 stop) fun r s6 ⟨hr,I6⟩=>?_
   subst hr
   obtain ⟨m6,hn6,_⟩:=I6.loc
   exact YAb (hRR _ _ H5 s6 m6 (zdR I3 f3 I6) qn hn6 z3 I6.free)
  .refine thn (T.item (zak X Nc scope cl s3.heap.objs.size s3 (upd H s.heap.objs.size (SetO X.w s.heap.objs.size [])) fp) rfl rfl rfl hc i [] s5 (zaU sub Y) H5 _ I5 (stat fr5) st5 go) fun r s6 ⟨u,hr,h6⟩=>?_
   subst hr
   refine YAa (thn h6 fun _ s7 ⟨x,H7,I7,r7,y7,st7,fr7⟩=>?_)
   have I7':=I7.pinned (stat fr7) (T.obj _ _ st7)
   have again:∀ {Y8:St} {H8:Hp} {ys:List Int} {s8:Shared},Inv (zak X Nc scope cl s3.heap.objs.size s3 (upd H s.heap.objs.size (SetO X.w s.heap.objs.size [])) fp) ([] ++ zd2 fp s7.heap) Y8 H8 s8->(∀ (i j:Nat),sub[i]? = some (some j)->Y8[i]? = (zaU sub Y)[i]?)->N ys H8 ->
     ∃ m,m < n/\∃ i xs H',Inv (zak X Nc scope cl s3.heap.objs.size s3 (upd H s.heap.objs.size (SetO X.w s.heap.objs.size [])) fp) [] (zaU sub Y) H' s8/\tn i s8.heap/\(∀ b ∈ fp,H' b = none)/\W i m xs H':=fun {Y8 H8 ys s8} I8 k8 n8=>by
    obtain ⟨m',hm,w8⟩:=hN ys H8 n8
    refine ⟨m',hm,i + 1,ys,H8,?_,T.keep _ _ _ st7 fun b hb o e=>(I8.pin (b,o) (YAq _ (YAq _ (zaS hb e)))).1,fun b hb=>?_,w8⟩
    .refine I8.unpinned.weak ?_ fun k v e=>?_
     .rw [I8.len];exact (zdn sub Y).trans hS.len
     .obtain ⟨j,e1,_⟩:=zcK e
      rw [k8 k j e1];exact e
    .obtain ⟨o,e,d⟩:=T.obj _ _ st7 b hb
     exact (I8.pin (b,o) (YAq _ (YAq _ (zaS hb e)))).2.1
   refine YAa (YA5 (hg cl _ s3 _ fp _ s7 (zaU sub Y) H7 x u _ I7' r7 (gk _ _ _ _ (step x H7 y7))) (fun _ s8 ⟨Y8,H8,I8,q8,k8⟩=>?_) fun _ _ z=>False.elim z)
   refine YAa (YA5 (hi cl _ s3 _ fp _ s8 Y8 H8 _ I8 q8) (fun ok s9 ⟨H9,I9,q9⟩=>?_) fun _ _ z=>False.elim z)
   cases ok with
   | false=>exact YAb ⟨rfl,again I9 k8 q9⟩
   | true=>
    refine YAa (YAa (YA5 (he cl _ s3 _ fp _ s9 Y8 H9 _ I9 q9) (fun xv s10 ⟨y,H10,I10,r10,kk,hy,hl10,hz,q10⟩=>?_) fun _ _ z=>False.elim z))
    subst hy
    obtain ⟨tk,rfl⟩:=r10
    have hSI:SetInts X.w s10.heap s.heap.objs.size xs:=(I10.hok _ _ hl10).1
    refine YAa (YBj (YAa (zg7 hSI hz fun h' sb hS'=>?_)))
    refine YAb (YAb ⟨rfl,again (s8:={ s10 with heap:=h',toks:=s10.toks + 1 }) ?_ k8 q10⟩)
    exact I10.write (x:=s.heap.objs.size) (e:=s.heap.objs.size) (by rw [hl10];trivial) (.inl rfl) (fun b o hb e=>(sb.2 b hb).trans e) (let ⟨_,_,_,z,_⟩:=hS'.ex;⟨_,z.at_⟩) (zde hS')
 exact ziL (loop _ rfl) (T.self _ 0 _ _ _ st4 (loop _ rfl))
def zlR (hc:X.calm = true) (hS:CompScope X.N X.env.scope scope Nc sub) (hI:PI X tg iter wi)
  (hg:∀ cl L s0 H0 ex,PG (zak X Nc scope cl L s0 H0 ex) tg g) (gk:zea sub g) (gm:zdP g)
  (hi:∀ cl L s0 H0 ex,PIfs (zak X Nc scope cl L s0 H0 ex) ifs tc) (he:∀ cl L s0 H0 ex,PE (zak X Nc scope cl L s0 H0 ex) elt te)
  (hs:∀ x,foldedSetIterable iter X.env x = pure x:=by intro _;rfl):PE X (.SetComp elt [⟨tg,iter,ifs,0⟩] scope pos) (znZ X.w sub wi g tc te):=by
 intro O s Y H Q I h
 obtain ⟨cl,hcl0,hcl,hcl2⟩:=zbi (zcQ I hS)
 rw [arm_eval_SetComp]
 refine YCk (use:=none) rfl hs hcl0 hS.kind hS.names ?_
 refine thn (hI O s Y H _ I h) fun xv s1 h1=>thn h1 fun itv s2 h2=>?_
 obtain ⟨it,fp,tn,J,H2,e,I2,T,st2,f2,q⟩:=h2
 subst e
 refine zm6 hc I2 hS hcl hcl2 T st2 f2 hg gk hi he gm q fun l C H' s' m I' q' hn hC hfr=>?_
 refine ⟨m,hn,fun h' sb=>?_⟩
 have nL:C ≠ X.env.locals:=YA0 (YAu I2.lt hC)
 refine ⟨.ref l,H',?_,rfl,q'⟩
 exact I'.turned (it:=C) (t':=s'.toks) (fun b o hb e=>(sb.2 b hb).trans e) hfr nL (.inr (YAZ I2.sz hC)) (fun x c e z=>by
  obtain ⟨v,w⟩:=I2.cell x c e
  exact absurd (YAu w.lt (by rw [z];exact hC)) (YA9 _)) fun p hp z=>
  absurd (YAu (YAp (I2.pin p hp).1) (by rw [z];exact hC)) (YA9 _)
end
section
variable {prog:Program} {w:World} {A:Around} {E:Value->Shared->Prop} {s:Shared}
def zfM   (hh:A.handled = none) (hl:s.heap.IsTuple l items) (hi:IntsAre items.toList ns) (hb:items.size + 1 < scanBound)
  (h:∀ (h':Heap) (tk:Nat),SetInts w h' s.heap.objs.size ns->(∀ b o,s.heap.get? b = some o->h'.get? b = some o)->Q (.ref s.heap.objs.size) { s with heap:=h',toks:=tk }) :
  wpAny (model prog w) A (call (.type "set") [.ref l]) Q E s:=zg1 (fun led R E hSI k=>by
 obtain ⟨⟨ocls,odict,odata,oslots⟩,hol,hcl,nl,hdl⟩:=hl
 simp only at hcl hdl
 subst hcl;subst hdl
 have hol':(s.heap.push (set0 led)).get? l = some { cls:=.type "tuple",dict:=odict,data:=.seq items nl,slots:=oslots }:=YAe _ hol
 have hsls:=PySem.F.sub_tuple_set
 have hslf:=PySem.F.sub_tuple_frozenset
 have hne:(Value.type "tuple" == Value.type "dict") = false:=by decide
 have hl1:(s.heap.push (set0 led)).IsTuple l items:=⟨_,hol',rfl,nl,rfl⟩
 unfold Builtin.«set.__init__» noKeywords Builtin.Frozenset.updateFrom
 generalize hPI:pyIter = PI
 wp_walk
 subst hPI
 refine wpAny_pyIter_tuple hl1 ?_
 have hlS:l < s.heap.objs.size:=YAp hol
 rw [show (s.heap.push (set0 led)).objs.size = s.heap.objs.size + 1 from YBm _ _]
 refine YAa (YDn (zh8 hi hb hlS hSI (Walks.tuple (by simp [hh]) _ l (YAt (YA8 hlS)) items) ⟨⟨_,zoa _ _ _ rfl,rfl,rfl⟩,hl1.push _⟩ fun h' tk a b=>?_))
 exact YAb (YAb (k h' tk a b))) h
end
section
variable {X:Cx}
def zgA (hc:X.calm = true):CallR X (.type "set") (fun vs H Q=>∃ (p:Addr) (ns:List Int),vs = [.ref p]/\SqT X.K H p (ns.map V.int)/\ns.length + 1 < scanBound/\∀ l,H l = none->Q (.ref l) (upd H l (SetO X.w l ns))):=by
 intro O s Y H vs us Q I r h
 obtain ⟨p,ns,rfl,hq,hb,q⟩:=h
 obtain ⟨u,rfl,rx⟩:=zdv r
 cases rx
 obtain ⟨its,r',pl,hz⟩:=I.tuple hq
 have hlen:=r'.length
 rw [YAc] at hlen
 refine zfM (ns:=ns) (I.ok.hd hc) (show s.heap.IsTuple p its.toArray from pl) (by simpa using zff r') (by simp only [YAz];omega) fun h' tk hS hk=>?_
 exact ⟨.ref s.heap.objs.size,_,I.laid hk (YAl _) (zde hS),rfl,q _ I.fresh⟩
end
def Ite (K:oS) (a:Addr):It:=
 ⟨fun i H=>∃ xs x,SqL K H a xs/\xs[i]? = some x,fun i H v H'=>∃ t x,H t = none/\v = .ref t/\H' = upd H t (.tup [.int i,x])/\∀ xs,SqL K H a xs->xs[i]? = some x,fun i H=>∃ xs,SqL K H a xs/\xs.length = i⟩
def zjq {P:Program} {w:World} {K:oS} {es:List Expr} {x1:_} {pos:Pos} {e it a:Addr} (hei:e ≠ it) (hea:e ≠ a) (hai:a ≠ it) :
  Turn P w K (.Tuple es x1 pos) (Ite K a) [e,it] e (fun i h=>(∃ old,IsEnum h e it i old)/\h.IsListIter it a i) where
 mem:=by simp
 obj:=fun k h st c hc=>by
  obtain ⟨⟨old,h1⟩,o,h2,_,d⟩:=st
  simp only [YAs,YAT,YB7] at hc
  rcases hc with rfl | rfl
  .exact ⟨_,h1,fun v q=>by cases q⟩
  .exact ⟨o,h2,fun v z=>by rw [d] at z;cases z⟩
 keep:=fun k h h' st q=>by
  obtain ⟨⟨old,h1⟩,h2⟩:=st
  exact ⟨⟨old,q e (by simp) _ h1⟩,h2.at fun o z=>q it (by simp) o z⟩
 item:=by
  intro X hP hw hK hc k O s Y H E I hf st hg
  subst hP hw hK
  obtain ⟨xs,x,qa,ex⟩:=hg
  obtain ⟨its,r,pl,hz⟩:=I.list qa
  obtain ⟨⟨old,h1⟩,h2⟩:=st
  have hh:X.A.in1.handled = none:=I.ok.hd hc
  obtain ⟨u,eu,ru⟩:=r.get ex
  have k1:k < its.toArray.size:=by simpa using (YAh.mp eu).1
  refine wpAny_pyNext_enum_itemD (Draws.list hh it a hai its.toArray) h1 ⟨h2,pl.isList⟩ k1 hei (by simp only [YAs,YAT,YB7,not_or];exact ⟨hei,hea⟩) fun v h' tk px g1 g2 g3 g4 kk=>⟨_,rfl,?_⟩
  have ev:v = u:=by rw [List.getElem?_toArray,eu] at px;exact (Option.some.inj px).symm
  subst ev
  refine wpAny_letOwnedTupleGo_enum g1 fun h'' z' sb=>?_
  have tz:s.heap.objs.size ≠ e:=YA0 (YAp h1)
  have hn:H s.heap.objs.size = none:=I.hok.fresh (YAl _)
  have kp:∀ b u,b ∉ [e,it]->s.heap.get? b = some u->h''.get? b = some u:=fun b u hb q=>by
   simp only [YAs,YAT,YB7,not_or] at hb
   exact sb.extBut b u hb.1 (kk b u hb.1 hb.2 q)
  have I1:Inv X O Y (upd H s.heap.objs.size (.tup [.int k,x])) { s with heap:=h'',toks:=tk + 1 }:=I.turnedLaid (ch:=[e,it]) kp hf (YAl _)
   ⟨by show 2 <= sizeLine;decide,[.int k tk,v],.cons ⟨tk,rfl⟩ (.cons ru .nil),⟨_,sb.extBut _ _ tz g3,rfl,_,rfl⟩⟩
  refine ⟨.ref s.heap.objs.size,_,I1,rfl,⟨_,x,hn,rfl,rfl,fun xs' q=>by rw [I.list_inj q qa];exact ex⟩,?_,fun c hc=>?_⟩
  .exact ⟨⟨_,by simpa using z'⟩,g2.1.at fun o q=>sb.extBut _ _ hei.symm q⟩
  .have hlt:c < s.heap.objs.size:=by
    simp only [YAs,YAT,YB7] at hc
    rcases hc with rfl | rfl
    .exact YAp h1
    .obtain ⟨o,q,_⟩:=h2;exact YAp q
   rw [zae (YAt hlt)]
   exact (hf c hc).1
 done:=by
  intro X hP hw hK hc k O s Y H E I hf st hg
  subst hP hw hK
  obtain ⟨xs,qa,hx⟩:=hg
  obtain ⟨its,r,pl,hz⟩:=I.list qa
  obtain ⟨⟨old,h1⟩,h2⟩:=st
  have hh:X.A.in1.handled = none:=I.ok.hd hc
  have hk:k = its.toArray.size:=by rw [<- hx,r.length];simp
  subst hk
  refine wpAny_pyNext_enum_endD (Draws.list hh it a hai its.toArray) h1 ⟨h2,pl.isList⟩ fun h' kk=>⟨rfl,?_⟩
  exact I.turnedAll (t':=s.toks) (ch:=[e,it]) (fun b u hb q=>by
   simp only [YAs,YAT,YB7,not_or] at hb
   exact kk b u hb.2 q) hf
 self:=fun _ _ _ _ _ st h=>by
  obtain ⟨⟨old,h1⟩,_⟩:=st
  exact wpAny_pyIter_enum h1 h
def zp6 (K:oS) (ta:TA):TI:=fun Y H R=>ta Y H fun vs H1=>∃ (a:Addr) (xs:List V),vs = [.ref a]/\SqL K H1 a xs/\R (Ite K a) H1
def zkJ {X:Cx} {es:List Expr} {x1:_} {tpos:Pos} {a:Expr} {ta:TA} {p pos:Pos} (hg:Gl X "enumerate") (hm:X.mg "enumerate" = none) (ha:PA X [a] ta) (hs:starEach [a] X.env = [(false,eval a X.env)]:=by rfl) :
  PI X (.Tuple es x1 tpos) (.Call (.Name "enumerate" p) [a] [] pos) (zp6 X.K ta):=by
 intro O s Y H R I h
 refine Call_ (zio I hg hm boot_enumerate (YCv (thn (ha pos O s Y H _ I h) fun us s1 ⟨vs,H1,I1,r1,q1⟩=>?_) hs rfl))
 obtain ⟨l,xs,e,q1,q⟩:=q1
 subst e
 obtain ⟨u,rfl,ru⟩:=zdv r1
 cases ru
 obtain ⟨its,r,pl,hz⟩:=I1.list q1
 have lt1:l < s1.heap.objs.size:=let ⟨o,n,z,_⟩:=pl;YAp z
 refine call_enumerate_list pl.isList fun h' g1 g2 _ kk=>?_
 refine wpAny_pyIter_enum g1 ?_
 have I2:Inv X O Y H1 { s1 with heap:=h' }:=I1.kept (t':=s1.toks) kk
 refine ⟨_,[s1.heap.objs.size + 1,s1.heap.objs.size],_,_,H1,rfl,I2,zjq (YA0 (YBp _)) (YA0 (YA8 lt1)) (YAt lt1),⟨⟨_,g1⟩,g2⟩,fun c hc=>?_,q⟩
 have hle:s1.heap.objs.size <= c:=by
  simp only [YAs,YAT,YB7] at hc
  rcases hc with rfl | rfl
  .exact Nat.le_add_right _ _
  .exact YAl _
 exact I1.fpOk hle (I1.hok.fresh hle)
def zh4 {K:oS} {a:Addr} {xs:List V} {g:TG} {tb:TS} {D:Ends} {Y:St} {H:Hp} (Pv:Nat->St->Hp->Prop) (h0:Pv 0 Y H) (hl:∀ i Y H,i <= xs.length->Pv i Y H->SqL K H a xs)
  (hs:∀ i x t Y H,xs[i]? = some x->H t = none->Pv i Y H->g (.ref t) Y (upd H t (.tup [.int i,x])) fun Y2 H2=>tb { D with nx:=Pv (i + 1),ct:=Pv (i + 1),bk:=D.nx } Y2 H2) (hd:∀ Y H,Pv xs.length Y H->D.nx Y H) :
  ∃ W:Nat->Nat->St->Hp->Prop,(∃ m,W 0 m Y H)/\∀ i m Y H,W i m Y H ->
   ((Ite K a).stop i H/\D.nx Y H)\/((Ite K a).go i H/\∃ N:St->Hp->Prop,(∀ Y' H',N Y' H'->∃ m',m' < m/\W (i + 1) m' Y' H')/\∀ x H',(Ite K a).yld i H x H'->g x Y H' fun Y2 H2=>tb { D with nx:=N,ct:=N,bk:=D.nx } Y2 H2):=by
 refine ⟨fun i m Y H=>m = xs.length - i/\i <= xs.length/\Pv i Y H,⟨xs.length,by simp,YAD _,h0⟩,?_⟩
 rintro i m Y H ⟨rfl,hi,p⟩
 have q:=hl i Y H hi p
 by_cases hlt:i < xs.length
 .refine .inr ⟨⟨xs,xs[i],q,by simp [hlt]⟩,Pv (i + 1),fun Y' H' p'=>⟨xs.length - (i + 1),by omega,rfl,hlt,p'⟩,fun v H' y=>?_⟩
  obtain ⟨t,x,hn,rfl,rfl,ex⟩:=y
  exact hs i x t Y H (ex xs q) hn p
 .have e:i = xs.length:=by omega
  subst e
  exact .inl ⟨⟨xs,q,rfl⟩,hd Y H p⟩
section
variable {X:Cx}
def zpj (K:oS):R2:=fun x y H Q=>∃ a b xs ys,x = .ref a/\y = .ref b/\SqT K H a xs/\SqT K H b ys/\xs.length + ys.length <= sizeLine/\∀ p H',Same H H'->SqT K H' p (xs ++ ys)->Q (.ref p) H'
def zhh:OpR X (binaryOp .Add) (zpj X.K):=by
 intro O s Y H x y v u Q I rx ry h
 obtain ⟨a,b,xs,ys,rfl,rfl,ha,hb,hz,q⟩:=h
 by_cases hx:xs = []
 .subst hx
  cases rx
  cases ry
  obtain ⟨its,r1,p1,_⟩:=I.tuple ha
  obtain ⟨its2,r2,p2,_⟩:=I.tuple hb
  obtain ⟨⟨cls,dd,data,sl⟩,ho,hc,n,hd⟩:=id p1
  obtain ⟨⟨cls2,dd2,data2,sl2⟩,ho2,hc2,n2,hd2⟩:=id p2
  simp only at hc hd hc2 hd2
  subst hc hd hc2 hd2
  have hi:its = []:=r1.nil_iff.mpr rfl
  exact YDN ⟨_,ho,rfl⟩ ⟨_,ho2,rfl⟩ YCX YDB YCt YCn (YCi _ _)
   (tuple_addW0 a b its.toArray its2.toArray n n2 dd dd2 sl sl2 (by simp [hi])) ⟨ho,ho2,⟨.ref b,H,I,rfl,q b H (fun _ _ e=>e) (by simpa using hb)⟩⟩
 .refine zjr O s Y H (.ref a) (.ref b) v u Q I rx ry ⟨a,b,xs,ys,rfl,rfl,ha,hb,hx,hz,fun e=>?_,fun _ p hp=>?_⟩
  .subst e
   exact q a H (fun _ _ e=>e) (by simpa using ha)
  .exact q p _ (fun c o e=>by rw [zae (zad e hp)];exact e) (SqT.of zac)
end
def zpH (td ty:TE):TE:=fun Y H Q=>td Y H fun x H1=>∃ a,x = .ref a/\IsD H1 a/\ty Y H1 fun y H2=>∃ b kvs more,y = .ref b/\a ≠ b/\H2 a = some (.dK kvs)/\H2 b = some (.dK more)/\kvs.length + more.length <= sizeLine/\Q .non (upd H2 a (.dK (mergeK kvs more)))
section
variable {X:Cx} {o e:Expr} {apos cpos:Pos} {td ty:TE}
def zjJ (ho:PE X o td) (he:PE X e ty) (m:M1 X o "update" apos e cpos):PE X (.Call (.Attribute o "update" apos) [e] [] cpos) (zpH td ty):=by
 intro O s Y H Q I h
 refine YDu m.base m.few m.line YBP PySem.F.slot_dict_update PySem.F.type_dict_update (thn (ho O s Y H _ I h) fun u s1 ⟨x,H1,I1,rx,a,ex,d,q1⟩=>?_)
 subst ex
 obtain rfl:u = Value.ref a:=rx
 obtain ⟨t1,t2,_⟩:=zl8 I1 d
 refine ⟨t1,t2,?_⟩
 rw [m.trees]
 refine YBZ rfl (YCz (YCH (thn (he O s1 Y H1 _ I1 q1) fun iv s2 ⟨y,H2,I2,ry,b,kvs,more,ey,hab,ea,eb,hz,q2⟩=>YDr ?_)))
 subst ey
 obtain rfl:iv = Value.ref b:=ry
 obtain ⟨z1,hd1,vs1,rel1,dd1⟩:=ziH I2.hok ea
 obtain ⟨z2,hd2,vs2,rel2,dd2⟩:=ziH I2.hok eb
 refine call_meetsIn PySem.F.slot_dict_update dd1.typeIs PySem.F.entry_dict_update (PySem.F.args_dict_update_2 _ _) (meets_dict_update (zax X.prog X.w) a b hab hd2) ⟨vs1,vs2,dd1,dd2,by rw [<- rel1.length,<- rel2.length];exact hz,fun h' d1 d2 sb=>?_⟩
 refine ⟨.non,_,I2.write (x:=a) (e:=a) (o:=.dK (mergeK kvs more)) (t':=s2.toks) (by rw [ea];trivial) (.inl rfl) (fun c q hc hq=>(sb.2 c hc).trans hq) (let ⟨ob,_,_,q,_⟩:=d1;⟨ob,q⟩) ?_,rfl,q2⟩
 exact ⟨YAZ (zcj more kvs) hz,hd1,_,KV.merge rel2 rel1,d1⟩
end
theorem zcl:∀ (more:List (Key × V)) (kvs:List (Key × V)),(∀ k ∈ more.map (·.1),k ∉ kvs.map (·.1))->(more.map (·.1)).Nodup->mergeK kvs more = kvs ++ more
 | [],kvs,_,_=>by unfold mergeK;simp
 | x :: more,kvs,h,hn=>by
  rw [YAf,YBb] at hn
  have hx:valV kvs x.1 = none:=by
   cases e:valV kvs x.1 with
   | none=>rfl
   | some v=>exact absurd (zkd e) (h x.1 (by simp))
  show mergeK (putK kvs x.1 x.2) more = _
  rw [zhZ _ hx,zcl more _ (fun k hk q=>?_) hn.2,YAH]
  .rfl
  .rw [YAv] at q
   rcases YAm.mp q with q | q
   .exact h k (by rw [YAf];exact YAn _ hk) q
   .have:k = x.1:=by simpa using q
    exact hn.1 (this ▸ hk)
def zc5:entryFor table "dict_itemiterator.__iter__" = some Builtin.«dict_keyiterator.__iter__»:=
 YDX (id' := "dict_keyiterator.__iter__") (by kernel_rfl) (by first | rfl | decide +kernel | (unfold String.splitOn;simp +decide [String.splitOnAux])) (by decide +kernel) (by kernel_rfl)
def zf5     (hit:IsItemIter s.heap it d i n ep ok ov) (h:Q (.ref it) s):wpAny (model P w) A (pyIter (.ref it)) Q E s:=by
 have hT:s.TypeIs (.ref it) "dict_itemiterator" := ⟨_,hit,rfl⟩
 refine YCy hT PySem.F.slot_dict_itemiterator_iter (YAN PySem.F.slot_dict_itemiterator_iter hT zc5 ?_ (PySem.F.args_dict_itemiterator_iter_1 _))
 show wpAny _ _ (ret (.ref it)) _ _ s
 exact YAb ⟨_,rfl,"dict_itemiterator",_,hT,PySem.F.slot_dict_itemiterator_next.lookup,h⟩
section
variable {X:Cx} {O:List (Addr × Obj)} {Y:St} {H:Hp} {s:Shared}
def Inv.freeze  (I:Inv X O Y H s) (hd:H d = some (.dK kvs)) (ho:s.heap.get? d = some o):Inv X O Y (upd H d (.frz o (.dK kvs))) s:=by
 have nd:∀ b u,H b = some u->(∀ q,u ≠ .dK q)->b ≠ d:=fun b u e n z=>by rw [z,hd] at e;cases e;exact n _ rfl
 refine I.step (g':=s.gens) (d':=s.drawn) (t':=s.toks) (h':=s.heap) (ch:=[]) (fun _ z=>nomatch z) (fun b u _ _ _ e _=>e) (fun b u _ _ _ e _=>⟨u.slots,e⟩)
  (fun b u _ e n=>by rw [zae (fun z=>by rw [z,hd] at n;cases n)];exact n) (fun b u _ e=>⟨u,e⟩) (fun b xs e=>by rw [zae (nd b _ e (fun q z=>by cases z))];exact e) (fun b u xs e=>by rw [zae (nd b _ e (fun q z=>by cases z))];exact e)
  (fun b ps e=>⟨#[],by rw [zae (nd b _ e (fun q z=>by cases z)),e];simp⟩) (fun m hm=>hm) (fun b u e=>?_) I.bare
 have st:∀ c w,H c = some w->ObjOk X.prog X.w (upd H d (.frz o (.dK kvs))) s.heap c w:=fun c w q=>
  (I.hok c w q).stay (fun _ _ _ z=>z) (fun c' q'=>by rw [zae (nd c' _ q' (fun q z=>by cases z))];exact q') fun c' xs q'=>by rw [zae (nd c' _ q' (fun q z=>by cases z))];exact q'
 by_cases hb:b = d
 .subst hb
  rw [zac] at e;cases e
  exact ⟨ho,st b _ hd⟩
 .rw [zae hb] at e
  exact st b u e
end
theorem zg2 {α β:Type} {F:α->β->Prop}:∀ {l₁:List α} {l₂:List β},Paired F l₁ l₂->∀ {i:Nat} {a:α} {b:β},l₁[i]? = some a->l₂[i]? = some b->F a b
 | _,_,.nil,i,a,b,h,_=>by simp at h
 | _,_,.cons r t,0,a,b,h1,h2=>by simp at h1 h2;subst h1 h2;exact r
 | _,_,.cons r t,i + 1,a,b,h1,h2=>zg2 t (by simpa using h1) (by simpa using h2)
def zp1  (h:keyIs k u = true):RelV (kV k) u:=by
 rcases zaE h with ⟨i,t,rfl,rfl⟩ | ⟨x,t,rfl,rfl⟩
 .exact ⟨t,rfl⟩
 .exact ⟨t,rfl⟩
def Iti (d:Addr) (o:Obj) (kvs:List (Key × V)):It:=
 ⟨fun i H=>i < kvs.length/\H d = some (.frz o (.dK kvs)),fun i H v H'=>∃ t k x,H t = none/\kvs[i]? = some (k,x)/\v = .ref t/\H' = upd H t (.tup [kV k,x]),fun i H=>i = kvs.length/\H d = some (.frz o (.dK kvs))⟩
def zi4 {P:Program} {w:World} {K:oS} {es:List Expr} {x1:_} {pos:Pos} {it d:Addr} {o:Obj} {kvs:List (Key × V)} {ents:Array DictEntry} {ep:Nat} (ho:o.data = .dict ents ep) :
  Turn P w K (.Tuple es x1 pos) (Iti d o kvs) [it] it (fun i h=>∃ ok ov,IsItemIter h it d i kvs.length ep ok ov) where
 mem:=by simp
 obj:=fun k h st c hc=>by
  obtain ⟨ok,ov,h1⟩:=st
  rw [YAg.mp hc]
  exact ⟨_,h1,fun v q=>by cases q⟩
 keep:=fun k h h' st q=>by
  obtain ⟨ok,ov,h1⟩:=st
  exact ⟨ok,ov,q it (by simp) _ h1⟩
 item:=by
  intro X hP hw hK hc k O s Y H E I hf st hg
  subst hP hw hK
  obtain ⟨hk,hd⟩:=hg
  obtain ⟨ok,ov,h1⟩:=st
  obtain ⟨eo,z,hS,vs,rel,o',es',ep',e',xd,dd,kk,pp,nn⟩:=I.hok d _ hd
  rw [eo] at e'
  cases e'
  rw [ho] at dd
  cases dd
  have hlen:kvs.length = vs.length:=rel.length
  obtain ⟨⟨kk0,vv⟩,hvs⟩:∃ p,vs[k]? = some p:=⟨_,YAd (by omega)⟩
  obtain ⟨⟨k0,x0⟩,hkv⟩:∃ p,kvs[k]? = some p:=⟨_,YAd hk⟩
  have hrel:k0 = kk0/\RelV x0 vv:=zg2 rel hkv hvs
  obtain ⟨rfl,rx⟩:=hrel
  have dat:s.heap.DictAt (zax X.prog X.w) d vs ep:=⟨o,ents,eo,xd,ho,kk,pp,nn⟩
  rw [hlen] at h1
  refine wpAny_pyNext_items_item (knd:=zax X.prog X.w) h1 dat hvs fun key h' hkey g1 g2 g3 kp=>⟨_,rfl,?_⟩
  refine wpAny_letOwnedTupleGo_items g1 fun h'' z' sb=>?_
  obtain ⟨f0,f1,f2,f3,f4,f5⟩:=hf it (by simp)
  have tz:s.heap.objs.size ≠ it:=YA0 (YAp h1)
  have hn:H s.heap.objs.size = none:=I.hok.fresh (YAl _)
  have kp2:∀ b u,b ∉ [it]->s.heap.get? b = some u->h''.get? b = some u:=fun b u hb q=>by
   have hb':b ≠ it:=fun z=>hb (by simp [z])
   exact sb.extBut b u hb' (kp b u hb' q)
  have I1:Inv X O Y (upd H s.heap.objs.size (.tup [kV k0,x0])) { s with heap:=h'',toks:=s.toks }:=I.turnedLaid (ch:=[it]) kp2 hf (YAl _)
   ⟨by show 2 <= sizeLine;decide,[key,vv],.cons (zp1 hkey) (.cons rx .nil),⟨_,sb.extBut _ _ tz g2,rfl,_,rfl⟩⟩
  refine ⟨.ref s.heap.objs.size,_,I1,rfl,⟨_,k0,x0,hn,hkv,rfl,rfl⟩,⟨_,_,by rw [hlen];exact z'⟩,fun c hc=>?_⟩
  rw [YAg.mp hc,zae tz.symm]
  exact f0
 done:=by
  intro X hP hw hK hc k O s Y H E I hf st hg
  subst hP hw hK
  obtain ⟨hk,hd⟩:=hg
  obtain ⟨ok,ov,h1⟩:=st
  obtain ⟨eo,z,hS,vs,rel,o',es',ep',e',xd,dd,kk,pp,nn⟩:=I.hok d _ hd
  rw [eo] at e'
  cases e'
  rw [ho] at dd
  cases dd
  have hlen:kvs.length = vs.length:=rel.length
  have dat:s.heap.DictAt (zax X.prog X.w) d vs ep:=⟨o,ents,eo,xd,ho,kk,pp,nn⟩
  rw [hlen] at h1
  have hh:X.A.handled = none:=I.ok.hd hc
  refine wpAny_pyNext_items_end (knd:=zax X.prog X.w) hh h1 dat (by rw [YCc];omega) fun h' eb=>⟨rfl,?_⟩
  exact I.turnedAll (t':=s.toks) (ch:=[it]) (fun b u hb q=>eb b u (fun z=>hb (by simp [z])) q) hf
 self:=fun _ _ _ _ _ st h=>by
  obtain ⟨ok,ov,h1⟩:=st
  exact zf5 h1 h
def zok (td:TE):TI:=fun Y H R=>td Y H fun x H1=>∃ d kvs,x = .ref d/\H1 d = some (.dK kvs)/\∀ o,R (Iti d o kvs) (upd H1 d (.frz o (.dK kvs)))
def zll {X:Cx} {es:List Expr} {x1:_} {tpos:Pos} {o:Expr} {td:TE} {apos pos:Pos} (ho:PE X o td) (hbase:attributeBase o "items" X.env (eval o X.env) = eval o X.env:=by rfl) (hline:(apos.endLine == pos.line) = true:=by rfl) :
  PI X (.Tuple es x1 tpos) (.Call (.Attribute o "items" apos) [] [] pos) (zok td):=by
 intro O s Y H R I h
 refine YDu (T := "dict") (id := "dict.items") hbase rfl hline YBP PySem.F.slot_dict_items PySem.F.type_dict_items (thn (ho O s Y H _ I h) fun u s1 ⟨x,H1,I1,rx,d,kvs,ex,hd,q⟩=>?_)
 subst ex
 obtain rfl:u = Value.ref d:=rx
 obtain ⟨z,hS,vs,rel,dd⟩:=ziH I1.hok hd
 refine ⟨dd.typeIs,dd.mapOf.noDict,?_⟩
 show wpAny _ _ (callWith pos (.builtin "dict.items") [.ref d] [] []) _ _ s1
 obtain ⟨ob,ents,ep,e1,e2,e3,e4,e5,e6⟩:=id dd
 refine method_meetsIn PySem.F.slot_dict_items PySem.F.entry_dict_items rfl (PySem.evalArgs_none ⟨rfl,dd.typeIs,PySem.F.args_dict_items_1 _,_,meets_dict_items (zax X.prog X.w) d hS,⟨vs,dd⟩,?_⟩)
 have k1:∀ b q,s1.heap.get? b = some q->(s1.heap.push { cls:=.type "dict_items",data:=.fields #[.ref d] }).get? b = some q:=fun b q hq=>YAe _ hq
 have I2:Inv X O Y H1 { s1 with heap:=s1.heap.push { cls:=.type "dict_items",data:=.fields #[.ref d] } }:=I1.kept (t':=s1.toks) k1
 have I3:=I2.freeze hd (k1 _ _ e1)
 have dat:(s1.heap.push { cls:=.type "dict_items",data:=.fields #[.ref d] }).DictAt (zax X.prog X.w) d vs ep:=⟨ob,ents,k1 _ _ e1,e2,e3,e4,e5,e6⟩
 refine wpAny_pyIter_items (knd:=zax X.prog X.w) (s:={ s1 with heap:=s1.heap.push { cls:=.type "dict_items",data:=.fields #[.ref d] } }) ⟨_,YAo _ rfl,rfl,rfl⟩ dat ?_
 have I4:Inv X O Y (upd H1 d (.frz ob (.dK kvs))) { s1 with heap:=(s1.heap.push { cls:=.type "dict_items",data:=.fields #[.ref d] }).push { cls:=.type "dict_itemiterator",data:=.fields #[.none,.bool false,.ref d,.int 0 0,.int vs.length 0,.int ep 0,.none,.none] } }:=I3.kept (t':=s1.toks) fun b q hq=>YAe _ hq
 refine ⟨_,[(s1.heap.push { cls:=.type "dict_items",data:=.fields #[.ref d] }).objs.size],_,_,_,rfl,I4,zi4 (kvs:=kvs) (d:=d) e3,⟨.none,.none,?_⟩,fun c hc=>?_,q ob⟩
 .rw [rel.length];exact YAo _ rfl
 .rw [YAg.mp hc]
  exact I3.fpOk (YAl _) (I3.hok.fresh (YAl _))
def zjf {d:Addr} {o:Obj} {kvs:List (Key × V)} {g:TG} {tb:TS} {D:Ends} {Y:St} {H:Hp} (Pv:Nat->St->Hp->Prop) (h0:Pv 0 Y H) (hl:∀ i Y H,i <= kvs.length->Pv i Y H->H d = some (.frz o (.dK kvs)))
  (hs:∀ i k x t Y H,kvs[i]? = some (k,x)->H t = none->Pv i Y H->g (.ref t) Y (upd H t (.tup [kV k,x])) fun Y2 H2=>tb { D with nx:=Pv (i + 1),ct:=Pv (i + 1),bk:=D.nx } Y2 H2) (hd:∀ Y H,Pv kvs.length Y H->D.nx Y H) :
  ∃ W:Nat->Nat->St->Hp->Prop,(∃ m,W 0 m Y H)/\∀ i m Y H,W i m Y H ->
   ((Iti d o kvs).stop i H/\D.nx Y H)\/((Iti d o kvs).go i H/\∃ N:St->Hp->Prop,(∀ Y' H',N Y' H'->∃ m',m' < m/\W (i + 1) m' Y' H')/\∀ x H',(Iti d o kvs).yld i H x H'->g x Y H' fun Y2 H2=>tb { D with nx:=N,ct:=N,bk:=D.nx } Y2 H2):=by
 refine ⟨fun i m Y H=>m = kvs.length - i/\i <= kvs.length/\Pv i Y H,⟨kvs.length,by simp,YAD _,h0⟩,?_⟩
 rintro i m Y H ⟨rfl,hi,p⟩
 have q:=hl i Y H hi p
 by_cases hlt:i < kvs.length
 .refine .inr ⟨⟨hlt,q⟩,Pv (i + 1),fun Y' H' p'=>⟨kvs.length - (i + 1),by omega,rfl,hlt,p'⟩,fun v H' y=>?_⟩
  obtain ⟨t,k,x,hn,ex,rfl,rfl⟩:=y
  exact hs i k x t Y H ex hn p
 .have e:i = kvs.length:=by omega
  subst e
  exact .inl ⟨⟨rfl,q⟩,hd Y H p⟩
def zc7:splitId "dict.__len__" = some ("dict","__len__"):=by decide +kernel
section
variable {prog:Program} {w:World} {A:Around} {E:Value->Shared->Prop} {s:Shared}
theorem zcO {α β:Type} {F:α->β->Prop}:∀ {l₁:List α} {l₂:List β},Paired F l₁ l₂->∀ {i:Nat} {a:α} {b:β},l₁[i]? = some a->l₂[i]? = some b->F a b
 | _,_,.nil,i,a,b,h,_=>by simp at h
 | _,_,.cons r t,0,a,b,h1,h2=>by simp at h1 h2;subst h1 h2;exact r
 | _,_,.cons r t,i + 1,a,b,h1,h2=>zcO t (by simpa using h1) (by simpa using h2)
def ziZ:Key->Int
 | .inl i=>i
 | .inr _=>0
def zgM  (hh:A.handled = none) (hS:(a == sysModules) = false) (dd:s.heap.DictOf (zax prog w) a vs) (hk:∀ p ∈ vs,∃ i,p.1 = Sum.inl i) (hz:vs.length <= 60)
  (h:∀ us h' tk,IntsAre us (vs.map fun p=>ziZ p.1)->(∀ b o,s.heap.get? b = some o->h'.get? b = some o)->s.heap.objs.size < h'.objs.size->Q us { s with heap:=h',toks:=tk }) :
  wpAny (model prog w) A (collect (.ref a)) Q E s:=by
 obtain ⟨ob,ents,ep,e1,e2,e3,e4,e5,e6⟩:=id dd
 unfold collect
 refine YAa (YDn (YBX entry_proto_collect' ?_))
 show wpAny _ _ (do again (.builtin "list.__iadd__" ⟨[<- newList [],.ref a],[]⟩)) _ _ s
 refine YAa (YDE (YAb ⟨YDk _ (by decide +kernel),YBX entry_list_iadd' ?_⟩))
 show wpAny _ A.in1 (Builtin.List.listExtendWith (.ref s.heap.objs.size) (.ref a) (.ref s.heap.objs.size)) _ _ { s with heap:=s.heap.push (seqObj "list" #[] 0) }
 have alt:a < s.heap.objs.size:=YAp e1
 have dat:(s.heap.push (seqObj "list" #[] 0)).DictAt (zax prog w) a vs ep:=⟨ob,ents,YAe _ e1,e2,e3,e4,e5,e6⟩
 have hTa:Shared.TypeIs { s with heap:=s.heap.push (seqObj "list" #[] 0) } (.ref a) "dict" := dat.dictOf.typeIs
 unfold Builtin.List.listExtendWith
 refine YAa (YBG hTa ?_)
 have h1:Builtin.List.listSameRef (.ref s.heap.objs.size) (.ref a) = false:=by simp [Builtin.List.listSameRef,YA0 alt]
 have h2:(Value.type "dict" == Value.type "list") = false:=by decide
 have h3:(Value.type "dict" == Value.type "tuple") = false:=by decide
 simp only [h1,h2,h3,YC5,YAK,YBn]
 refine YAa (wpAny_pyIter_dict (s:={ s with heap:=s.heap.push (seqObj "list" #[] 0) }) hS dat ?_)
 have zpush:(s.heap.push (seqObj "list" #[] 0)).objs.size = s.heap.objs.size + 1:=YBm ..
 generalize hIt:(s.heap.push (seqObj "list" #[] 0)).objs.size = it at *
 have k2:∀ b o,(s.heap.push (seqObj "list" #[] 0)).get? b = some o->((s.heap.push (seqObj "list" #[] 0)).push { cls:=.type "dict_keyiterator",data:=.fields #[.ref a,.int 0 0,.int vs.length 0,.int ep 0] }).get? b = some o:=fun b o e=>YAe _ e
 have hit0:((s.heap.push (seqObj "list" #[] 0)).push { cls:=.type "dict_keyiterator",data:=.fields #[.ref a,.int 0 0,.int vs.length 0,.int ep 0] }).IsKeyIter it a 0 vs.length ep:=⟨_,by rw [<- hIt];exact YAo _ rfl,rfl,rfl⟩
 generalize ((s.heap.push (seqObj "list" #[] 0)).push { cls:=.type "dict_keyiterator",data:=.fields #[.ref a,.int 0 0,.int vs.length 0,.int ep 0] }) = h2' at *
 have dat2:h2'.DictAt (zax prog w) a vs ep:=dat.at' fun o e=>k2 _ _ e
 have hTb:Shared.TypeIs { s with heap:=h2' } (.ref a) "dict" := dat2.dictOf.typeIs
 refine YAa (YAR ?_)
 unfold Builtin.List.listLengthHint
 refine YAa (YBx hTb PySem.F.slot_dict_len.lookup ?_)
 dsimp only
 rw [zc7]
 dsimp only
 refine YAa (YBD hTb isSubtype_dict_dict ?_)
 refine za0 (by decide) ?_
 refine zdX (by decide +kernel) ?_
 refine YAa (YBG hTb ?_)
 refine YAb ?_
 refine zdX (by decide +kernel) ?_
 refine YAa (YBT ?_)
 have hS1:h2'.get? s.heap.objs.size = some { cls:=.type "list",data:=.seq #[] }:=k2 _ _ (YAo _ rfl)
 refine YAa ?_
 show wpAny _ A.in1 (updateSeq s.heap.objs.size (·.push .none) >>= fun _=>updateSeq s.heap.objs.size (·.pop)) _ _ _
 refine YAa (YBz (s:={ s with heap:=h2' }) hS1 rfl ?_)
 have hS2:=YAI (Obj.mapSeq (·.push Value.none)) hS1 rfl
 refine YBz (hz:=by seq_fits) hS2 rfl ?_
 have hS3:=YAI (Obj.mapSeq (·.pop)) hS2 rfl
 have oth:∀ b o,b ≠ s.heap.objs.size->h2'.get? b = some o->((h2'.update s.heap.objs.size (Obj.mapSeq (·.push Value.none))).update s.heap.objs.size (Obj.mapSeq (·.pop))).get? b = some o:=fun b o hb e=>
  (YAU _ _ (Ne.symm hb)).trans ((YAU _ _ (Ne.symm hb)).trans e)
 have nit:it ≠ s.heap.objs.size:=by rw [zpush];exact YA0 (YBp _)
 have nS:s.heap.objs.size ∉ [it,a]:=by
  simp only [YAs,YAT,YB7,not_or]
  exact ⟨nit.symm,YA0 alt⟩
 have nia:a ≠ it:=by rw [zpush];exact YAt (YA8 alt)
 have W:=(Walks.dictKeys (prog:=prog) (w:=w) (A:=A.in1) (knd:=zax prog w) hh it a nia vs ep).toS
 have x3:((h2'.update s.heap.objs.size (Obj.mapSeq (·.push Value.none))).update s.heap.objs.size (Obj.mapSeq (·.pop))).IsKeyIter it a 0 vs.length ep/\((h2'.update s.heap.objs.size (Obj.mapSeq (·.push Value.none))).update s.heap.objs.size (Obj.mapSeq (·.pop))).DictAt (zax prog w) a vs ep:=
  ⟨hit0.at fun o e=>oth _ _ nit e,dat2.at' fun o e=>oth _ _ (YAt alt) e⟩
 refine YAb ⟨YCJ YCd _,YCA W (by rw [YAL];omega) _ nS _ vs.length 0 _ _ _ rfl (YAD _) x3 hS3 (YD0 _) fun s' acc' c' hm' hS' hacc=>?_⟩
 refine YAa (wpAny_load hS' ?_)
 refine YAb ?_
 have hI:IntsAre acc'.toList (vs.map fun p=>ziZ p.1):=by
  have gen:∀ (us:List Value) (ns:List Int),us.length = ns.length->(∀ (i:Nat) u n,us[i]? = some u->ns[i]? = some n->∃ t,u = .int n t)->IntsAre us ns:=by
   intro us
   induction us with
   | nil=>intro ns hl _;cases ns with
    | nil=>exact .nil
    | cons _ _=>simp at hl
   | cons u us ih=>
    intro ns hl hf
    cases ns with
    | nil=>simp at hl
    | cons n ns=>
     obtain ⟨t,e⟩:=hf 0 u n rfl rfl
     subst e
     exact .cons n t (ih ns (by simpa using hl) fun i u' n' h1 h2=>hf (i + 1) u' n' (by simpa using h1) (by simpa using h2))
  refine gen _ _ (by rw [YBW,hacc.1,YAc]) fun i u n hu hn=>?_
  obtain ⟨k,x,e1',e2'⟩:=hacc.2 i u (by rw [<- YBI];exact hu)
  rw [YAk,e1'] at hn
  have hn':ziZ k = n:=Option.some.inj hn
  obtain ⟨j,ej⟩:=hk _ (YAA e1')
  have ej':k = Sum.inl j:=ej
  subst ej'
  rcases zaE (show keyIs (Sum.inl j) u = true from e2') with ⟨i',t,h1',h2'⟩ | ⟨x',t,h1',h2'⟩
  .cases h1'
   refine ⟨t,?_⟩
   rw [h2',<- hn'];rfl
  .cases h1'
 obtain ⟨hh',g',d',tk',o'⟩:=s'
 have eg:g' = s.gens:=hm'.gens
 have ed:d' = s.drawn:=hm'.drawn
 have eo:o' = s.os:=hm'.os
 subst eg ed eo
 refine h acc'.toList hh' tk' hI (fun b o e=>?_) (YAp hS')
 have hb1:=YAp e
 exact hm'.heap b o (by
  simp only [YAs,YAT,YB7,not_or]
  exact ⟨YAt hb1,by rw [zpush];exact YAt (YA8 hb1)⟩) (oth b o (YAt hb1) (k2 b o (YAe _ e)))
def zfc  (hh:A.handled = none) (hS:(a == sysModules) = false) (dd:s.heap.DictOf (zax prog w) a vs) (hk:∀ p ∈ vs,∃ i,p.1 = Sum.inl i) (hz:vs.length <= 60) (hnd:(vs.map fun p=>ziZ p.1).Nodup)
  (h:∀ l (out:List Value) ns' h' tk n,IntsAre out ns'->ns'.Pairwise (· < ·)->(∀ k,k ∈ ns' ↔ k ∈ vs.map fun p=>ziZ p.1)->s.heap.objs.size <= l->h'.get? l = some { cls:=.type "list",data:=.seq out.toArray n } ->
   (∀ b o,s.heap.get? b = some o->h'.get? b = some o)->Q (.ref l) { s with heap:=h',toks:=tk }) :
  wpAny (model prog w) A (call (.builtin "sorted") [.ref a]) Q E s:=by
 refine Calls.call_function_entry kind_sorted plain_sorted entry_sorted (args_sorted1 _) ?_
 unfold Builtin.«sorted»
 refine YAa (m:=checkCount "sorted" 1 1 _) (YAb ?_)
 refine YAa (zgM (A:=A.in1) hh hS dd hk hz fun us h1 tk hI k1 hz1=>?_)
 have hl:us.length < 64:=by
  have e:=hI.length
  rw [YAc] at e
  omega
 refine YAa (YDE ?_ (by rw [YAL];omega))
 have hoL:(h1.push (seqObj "list" us.toArray 0)).get? h1.objs.size = some (seqObj "list" us.toArray 0):=YAo _ rfl
 refine YAa (YAR (YAN slot_list_sort ⟨_,hoL,rfl⟩ entry_list_sort (list_sort_tree hoL hI hl fun out ns' a1 a2 a3=>⟨_,rfl,?_⟩) (args_list_sort _)))
 refine YAb ⟨_,rfl,?_⟩
 obtain ⟨n,hat⟩:=sortedHeap_at (out:=out) hoL
 refine h h1.objs.size out.toList ns' _ tk n a1 ?_ (fun k=>a2.mem_iff) (YDf hz1) hat fun b o e=>?_
 .have nd':ns'.Nodup:=a2.nodup_iff.mpr hnd
  exact (YA1.mpr fun i j hi hj hij=>by
   have q1:=YA1.mp a3 i j hi hj hij
   have q2:ns'[i] ≠ ns'[j]:=fun z=>absurd ((YCW nd').mp z) (YAt hij)
   omega)
 .have hb:=YAp (k1 b o e)
  rw [sortedHeap_old (YAt hb) (by rw [size_push'];exact YA8 hb)]
  exact YAe _ (k1 b o e)
end
section
variable {X:Cx}
noncomputable def zme:List V->Hp->VK->Prop:=fun vs H Q=>∃ (p:Addr) (ks:List (Int × V)),vs = [.ref p]/\H p = some (.dK (ks.map fun k=>(Sum.inl k.1,k.2)))/\ks.length <= 60/\(ks.map (·.1)).Nodup /\
  ∀ (l:Addr) (ns:List Int),H l = none->ns.Pairwise (· < ·)->(∀ k:Int,k ∈ ns ↔ k ∈ ks.map (·.1))->Q (.ref l) (upd H l (.lst (ns.map V.int)))
def zgm (hc:X.calm = true):CallR X (.builtin "sorted") zme:=by
 intro O s Y H vs us Q I r h
 obtain ⟨p,ks,rfl,hq,hb,hnd,q⟩:=h
 obtain ⟨u,rfl,rx⟩:=zdv r
 cases rx
 obtain ⟨z,hS,ws,rel,dd⟩:=ziH I.hok hq
 have hlen:ks.length = ws.length:=by have:=rel.length;rwa [YAc] at this
 have hkeys:ws.map (fun p=>ziZ p.1) = ks.map (·.1):=by
  apply YDH
  .rw [YAc,YAc,hlen]
  .intro i h1 h2
   rw [YAc] at h1 h2
   have e:=Paired.mapP rel (G:=fun a b=>a.1 = b.1) fun a b h=>h.1
   have:=zcO e (i:=i) (a:=(Sum.inl ks[i].1,ks[i].2)) (b:=ws[i]) (by rw [YAk,YAd h2];rfl) (YAd h1)
   rw [YCE,YCE,<- this];rfl
 have hin:∀ p ∈ ws,∃ i,p.1 = Sum.inl i:=fun y hy=>by
  obtain ⟨i,hi⟩:=YA4 hy
  have h1:=(YAh.mp hi).1
  have e:=Paired.mapP rel (G:=fun a b=>a.1 = b.1) fun a b h=>h.1
  have:=zcO e (i:=i) (a:=(Sum.inl ks[i].1,ks[i].2)) (b:=y) (by rw [YAk,YAd (by omega)];rfl) hi
  exact ⟨_,this.symm⟩
 refine zfc (I.ok.hd hc) hS dd hin (by omega) (by rw [hkeys];exact hnd) fun l out ns' h' tk n hI hp hm hl he hk=>?_
 have hn:H l = none:=I.hok.fresh hl
 have hle:(ns'.map V.int).length <= sizeLine:=by
  have:=zaQ (hp.imp fun h=>YDR h) fun x hx=>(hm x).mp hx
  rw [YAc] at this
  rw [YAc,YAL];omega
 refine ⟨.ref l,upd H l (.lst (ns'.map V.int)),?_,rfl,q l ns' hn hp fun k=>by rw [hm k,hkeys]⟩
 exact I.laid (t':=tk) hk hl ⟨hle,out,n,zfJ hI,he⟩
end
end L2
namespace HT
open PySem PySem.Spec PyProof.Rows
section
variable {prog:Program} {w:World} {A:Around} {E:Value->Shared->Prop} {s:Shared}
def getItem_tuple_whole {t sl:Addr} {items:Array Value} {vl vu:Value} {lo hi:Option Int} {Q:Value->Shared->Prop} (ht:IsTup s.heap t items) (hs:s.heap.IsSliceOf sl vl vu .none) (pl:IsPart vl lo) (pu:IsPart vu hi)
  (hw:sIx items.size 0 lo = 0/\sIx items.size items.size hi = items.size)
  (h:Q (.ref t) s):wpAny (model prog w) A (getItem (.ref t) (.ref sl)) Q E s:=by
 obtain ⟨os,hos,hcs,hds⟩:=id hs
 have hTs:s.TypeIs (.ref sl) "slice" := ⟨os,hos,hcs⟩
 unfold getItem
 try with_reducible refine YAR ?_
 first | refine YAa (YAb ?_) | skip
 refine YAa (YDs ht.typeIs (by decide) ?_)
 refine YAa (YA6 (name:=Str.ofString "__getitem__") ht.typeIs YAQ
  (YAN YAQ ht.typeIs YC8 ?_ (YDi _ _)))
 show wpAny _ _ (Builtin.Tuple.tupleItemsOf (.ref t) >>= _) _ _ s
 refine YAa (tupleItemsOf_ ht ?_)
 refine YAa (YBG hTs ?_)
 rw [if_pos (by decide)]
 refine YAa (zcn hs pl pu ?_)
 have hyes:((((sIx items.size 0 lo:Nat):Int) == 0 && (1:Int) == 1 && (sIx items.size items.size hi - sIx items.size 0 lo) == items.size) = true):=by
  rw [hw.1,hw.2];simp
 show wpAny _ _ (if (((sIx items.size 0 lo:Nat):Int) == 0 && (1:Int) == 1 && (sIx items.size items.size hi - sIx items.size 0 lo) == items.size) = true then _ else _) _ _ s
 rw [if_pos hyes]
 unfold Builtin.Tuple.tupleIsExact
 refine YAa (YAa (YBG ht.typeIs (YAb ?_)))
 rw [if_pos (by decide)]
 refine YAa (YBT ?_)
 exact YAb ⟨_,rfl,YAb h⟩
def zlH (xs:List Value):(List.range xs.length).filterMap (fun (m:Nat)=>xs.toArray[(((xs.length:Int) - 1) + (m:Int) * (-1)).toNat]?) = xs.reverse:=by
 apply List.ext_getElem?
 intro i
 have e:∀ k,k < xs.length->(fun (m:Nat)=>xs.toArray[(((xs.length:Int) - 1) + (m:Int) * (-1)).toNat]?) k = xs[xs.length - 1 - k]?:=fun k hk=>by
  have:(((xs.length:Int) - 1) + (k:Int) * (-1)).toNat = xs.length - 1 - k:=by omega
  show xs.toArray[_]? = _
  rw [this];simp
 have gen:∀ n,n <= xs.length->(List.range n).filterMap (fun (m:Nat)=>xs.toArray[(((xs.length:Int) - 1) + (m:Int) * (-1)).toNat]?) = (List.range n).map fun m=>xs.reverse[m]?.getD .none:=by
  intro n
  induction n with
  | zero=>intro _;rfl
  | succ n ih=>
   intro hn
   rw [YCK,List.filterMap_append,YAv,ih (by omega)]
   congr 1
   have h1:=e n (by omega)
   have h2:xs.reverse[n]? = xs[xs.length - 1 - n]?:=List.getElem?_reverse (by omega)
   have h3:xs[xs.length - 1 - n]? = some xs[xs.length - 1 - n]:=YAd (by omega)
   have h1':xs.toArray[(((xs.length:Int) - 1) + (n:Int) * (-1)).toNat]? = xs[xs.length - 1 - n]?:=h1
   rw [YBa,h1',h3,YAf,h2,h3];rfl
 rw [gen _ (YAl _)]
 by_cases hi:i < xs.length
 .rw [YAk,List.getElem?_range hi]
  have:xs.reverse[i]? = some (xs.reverse[i]'(by simpa using hi)):=YAd (by simpa using hi)
  show some (xs.reverse[i]?.getD Value.none) = _
  rw [this];rfl
 .rw [YB8 (by simpa using YDF hi),YB8 (by simpa using YDF hi)]
def getItem_tuple_rev {t sl:Addr} {items:List Value} {u:Tok} {Q:Value->Shared->Prop} (ht:IsTup s.heap t items.toArray) (hs:s.heap.IsSliceOf sl .none .none (.int (-1) u))
  (h:Q (.ref s.heap.objs.size) { s with heap:=s.heap.push { cls:=.type "tuple",data:=.seq items.reverse.toArray } })
  (hsz:items.length <= sizeLine):wpAny (model prog w) A (getItem (.ref t) (.ref sl)) Q E s:=by
 have htake:sizeOk (.seq items.reverse.toArray):=by
  show items.reverse.toArray.size <= sizeLine
  rw [YAz,YCF];exact hsz
 obtain ⟨os,hos,hcs,hds⟩:=id hs
 have hTs:s.TypeIs (.ref sl) "slice" := ⟨os,hos,hcs⟩
 unfold getItem
 try with_reducible refine YAR ?_
 first | refine YAa (YAb ?_) | skip
 refine YAa (YDs ht.typeIs (by decide) ?_)
 refine YAa (YA6 (name:=Str.ofString "__getitem__") ht.typeIs YAQ
  (YAN YAQ ht.typeIs YC8 ?_ (YDi _ _)))
 show wpAny _ _ (Builtin.Tuple.tupleItemsOf (.ref t) >>= _) _ _ s
 refine YAa (tupleItemsOf_ ht ?_)
 refine YAa (YBG hTs ?_)
 rw [if_pos (by decide)]
 have ap:∀ {Q':Int × Int × Nat->Shared->Prop},Q' ((items.length:Int) - 1,-1,items.length) s->wpAny (model prog w) A.in1 (Builtin.Slice.sliceApplied (.ref sl) (pure (items.toArray.size:Int))) Q' E s:=by
  intro Q' h'
  unfold Builtin.Slice.sliceApplied Builtin.Slice.sliceFields
  refine YAa (YAa (YCP hos hds (x:=.none) rfl (YAa (YCP hos hds (x:=.none) rfl (YAa (YCP hos hds (x:=.int (-1) u) rfl (YAb ?_)))))))
  refine YAa (slicePart_int ?_)
  show wpAny _ _ (if ((-1:Int) == 0) = true then _ else _) _ _ s
  rw [if_neg (by decide)]
  refine YAa (YDm (YAa (YDm (YAa (YAb ?_)))))
  show wpAny _ _ (match Builtin.Slice.sliceAdjust none none (-1) (items.toArray.size:Int) with | (lo,hi)=>pure (lo,(-1:Int),Builtin.Slice.slicePlaces lo hi (-1))) _ _ s
  have e1:Builtin.Slice.sliceAdjust none none (-1) (items.toArray.size:Int) = ((items.length:Int) - 1,-1):=by
   unfold Builtin.Slice.sliceAdjust;simp
  rw [e1]
  show wpAny _ _ (pure ((items.length:Int) - 1,(-1:Int),Builtin.Slice.slicePlaces ((items.length:Int) - 1) (-1) (-1))) _ _ s
  have e2:Builtin.Slice.slicePlaces ((items.length:Int) - 1) (-1) (-1) = items.length:=by
   unfold Builtin.Slice.slicePlaces
   have h1:¬ ((-1:Int) > 0):=by omega
   simp only [h1,YBn,Int.neg_neg,Int.ediv_one]
   split <;> omega
  rw [e2]
  exact YAb h'
 refine YAa (ap ?_)
 have hno:¬ ((((items.length:Int) - 1) == 0 && (-1:Int) == 1 && items.length == items.toArray.size) = true):=by
  intro q
  rw [YAX,YAX] at q
  exact absurd q.1.2 (by decide)
 show wpAny _ _ (if (((items.length:Int) - 1) == 0 && (-1:Int) == 1 && items.length == items.toArray.size) = true then _ else _) _ _ s
 rw [if_neg hno,zlH]
 first
  | exact YAa (m:=Builtin.Tuple.tupleExact _) (YAG (YAb ⟨_,rfl,YAb h⟩) htake)
  | exact YAa (m:=Builtin.Tuple.tupleExact _) (YAG (YAa (YAb (YAb ⟨_,rfl,YAb h⟩))) htake)
  | exact YAa (YAa (m:=Builtin.Tuple.tupleExact _) (YAG (YAb (YAb ⟨_,rfl,YAb h⟩)) htake))
  | exact YAa (YAa (m:=Builtin.Tuple.tupleExact _) (YAG (YAb ⟨_,rfl,YAb h⟩) htake))
end
end HT
namespace L2
open PySem PySem.Spec PyProof.Rows
section
variable {X:Cx}
def rSlG (K:oS):V->Option Int->Option Int->Hp->VK->Prop:=fun x lo hi H Q=>∃ a xs,x = .ref a/\SqT K H a xs/\∀ p H',Same H H'->SqT K H' p (cutV xs lo hi)->Q (.ref p) H'
def zkC:SlR X (rSlG X.K):=by
 intro O s Y H x v vl vu lo hi sl Q I rx hs pl pu h
 obtain ⟨a,xs,rfl,hx,q⟩:=h
 by_cases hw:HT.sIx xs.length 0 lo = 0/\HT.sIx xs.length xs.length hi = xs.length
 .cases rx
  obtain ⟨its,r,ht,hz⟩:=I.tuple hx
  have hlen:its.toArray.size = xs.length:=by rw [YAz];exact r.length.symm
  refine ⟨"tuple",_,YAQ.lookup,ht.typeIs,?_⟩
  refine HT.getItem_tuple_whole ht hs pl pu (by rw [hlen];exact hw) ?_
  refine ⟨.ref a,H,I,rfl,q a H (fun _ _ e=>e) ?_⟩
  have:cutV xs lo hi = xs:=by unfold cutV;rw [hw.1,hw.2];simp
  rw [this];exact hx
 .exact zn5 O s Y H (.ref a) v vl vu lo hi sl Q I rx hs pl pu ⟨a,xs,rfl,hx,hw,fun p hp=>q p _ (fun c o e=>by rw [zae (zad e hp)];exact e) (SqT.of zac)⟩
def zpm (K:oS) (te:TE) (ts:TE):TE:=fun Y H Q=>te Y H fun x H1=>ts Y H1 fun y H2=>∃ a xs,x = .ref a/\y = .int (-1)/\SqT K H2 a xs/\∀ p,H2 p = none->Q (.ref p) (upd H2 p (.tup xs.reverse))
def zlL  (r:Vals xs us):Vals xs.reverse us.reverse:=by
 induction r with
 | nil=>exact .nil
 | cons h t ih=>rw [YDx,YDx];exact ih.append (.cons h .nil)
def zm7 {e st:Expr} {te ts:TE} {p2 pos:Pos} (he:PE X e te) (hst:PE X st ts):PE X (.Subscript e (.Slice none none (some st) p2) pos) (zpm X.K te ts):=by
 intro O s Y H Q I h
 refine Subscript_ (thn (he O s Y H _ I h) fun v s1 ⟨x,H1,I1,r1,q1⟩=>?_)
 refine wpAny_Slice ?_
 rw [evalPart_none,evalPart_some]
 refine YAb (YAb (thn (hst O s1 Y H1 _ I1 q1) fun vs s2 ⟨y,H2,I2,r2,q2⟩=>?_))
 obtain ⟨a,xs,rfl,rfl,hx,q⟩:=q2
 cases r1
 obtain ⟨t,rfl⟩:=r2
 have I4:Inv X O Y H2 { s2 with heap:=s2.heap.push { cls:=.type "slice",data:=.fields #[.none,.none,.int (-1) t] } }:=I2.kept (t':=s2.toks) fun b ob q=>YAe _ q
 show wpAny (model X.prog X.w) X.A (subscriptTail e (.Slice none none (some st) p2) (.ref a) (.ref s2.heap.objs.size)) (EP X O Y Q) X.xe { s2 with heap:=s2.heap.push { cls:=.type "slice",data:=.fields #[.none,.none,.int (-1) t] } }
 obtain ⟨its,r,ht,hz⟩:=I4.tuple hx
 have hlen:=r.length
 refine tail_any (ops:=[.ref a,.ref s2.heap.objs.size]) ht.typeIs YAQ.lookup ?_ (by with_unfolding_all rfl)
 refine HT.getItem_tuple_rev ht (Heap.IsSliceOf.new ..) ?_ (by omega)
 refine ⟨.ref _,_,I4.laid (t':=s2.toks) (o:=.tup xs.reverse) (fun b ob q=>YAe _ q) (YAl _) ?_,rfl,q _ (I4.hok.fresh (YAl _))⟩
 exact ⟨by rw [YCF];exact hz,_,zlL r,IsTup.new _ _⟩
end
section
variable {prog:Program} {w:World} {A:Around} {E:Value->Shared->Prop} {s:Shared}
theorem zgo  (hne:t ≠ it):∀ (n i:Nat) (s:Shared) (Q:List Value->Shared->Prop),s.heap.IsListIter it t i->s.heap.IsList t items->i + n <= items.size ->
  (∀ h',h'.IsListIter it t (i + n)->Heap.SameBut it s.heap h'->Q ((items.toList.drop i).take n) { s with heap:=h' })->wpAny (model prog w) A (draw (.ref it) n) Q E s
 | 0,i,s,Q,hit,_,_,hQ=>by
  show wpAny _ _ (pure []) Q E s
  exact YAb (by simpa using hQ s.heap hit (Heap.SameBut.refl ..))
 | n + 1,i,s,Q,hit,ht,hle,hQ=>by
  have hlt:i < items.size:=by omega
  show wpAny _ _ (pyNext (.ref it) >>= _) Q E s
  refine YAa (wpAny_pyNext_list_item hit ht (x:=items[i]) (by simp [hlt]) fun h₁ hit₁ hs₁=>?_)
  refine YAa (YAR (zgo hne n (i + 1) _ _ hit₁ (ht.extBut hs₁.extBut hne) (by omega) fun h₂ hit₂ hs₂=>YAb ?_))
  have hd:items.toList.drop i = items[i] :: items.toList.drop (i + 1):=by simp [YAJ,hlt]
  have:=hQ h₂ (by rw [show i + (n + 1) = i + 1 + n by omega];exact hit₂) (hs₁.trans hs₂)
  rw [hd,YCo] at this
  exact this
def zec  (hh:A.handled = none) (ht:s.heap.IsList t items)
  (hQ:∀ h',Heap.ExtBut s.heap.objs.size s.heap h'->Q items.toList { s with heap:=h' }):wpAny (model prog w) A (unpackItems (.ref t) items.size none) Q E s:=by
 have hlt:t ≠ s.heap.objs.size:=by obtain ⟨o,ho,_⟩:=ht;exact YAt (YAp ho)
 unfold unpackItems
 refine YAa ?_
 .unfold notIterableAtAll
  refine YAa (YBx ht.typeIs slot_list_iter.lookup ?_)
  refine YAb ?_
  simp only [YAK,YBn]
  refine YAa (YAR (YCg ht ?_))
  have ht0:=ht.push { cls:=.type "list_iterator",data:=.fields #[.ref t,.int 0 0] }
  refine YAa (YAR (zgo hlt items.size 0 _ _ ⟨_,YAo _ rfl,rfl,rfl⟩ ht0 (by omega) fun h₁ hit₁ hs₁=>?_))
  have hall:List.take items.size (List.drop 0 items.toList) = items.toList:=by
   rw [List.drop_zero];exact YCO (by simp)
  rw [hall]
  rw [if_neg (by simp)]
  have ht₁:h₁.IsList t items:=ht0.extBut hs₁.extBut hlt
  refine YAa (YAR (wpAny_pyNext_list_end hh hit₁ ht₁ (by simp) fun h₂ he₂=>?_))
  simp only [Option.isSome_none,YAK,YBn]
  refine YAb (hQ h₂ fun b o hb e=>he₂ b o hb (hs₁.extBut b o hb (YAe _ e)))
def zdM  {x1}   (hh:A.handled = none) (ht:s.heap.IsList t items)
  (hn:(assignEach elts env).length = items.size) (hstar:(assignEach elts env).findIdx? (·.1) = none)
  (h:∀ h',Heap.ExtBut s.heap.objs.size s.heap h'->wpAny (model prog w) A (assignInOrder ((assignEach elts env).map (·.2)) items.toList) Q E { s with heap:=h' }) :
  wpAny (model prog w) A (assign (.Tuple elts x1 pos) env (.ref t)) Q E s:=by
 rw [assign_Tuple]
 refine YAa (YBj ?_)
 unfold unpack
 rw [hn,hstar]
 exact YAa (YAR (zec hh ht h))
end
def gSeq (K:oS) (n:Nat) (t:TGs):TG:=fun v Y H Q=>∃ a xs,v = .ref a/\(SqT K H a xs\/SqL K H a xs)/\xs.length = n/\t xs Y H Q
def zdg    (hc:X.calm = true) (h:PGs X es t)
  (hn:(assignEach es X.env).length = n:=by rfl) (hst:(assignEach es X.env).findIdx? (·.1) = none:=by rfl):PG X (.Tuple es k pos) (gSeq X.K n t):=by
 intro O s Y H v u Q I r hw
 obtain ⟨a,xs,e1,hq,hl,hw⟩:=hw
 rcases hq with hq | hq
 .exact zbM hc h hn hst O s Y H v u Q I r ⟨a,xs,e1,hq,hl,hw⟩
 .subst e1
  cases r
  obtain ⟨its,rv,ht,hz⟩:=I.list hq
  refine zdM (I.ok.hd hc) ht.isList (by simp [hn,<- hl,rv.length]) hst fun h' hx=>?_
  have I1:Inv X O Y H { s with heap:=h' }:=I.kept (t':=s.toks) fun b o e=>hx b o (YAt (YAp e)) e
  exact h O _ Y H xs _ Q I1 (by simpa using rv) hw
def zox {K:oS} {n:Nat} {t:TGs} (h:zeY t):zdP (gSeq K n t):=fun v Y H Q Q' f ⟨a,xs,e,s,l,q⟩=>⟨a,xs,e,s,l,h _ _ _ _ _ f q⟩
def znT {K:oS} {sub:List (Option Nat)} {n:Nat} {t:TGs} (h:zfq sub t):zea sub (gSeq K n t):=fun v Y H Q ⟨a,xs,e,s,l,q⟩=>⟨a,xs,e,s,l,h _ _ _ _ q⟩
section
variable {P:Program} {w:World} {A:Around} {E:Value->Shared->Prop} {s:Shared} {z a b i j:Addr} {f g:List Addr} {n m k:Nat} {F1 F2:Nat->Value->Prop} {S1 S2:Nat->Heap->Prop}
end
section
variable {X:Cx}
def zoH (K:oS):R2:=fun x y H Q=>∃ a b xs ys,x = .ref a/\y = .ref b/\SqT K H a xs/\SqT K H b ys/\xs.length + ys.length <= sizeLine /\
 (xs = []->Q (.ref b) H)/\(xs ≠ []->ys = []->Q (.ref a) H)/\(∀ p,H p = none->Q (.ref p) (upd H p (.tup (xs ++ ys))))
def znx:OpR X (binaryOp .Add) (zoH X.K):=by
 intro O s Y H x y v u Q I rx ry h
 obtain ⟨a,b,xs,ys,rfl,rfl,ha,hb,hz,q1,q2,q3⟩:=h
 by_cases hx:xs = []
 .subst hx
  cases rx
  cases ry
  obtain ⟨its,r1,p1,_⟩:=I.tuple ha
  obtain ⟨its2,r2,p2,_⟩:=I.tuple hb
  obtain ⟨⟨cls,dd,data,sl⟩,ho,hc,n,hd⟩:=id p1
  obtain ⟨⟨cls2,dd2,data2,sl2⟩,ho2,hc2,n2,hd2⟩:=id p2
  simp only at hc hd hc2 hd2
  subst hc hd hc2 hd2
  have hi:its = []:=r1.nil_iff.mpr rfl
  exact YDN ⟨_,ho,rfl⟩ ⟨_,ho2,rfl⟩ YCX YDB YCt YCn (YCi _ _)
   (tuple_addW0 a b its.toArray its2.toArray n n2 dd dd2 sl sl2 (by simp [hi])) ⟨ho,ho2,⟨.ref b,H,I,rfl,q1 rfl⟩⟩
 .exact zjr O s Y H (.ref a) (.ref b) v u Q I rx ry ⟨a,b,xs,ys,rfl,rfl,ha,hb,hx,hz,q2 hx,fun _ p hp=>q3 p hp⟩
def iSeq (K:oS) (tl:TE):TI:=fun Y H R=>tl Y H fun x H1=>∃ a,x = .ref a/\(((∃ xs,SqL K H1 a xs)/\R (Itl K a) H1)\/((∃ xs,SqT K H1 a xs)/\R (Itt K a) H1))
def zpb  (hl:PE X l tl):PI X tg l (iSeq X.K tl):=by
 intro O s Y H R I h
 refine thn (hl O s Y H _ I h) fun v s1 ⟨x,H1,I1,r1,q1⟩=>?_
 obtain ⟨a,e,q1⟩:=q1
 subst e
 cases r1
 rcases q1 with ⟨⟨xs,hq⟩,q⟩ | ⟨⟨xs,hq⟩,q⟩
 .obtain ⟨its,rv,p,hz⟩:=I1.list hq
  refine YCg p.isList ?_
  refine ⟨s1.heap.objs.size,[s1.heap.objs.size],_,_,H1,rfl,I1.kept (t':=s1.toks) fun b o e=>YAe _ e,zgp a _,⟨_,YAo _ rfl,rfl,rfl⟩,fun b hb=>?_,q⟩
  have e:b = s1.heap.objs.size:=by simpa using hb
  subst e
  exact I1.fpOk (YAl _) (I1.hok.fresh (YAl _))
 .obtain ⟨its,rv,p,hz⟩:=I1.tuple hq
  refine wpAny_pyIter_tuple (show s1.heap.IsTuple a its.toArray from p) ?_
  refine ⟨s1.heap.objs.size,[s1.heap.objs.size],_,_,H1,rfl,I1.kept (t':=s1.toks) fun b o e=>YAe _ e,ziO a _,⟨_,YAo _ rfl,rfl,rfl⟩,fun b hb=>?_,q⟩
  have e:b = s1.heap.objs.size:=by simpa using hb
  subst e
  exact I1.fpOk (YAl _) (I1.hok.fresh (YAl _))
end
end L2
namespace Fd
open PySem L2
inductive D where
 | non | bl (b:Bool) | int (i:Int) | str (x:Str) | tup (xs:List D) | lst (n:Bool) (xs:List D) | box
structure Bk where
 K:oS
 β:Addr
 H0:Hp
 G0:Hp
mutual
def Rep (c:Bk) (G:Hp):D->V->Prop
 | .non,v=>v = .non
 | .bl b,v=>v = .bl b
 | .int i,v=>v = .int i
 | .str x,v=>v = .str x
 | .tup xs,v=>∃ a vs,v = .ref a/\SqT c.K G a vs/\Reps c G xs vs
 | .lst n xs,v=>∃ a vs,v = .ref a/\G a = some (.lst vs)/\(n = true->c.H0 a = none)/\Reps c G xs vs
 | .box,v=>v = .ref c.β
def Reps (c:Bk) (G:Hp):List D->List V->Prop
 | [],vs=>vs = []
 | x :: xs,vs=>∃ v ws,vs = v :: ws/\Rep c G x v/\Reps c G xs ws
end
def zaN   (e:Same H H') (h:SqT K H a xs):SqT K H' a xs:=by
 rcases h with h | h
 .rcases h with h | ⟨o,h⟩
  .exact .inl (.inl (e _ _ h))
  .exact .inl (.inr ⟨o,e _ _ h⟩)
 .exact .inr h
mutual
theorem Rep.mono  (e:Same G G'):∀ {d:D} {v:V},Rep c G d v->Rep c G' d v
 | .non,_,h=>h
 | .bl _,_,h=>h
 | .int _,_,h=>h
 | .str _,_,h=>h
 | .box,_,h=>h
 | .tup xs,_,⟨a,vs,h1,h2,h3⟩=>⟨a,vs,h1,zaN e h2,Reps.mono e h3⟩
 | .lst n xs,_,⟨a,vs,h1,h2,h4,h3⟩=>⟨a,vs,h1,e _ _ h2,h4,Reps.mono e h3⟩
theorem Reps.mono  (e:Same G G'):∀ {ds:List D} {vs:List V},Reps c G ds vs->Reps c G' ds vs
 | [],_,h=>h
 | _ :: _,_,⟨v,ws,h1,h2,h3⟩=>⟨v,ws,h1,Rep.mono e h2,Reps.mono e h3⟩
end
def D.old:D->D
 | .non=>.non
 | .bl b=>.bl b
 | .int i=>.int i
 | .str x=>.str x
 | .box=>.box
 | .tup xs=>.tup (xs.map D.old)
 | .lst _ xs=>.lst false (xs.map D.old)
mutual
/-- handed on to another call -/
theorem Rep.hand  (hk:c.K = c'.K) (hb:c.β = c'.β):∀ {d:D} {v:V},Rep c G d v->Rep c' G d.old v
 | .non,_,h=>by unfold D.old;exact h
 | .bl _,_,h=>by unfold D.old;exact h
 | .int _,_,h=>by unfold D.old;exact h
 | .str _,_,h=>by unfold D.old;exact h
 | .box,_,h=>by unfold D.old;show _ = V.ref c'.β;rw [<- hb];exact h
 | .tup xs,_,⟨a,vs,h1,h2,h3⟩=>by unfold D.old;exact ⟨a,vs,h1,hk ▸ h2,Reps.hand hk hb h3⟩
 | .lst n xs,_,⟨a,vs,h1,h2,h4,h3⟩=>by unfold D.old;exact ⟨a,vs,h1,h2,(fun z=>by cases z),Reps.hand hk hb h3⟩
theorem Reps.hand  (hk:c.K = c'.K) (hb:c.β = c'.β):∀ {ds:List D} {vs:List V},Reps c G ds vs->Reps c' G (ds.map D.old) vs
 | [],_,h=>h
 | _ :: _,_,⟨v,ws,h1,h2,h3⟩=>⟨v,ws,h1,Rep.hand hk hb h2,Reps.hand hk hb h3⟩
end
mutual
/-- and back: what is newer than the inner call is newer than the outer one -/
theorem Rep.back  (hk:c'.K = c.K) (hb:c'.β = c.β) (hn:∀ a,c'.H0 a = none->c.H0 a = none):∀ {d:D} {v:V},Rep c' G d v->Rep c G d v
 | .non,_,h=>h
 | .bl _,_,h=>h
 | .int _,_,h=>h
 | .str _,_,h=>h
 | .box,_,h=>by show _ = V.ref c.β;rw [<- hb];exact h
 | .tup xs,_,⟨a,vs,h1,h2,h3⟩=>⟨a,vs,h1,hk ▸ h2,Reps.back hk hb hn h3⟩
 | .lst n xs,_,⟨a,vs,h1,h2,h4,h3⟩=>⟨a,vs,h1,h2,fun z=>hn a (h4 z),Reps.back hk hb hn h3⟩
theorem Reps.back  (hk:c'.K = c.K) (hb:c'.β = c.β) (hn:∀ a,c'.H0 a = none->c.H0 a = none):∀ {ds:List D} {vs:List V},Reps c' G ds vs->Reps c G ds vs
 | [],_,h=>h
 | _ :: _,_,⟨v,ws,h1,h2,h3⟩=>⟨v,ws,h1,Rep.back hk hb hn h2,Reps.back hk hb hn h3⟩
end
theorem Reps.length  : ∀ {ds:List D} {vs:List V},Reps c G ds vs->ds.length = vs.length
 | [],_,h=>by cases h;rfl
 | _ :: _,_,⟨v,ws,h1,_,h3⟩=>by subst h1;simp [Reps.length h3]
theorem Reps.get  : ∀ {ds:List D} {vs:List V} {i:Nat} {d:D},Reps c G ds vs->ds[i]? = some d->∃ v,vs[i]? = some v/\Rep c G d v
 | [],_,_,_,_,e=>by simp at e
 | _ :: _,_,0,_,⟨v,ws,h1,h2,_⟩,e=>by subst h1;simp at e;subst e;exact ⟨v,rfl,h2⟩
 | _ :: _,_,i + 1,d,⟨v,ws,h1,_,h3⟩,e=>by subst h1;exact Reps.get (i:=i) h3 (by simpa using e)
theorem Reps.append  : ∀ {ds es:List D} {vs ws:List V},Reps c G ds vs->Reps c G es ws->Reps c G (ds ++ es) (vs ++ ws)
 | [],_,_,_,h,k=>by cases h;exact k
 | _ :: _,_,_,_,⟨v,us,h1,h2,h3⟩,k=>by subst h1;exact ⟨v,us ++ _,rfl,h2,Reps.append h3 k⟩
def Reps.one   (h:Rep c G d v):Reps c G [d] [v]:=⟨v,[],rfl,h,rfl⟩
theorem Reps.set   (h:Rep c G d v):∀ {ds:List D} {vs:List V} (i:Nat),Reps c G ds vs->Reps c G (ds.set i d) (vs.set i v)
 | [],_,_,k=>by cases k;rfl
 | _ :: _,_,0,⟨u,us,h1,h2,h3⟩=>by subst h1;exact ⟨v,us,rfl,h,h3⟩
 | _ :: _,_,i + 1,⟨u,us,h1,h2,h3⟩=>by subst h1;exact ⟨u,us.set i v,rfl,h2,Reps.set h i h3⟩
theorem reps_ints  : ∀ {ns:List Int} {vs:List V},Reps c G (ns.map D.int) vs ↔ vs = ns.map V.int
 | [],_=>Iff.rfl
 | n :: ns,vs=>by
  constructor
  .rintro ⟨v,ws,h1,h2,h3⟩
   rw [h1,reps_ints.mp h3]
   have:v = V.int n:=h2
   rw [this];rfl
  .rintro rfl
   exact ⟨V.int n,ns.map V.int,rfl,rfl,reps_ints.mpr rfl⟩
theorem reps_bools  : ∀ {ns:List Bool} {vs:List V},Reps c G (ns.map D.bl) vs ↔ vs = ns.map V.bl
 | [],_=>Iff.rfl
 | n :: ns,vs=>by
  constructor
  .rintro ⟨v,ws,h1,h2,h3⟩
   rw [h1,reps_bools.mp h3]
   have:v = V.bl n:=h2
   rw [this];rfl
  .rintro rfl
   exact ⟨V.bl n,ns.map V.bl,rfl,rfl,reps_bools.mpr rfl⟩
def boxO (cc:Addr) (p r d:Int):HO:=.lst [.ref cc,.int p,.int r,.int d]
structure BoxD (β:Addr) (H G:Hp):Prop where
 ex:∃ cc p r d,∃ ns:List Int,H β = some (boxO cc p r d)/\0 <= p/\0 <= r/\0 <= d/\d < 2147483629/\G cc = some (.lst (ns.map V.int))/\ns.length <= 63
 still:G β = none
def BoxD.at  (b:BoxD β H G):∃ o,H β = some o:=by
 obtain ⟨cc,p,r,d,ns,h,_⟩:=b.ex;exact ⟨_,h⟩
def zl9:HO->Prop
 | .tup _=>True
 | .frz _ _=>True
 | _=>False
structure Stp (β:Addr) (H G H' G':Hp):Prop where
 gg:Same G G'
 gh:Same G' H'
 fr:∀ a o,a ≠ β->H a = some o->H' a = some o
 nw:∀ a,G' a ≠ none->G a ≠ none\/H a = none\/∃ o,H a = some o/\zl9 o
 bx:BoxD β H' G'
 b0:H β ≠ none
 bc:∀ cc p r d,H β = some (boxO cc p r d)->∃ p r d,H' β = some (boxO cc p r d)
theorem Stp.refl  (gh:Same G H) (b:BoxD β H G):Stp β H G H G:=
 ⟨Same.refl _,gh,fun _ _ _ e=>e,fun _ e=>.inl e,b,fun z=>by (obtain ⟨o,h⟩:=b.at;rw [z] at h;cases h),fun _ p r d h=>⟨p,r,d,h⟩⟩
def Stp.free  (s:Stp β H G H' G') (h:H' a = none):H a = none:=by
 cases e:H a with
 | none=>rfl
 | some o=>
  by_cases z:a = β
  .obtain ⟨o',h'⟩:=s.bx.at
   rw [z,h'] at h;cases h
  .rw [s.fr a o z e] at h;cases h
theorem Stp.trans  (s:Stp β H G H1 G1) (t:Stp β H1 G1 H2 G2):Stp β H G H2 G2:=
 ⟨s.gg.trans t.gg,t.gh,fun a o n e=>t.fr a o n (s.fr a o n e),fun a e=>(t.nw a e).elim (s.nw a) fun z=>z.elim (fun z=>.inr (.inl (s.free z))) fun ⟨o,ho,st⟩=>by
  cases e:H a with
  | none=>exact .inr (.inl rfl)
  | some o'=>
   have nb:a ≠ β:=fun z=>by
    obtain ⟨cc,p,r,d,ns,h,_⟩:=s.bx.ex
    rw [z,h] at ho;cases ho;exact st
   have:=s.fr a o' nb e
   rw [ho] at this;cases this
   exact .inr (.inr ⟨o,rfl,st⟩),t.bx,s.b0,fun cc p r d h=>by
  obtain ⟨p1,r1,d1,h1⟩:=s.bc cc p r d h
  exact t.bc cc p1 r1 d1 h1⟩
def BoxD.new  (b:BoxD β H G)  (hl:H l = none):BoxD β (upd H l o) G:=by
 obtain ⟨cc,p,r,d,ns,h,q⟩:=b.ex
 exact ⟨⟨cc,p,r,d,ns,by rw [zae (zad h hl)];exact h,q⟩,b.still⟩
def zlu (gh:Same G H)  (hl:H l = none):Same G (upd H l o):=fun a u e=>by
 rw [zae (zad (gh a u e) hl)];exact gh a u e
def Stp.own  (gh:Same G H) (b:BoxD β H G)  (hl:H l = none):Stp β H G (upd H l o) G:=
 ⟨Same.refl _,zlu gh hl,fun a u _ e=>by rw [zae (zad e hl)];exact e,fun _ e=>.inl e,b.new hl,fun z=>by (obtain ⟨o,h⟩:=b.at;rw [z] at h;cases h),fun cc p r d h=>⟨p,r,d,by rw [zae (zad h hl)];exact h⟩⟩
def zar (gh:Same G H) (hl:H l = none):G l = none:=gh.free hl
theorem Stp.still  (s:Stp β H G H' G')  (h':H' l = some o) (h0:H l = none) (hb:l ≠ β) (hg:G' l = none):Stp β H G H' (upd G' l o):=
 ⟨s.gg.trans fun a u e=>by rw [zae (zad e hg)];exact e,
 fun a u e=>by
  by_cases z:a = l
  .subst z;rw [zac] at e;rw [h'];exact e
  .rw [zae z] at e;exact s.gh a u e,
 s.fr,fun a e=>by
  by_cases z:a = l
  .subst z;exact .inr (.inl h0)
  .rw [zae z] at e;exact s.nw a e,
 ⟨by
   obtain ⟨cc,p,r,d,ns,h,p1,p2,p3,p4,hc,q⟩:=s.bx.ex
   exact ⟨cc,p,r,d,ns,h,p1,p2,p3,p4,by rw [zae (zad hc hg)];exact hc,q⟩,by rw [zae (Ne.symm hb)];exact s.bx.still⟩,s.b0,s.bc⟩
def Stp.new  (gh:Same G H) (b:BoxD β H G)  (hl:H l = none):Stp β H G (upd H l o) (upd G l o):=by
 have hb:l ≠ β:=fun z=>by obtain ⟨o,h⟩:=b.at;rw [<- z,hl] at h;cases h
 exact (Stp.own gh b hl).still zac hl hb (zar gh hl)
def zbq  (hg:G l = none):Same G (upd G l o):=fun a u e=>by rw [zae (zad e hg)];exact e
inductive Sl where
 | un | val (d:D) | own (xs:List D)
abbrev Env:=List Sl
def SlOk (c:Bk) (H G:Hp):Sl->Option (Option V)->Prop
 | .un,_=>True
 | .val d,o=>∃ v,o = some (some v)/\Rep c G d v
 | .own xs,o=>∃ a vs,o = some (some (.ref a))/\H a = some (.lst vs)/\G a = none/\c.H0 a = none/\a ≠ c.β/\Reps c G xs vs
structure Rel (c:Bk) (Z:Env) (Y:St) (H G:Hp):Prop where
 len:Z.length = Y.length
 stp:Stp c.β c.H0 c.G0 H G
 slot:∀ (i:Nat) s,Z[i]? = some s->SlOk c H G s Y[i]?
 dis:∀ (i j:Nat) a xs ys,Z[i]? = some (.own xs)->Z[j]? = some (.own ys)->Y[i]? = some (some (.ref a))->Y[j]? = some (some (.ref a))->i = j
theorem Rel.gh   (r:Rel c Z Y H G):Same G H:=r.stp.gh
theorem Rel.bx   (r:Rel c Z Y H G):BoxD c.β H G:=r.stp.bx
theorem Rel.refl   (r:Rel c Z Y H G):Stp c.β H G H G:=Stp.refl r.gh r.bx
def SlOk.step  (t:Stp c.β H G H' G'):∀ {s:Sl} {o:Option (Option V)},SlOk c H G s o->SlOk c H' G' s o
 | .un,_,_=>trivial
 | .val d,_,⟨v,h1,h2⟩=>⟨v,h1,h2.mono t.gg⟩
 | .own xs,_,⟨a,vs,h1,h2,h3,h4,h5,h6⟩=>⟨a,vs,h1,t.fr a _ h5 h2,(by
   cases e:G' a with
   | none=>rfl
   | some o=>
    rcases t.nw a (by rw [e];simp) with z | z | ⟨o',z,st⟩
    .exact absurd h3 z
    .rw [h2] at z;cases z
    .rw [h2] at z;cases z;exact st.elim),h4,h5,h6.mono t.gg⟩
theorem Rel.step   (r:Rel c Z Y H G) (t:Stp c.β H G H' G'):Rel c Z Y H' G':=
 ⟨r.len,r.stp.trans t,fun i s e=>(r.slot i s e).step t,r.dis⟩
def Rel.put    (r:Rel c Z Y H G) (h:Rep c G d v):Rel c (Z.set i (.val d)) (Y.set i (some v)) H G:=by
 refine ⟨by simp [r.len],r.stp,fun j s e=>?_,fun j k a xs ys e1 e2 e3 e4=>?_⟩
 .by_cases z:i = j
  .subst z
   have hi:i < Z.length:=by have:=(YAh.mp e).1;simpa using this
   rw [YAr hi] at e
   cases e
   exact ⟨v,by rw [YAr (by rw [<- r.len];exact hi)],h⟩
  .rw [YAj z] at e ⊢
   exact r.slot j s e
 .have nj:i ≠ j:=fun z=>by
   subst z
   have hi:i < Z.length:=by have:=(YAh.mp e1).1;simpa using this
   rw [YAr hi] at e1;cases e1
  have nk:i ≠ k:=fun z=>by
   subst z
   have hi:i < Z.length:=by have:=(YAh.mp e2).1;simpa using this
   rw [YAr hi] at e2;cases e2
  rw [YAj nj] at e1 e3
  rw [YAj nk] at e2 e4
  exact r.dis j k a xs ys e1 e2 e3 e4
def Rel.putOwn     (r:Rel c Z Y H G) (hl:H l = some (.lst vs)) (hg:G l = none) (h0:c.H0 l = none) (hb:l ≠ c.β) (h:Reps c G xs vs)
  (hn:∀ (j:Nat) ys,Z[j]? = some (.own ys)->Y[j]? ≠ some (some (.ref l))):Rel c (Z.set i (.own xs)) (Y.set i (some (.ref l))) H G:=by
 refine ⟨by simp [r.len],r.stp,fun j s e=>?_,fun j k a xs' ys e1 e2 e3 e4=>?_⟩
 .by_cases z:i = j
  .subst z
   have hi:i < Z.length:=by have:=(YAh.mp e).1;simpa using this
   rw [YAr hi] at e
   cases e
   exact ⟨l,vs,by rw [YAr (by rw [<- r.len];exact hi)],hl,hg,h0,hb,h⟩
  .rw [YAj z] at e ⊢
   exact r.slot j s e
 .by_cases zj:i = j
  .by_cases zk:i = k
   .exact zj.symm.trans zk
   .subst zj
    have hi:i < Z.length:=by have:=(YAh.mp e1).1;simpa using this
    rw [YAr (by rw [<- r.len];exact hi)] at e3
    cases e3
    rw [YAj zk] at e2 e4
    exact absurd e4 (hn k ys e2)
  .by_cases zk:i = k
   .subst zk
    have hi:i < Z.length:=by have:=(YAh.mp e2).1;simpa using this
    rw [YAr (by rw [<- r.len];exact hi)] at e4
    cases e4
    rw [YAj zj] at e1 e3
    exact absurd e3 (hn j xs' e1)
   .rw [YAj zj] at e1 e3
    rw [YAj zk] at e2 e4
    exact r.dis j k a xs' ys e1 e2 e3 e4
def Rel.write     (r:Rel c Z Y H G) (hi:Z[i]? = some (.own xs)) (hs:Y[i]? = some (some (.ref l))) (h:Reps c G ys ws) :
  Rel c (Z.set i (.own ys)) Y (upd H l (.lst ws)) G:=by
 obtain ⟨a,vs,h1,h2,h3,h4,h5,h6⟩:=r.slot i _ hi
 rw [hs] at h1
 cases h1
 have hil:i < Z.length:=(YAh.mp hi).1
 refine ⟨by simp [r.len],⟨r.stp.gg,fun b u e=>?_,fun b u n e=>?_,r.stp.nw,?_,r.stp.b0,fun cc p q d e=>by
  obtain ⟨p',q',d',e'⟩:=r.stp.bc cc p q d e
  exact ⟨p',q',d',by rw [zae (Ne.symm h5)];exact e'⟩⟩,fun j s e=>?_,fun j k b xs' ys' e1 e2 e3 e4=>?_⟩
 .rw [zae (fun z=>by rw [z,h3] at e;cases e)];exact r.gh b u e
 .rw [zae (fun z=>by rw [z,h4] at e;cases e)];exact r.stp.fr b u n e
 .obtain ⟨cc,p,q,d,ns,e,z⟩:=r.bx.ex
  exact ⟨⟨cc,p,q,d,ns,by rw [zae (Ne.symm h5)];exact e,z⟩,r.bx.still⟩
 .by_cases z:i = j
  .subst z
   rw [YAr hil] at e
   cases e
   exact ⟨l,ws,hs,zac,h3,h4,h5,h⟩
  .rw [YAj z] at e
   have q:=r.slot j s e
   cases s with
   | un=>trivial
   | val d=>exact q
   | own zs=>
    obtain ⟨b,us,g1,g2,g3⟩:=q
    have nb:b ≠ l:=fun y=>z (r.dis i j l xs zs hi e hs (by rw [g1,y]))
    exact ⟨b,us,g1,by rw [zae nb];exact g2,g3⟩
 .have f:∀ (m:Nat) zs,(Z.set i (.own ys))[m]? = some (.own zs)->∃ zs',Z[m]? = some (.own zs'):=fun m zs e=>by
   by_cases z:i = m
   .exact ⟨xs,z ▸ hi⟩
   .rw [YAj z] at e;exact ⟨zs,e⟩
  obtain ⟨_,f1⟩:=f j _ e1
  obtain ⟨_,f2⟩:=f k _ e2
  exact r.dis j k b _ _ f1 f2 e3 e4
def Rel.freeze    (r:Rel c Z Y H G) (hi:Z[i]? = some (.own xs)):∃ G',Same G G'/\Rel c (Z.set i (.val (.lst true xs))) Y H G':=by
 obtain ⟨a,vs,h1,h2,h3,h4,h5,h6⟩:=r.slot i _ hi
 have hil:i < Z.length:=(YAh.mp hi).1
 have sg:Same G (upd G a (.lst vs)):=zbq h3
 refine ⟨upd G a (.lst vs),sg,by simp [r.len],r.stp.still h2 h4 h5 h3,fun j s e=>?_,fun j k b xs' ys' e1 e2 e3 e4=>?_⟩
 .by_cases z:i = j
  .subst z
   rw [YAr hil] at e
   cases e
   exact ⟨.ref a,h1,a,vs,rfl,zac,fun _=>h4,h6.mono sg⟩
  .rw [YAj z] at e
   have q:=r.slot j s e
   cases s with
   | un=>trivial
   | val d=>obtain ⟨v,g1,g2⟩:=q;exact ⟨v,g1,g2.mono sg⟩
   | own zs=>
    obtain ⟨b,us,g1,g2,g3,g4,g5,g6⟩:=q
    have nb:b ≠ a:=fun y=>z (r.dis i j a xs zs hi e h1 (by rw [g1,y]))
    exact ⟨b,us,g1,g2,by rw [zae nb];exact g3,g4,g5,g6.mono sg⟩
 .have f:∀ (m:Nat) zs,(Z.set i (.val (.lst true xs)))[m]? = some (.own zs)->Z[m]? = some (.own zs):=fun m zs e=>by
   by_cases z:i = m
   .subst z
    rw [YAr hil] at e;cases e
   .rw [YAj z] at e;exact e
  exact r.dis j k b _ _ (f j _ e1) (f k _ e2) e3 e4
abbrev WE:=Env->(D->Prop)->Prop
abbrev WL:=Env->(List D->Prop)->Prop
abbrev WT:=Env->(Bool->Prop)->Prop
def zbf (W:WE):Prop:=∀ Z Q Q',(∀ d,Q d->Q' d)->W Z Q->W Z Q'
def zcv (W:WL):Prop:=∀ Z Q Q',(∀ d,Q d->Q' d)->W Z Q->W Z Q'
def zct (W:WT):Prop:=∀ Z Q Q',(∀ d,Q d->Q' d)->W Z Q->W Z Q'
def tD (c:Bk) (W:WE):TE:=fun Y H Q=>∃ Z G,Rel c Z Y H G/\W Z fun d=>∀ v H' G',Stp c.β H G H' G'->Rep c G' d v->Q v H'
def tDs (c:Bk) (W:WL):TA:=fun Y H Q=>∃ Z G,Rel c Z Y H G/\W Z fun ds=>∀ vs H' G',Stp c.β H G H' G'->Reps c G' ds vs->Q vs H'
def tDf (c:Bk) (W:WL):TE:=fun Y H Q=>∃ Z G,Rel c Z Y H G/\W Z fun ds=>∀ l vs H' G',Stp c.β H G H' G'->H' l = some (.lst vs)->G' l = none->H l = none->Reps c G' ds vs->Q (.ref l) H'
def tDt (c:Bk) (W:WT):TT:=fun Y H Q=>∃ Z G,Rel c Z Y H G/\W Z fun b=>∀ H' G',Stp c.β H G H' G'->Q b H'
structure DE (X:Cx) (c:Bk) (e:Expr) (W:WE):Prop where
 mono:zbf W
 pe:PE X e (tD c W)
structure DF (X:Cx) (c:Bk) (e:Expr) (W:WL):Prop where
 mono:zcv W
 pe:PE X e (tDf c W)
structure DA (X:Cx) (c:Bk) (es:List Expr) (W:WL):Prop where
 mono:zcv W
 pa:PA X es (tDs c W)
structure DT (X:Cx) (c:Bk) (e:Expr) (W:WT):Prop where
 mono:zct W
 pt:PT X e (tDt c W)
section
variable {X:Cx}
def zaZ  (h:PE X e t) (k:∀ Y H Q,t' Y H Q->t Y H Q):PE X e t':=fun O s Y H Q I q=>h O s Y H Q I (k Y H Q q)
def zgT  (h:PT X e t) (k:∀ Y H Q,t' Y H Q->t Y H Q):PT X e t':=fun O s Y H Q I q=>h O s Y H Q I (k Y H Q q)
def zmd  (h:PA X e t) (k:∀ Y H Q,t' Y H Q->t Y H Q):PA X e t':=fun pos O s Y H Q I q=>h pos O s Y H Q I (k Y H Q q)
def Rel.new0   (r:Rel c Z Y H G) (h:H l = none):c.H0 l = none:=r.stp.free h
def Rel.neβ   (r:Rel c Z Y H G) (h:H l = none):l ≠ c.β:=fun z=>by
 obtain ⟨o,e⟩:=r.bx.at;rw [<- z,h] at e;cases e
@[reducible] def valW (W:WL):WE:=fun Z Q=>W Z fun xs=>Q (.lst true xs)
def DF.de  (h:DF X c e W):DE X c e (valW W) where
 mono:=fun Z Q Q' k q=>h.mono Z _ _ (fun xs z=>k _ z) q
 pe:=zaZ h.pe fun Y H Q ⟨Z,G,r,q⟩=>⟨Z,G,r,h.mono Z _ _ (fun xs z l vs H' G' t hl hg h0 hv=>
  z (.ref l) H' (upd G' l (.lst vs)) (t.still hl h0 (r.neβ h0) hg) ⟨l,vs,rfl,zac,fun _=>r.new0 h0,hv.mono (zbq hg)⟩) q⟩
def vW (i:Nat):WE:=fun Z Q=>match Z[i]? with | some (.val d)=>Q d | _=>False
@[reducible] def kW (d:D):WE:=fun _ Q=>Q d
def dv (i:Nat)  (hN:X.N[i]? = some x:=by rfl) (hv:Vis X.env.scope x:=by first | exact Or.inl rfl | exact Or.inr (Or.inl rfl) | exact Or.inr (Or.inr rfl))
  (hd:(x == ("__debug__" : Str)) = false:=by decide) (hcd:(x == ("__classdict__" : Str)) = false:=by decide):DE X c (.Name x pos) (vW i) where
 mono:=fun Z Q Q' k q=>by
  unfold vW at q ⊢
  split at q
  .exact k _ q
  .exact q.elim
 pe:=zaZ (zdl hN hv hd hcd) fun Y H Q ⟨Z,G,r,q⟩=>by
  unfold vW at q
  split at q
  .rename_i d e
   obtain ⟨v,h1,h2⟩:=r.slot i _ e
   exact ⟨v,h1,q v H G r.refl h2⟩
  .exact q.elim
def znb (d:D):zbf (kW d):=fun _ _ _ k q=>k _ q
def zaq   : DE X c (.Constant (.int i) j pos) (kW (.int i)):=⟨znb _,zaZ zaC fun Y H Q ⟨Z,G,r,q⟩=>q _ H G r.refl rfl⟩
def zj4  : DE X c (.Constant .none j pos) (kW .non):=⟨znb _,zaZ zgr fun Y H Q ⟨Z,G,r,q⟩=>q _ H G r.refl rfl⟩
def zd1   : DE X c (.Constant (.str i) j pos) (kW (.str i)):=⟨znb _,zaZ zon fun Y H Q ⟨Z,G,r,q⟩=>q _ H G r.refl rfl⟩
abbrev F2:=D->D->(D->Prop)->Prop
def zbF (f:F2):Prop:=∀ x y Q Q',(∀ d,Q d->Q' d)->f x y Q->f x y Q'
@[reducible] def binW (f:F2) (A B:WE):WE:=fun Z Q=>A Z fun x=>B Z fun y=>f x y Q
def OpD (c:Bk) (f:F2) (r:R2):Prop:=∀ (H G:Hp) (x y:D) (u v:V) (Q:VK),Same G H->BoxD c.β H G->(∀ a,H a = none->c.H0 a = none)->Rep c G x u->Rep c G y v ->
 f x y (fun d=>∀ v H' G',Stp c.β H G H' G'->Rep c G' d v->Q v H')->r u v H Q
def zel   (fm:zbF f) (mA:zbf A) (mB:zbf B) (hr:OpD c f r) (Y:St) (H:Hp) (Q:VK) (h:tD c (binW f A B) Y H Q):tOp r (tD c A) (tD c B) Y H Q:=by
 obtain ⟨Z,G,R,q⟩:=h
 refine ⟨Z,G,R,mA Z _ _ (fun x q1 u H1 G1 t1 e1=>⟨Z,G1,R.step t1,mB Z _ _ (fun y q2 v H2 G2 t2 e2=>?_) q1⟩) q⟩
 refine hr H2 G2 x y u v Q t2.gh t2.bx (fun a z=>R.new0 (t1.free (t2.free z))) (e1.mono t2.gg) e2 (fm x y _ _ (fun d z w H3 G3 t3 e3=>z w H3 G3 ((t1.trans t2).trans t3) e3) q2)
def zdy  (fm:zbF f) (mA:zbf A) (mB:zbf B):zbf (binW f A B):=fun Z Q Q' k q=>mA Z _ _ (fun x q1=>mB Z _ _ (fun y q2=>fm x y _ _ k q2) q1) q
def zj3    (fm:zbF f) (ho:OpR X (binaryOp op) r) (hr:OpD c f r) (hA:DE X c a A) (hB:DE X c b B):DE X c (.BinOp a op b pos) (binW f A B):=
 ⟨zdy fm hA.mono hB.mono,zaZ (zbA ho hA.pe hB.pe) fun Y H Q h=>zel fm hA.mono hB.mono hr Y H Q h⟩
def zmV    (fm:zbF f) (ho:OpR X (compareOp op) r) (hr:OpD c f r) (hA:DE X c a A) (hB:DE X c b B) (hm:behindInMarks op b = false):DE X c (.Compare a [op] [b] pos) (binW f A B):=
 ⟨zdy fm hA.mono hB.mono,zaZ (zkK ho hA.pe hB.pe hm) fun Y H Q h=>zel fm hA.mono hB.mono hr Y H Q h⟩
def blW (A:WE):WT:=fun Z Q=>A Z fun d=>match d with | .bl b=>Q b | _=>False
def zhk (m:zbf A):zct (blW A):=fun Z Q Q' k q=>m Z _ _ (fun d z=>by
 cases d <;> first | exact k _ z | exact z) q
def zmQ  (m:zbf A) (Y:St) (H:Hp) (Q:Bool->Hp->Prop) (h:tDt c (blW A) Y H Q):zoC (tD c A) Y H Q:=by
 obtain ⟨Z,G,R,q⟩:=h
 refine ⟨Z,G,R,m Z _ _ (fun d z v H1 G1 t e=>?_) q⟩
 cases d with
 | bl b=>exact ⟨b,e,z H1 G1 t⟩
 | _=>exact z.elim
def zft    (fm:zbF f) (ho:OpR X (compareOp op) r) (hr:OpD c f r) (hA:DE X c a A) (hB:DE X c b B) (hm:behindInMarks op b = false):DT X c (.Compare a [op] [b] pos) (blW (binW f A B)):=
 ⟨zhk (zdy fm hA.mono hB.mono),zgT (zci ho hA.pe hB.pe hm) fun Y H Q h=>by
  obtain ⟨Z,G,R,q⟩:=zmQ (zdy fm hA.mono hB.mono) Y H Q h
  exact zel fm hA.mono hB.mono hr Y H _ ⟨Z,G,R,q⟩⟩
def addD:F2
 | .int i,.int j,Q=>Q (.int (i + j))
 | .str a,.str b,Q=>a.length + b.length <= 100000/\Q (.str (a ++ b))
 | .lst _ xs,.lst _ ys,Q=>xs.length + ys.length <= 100000/\Q (.lst true (xs ++ ys))
 | .tup xs,.tup ys,Q=>xs.length + ys.length <= 100000/\Q (.tup (xs ++ ys))
 | _,_,_=>False
def subD:F2
 | .int i,.int j,Q=>Q (.int (i - j))
 | _,_,_=>False
def mulD:F2
 | .int i,.int j,Q=>CMul i j/\Q (.int (i * j))
 | .lst _ xs,.int k,Q=>(0 <= k/\k <= 1000/\xs.length <= 1000)/\Q (.lst true (List.replicate k.toNat xs).flatten)
 | _,_,_=>False
def modD:F2
 | .int i,.int j,Q=>0 < j/\Q (.int (i % j))
 | _,_,_=>False
def powD:F2
 | .int i,.int j,Q=>CPow i j/\Q (.int (i ^ j.toNat))
 | _,_,_=>False
def small5 (h:n <= 100000):n <= sizeLine:=YAZ h (by rw [YAL];decide)
def zpn:zbF addD:=fun x y Q Q' k q=>by
 cases x <;> cases y <;> first | exact k _ q | exact ⟨q.1,k _ q.2⟩ | exact q
def zpZ:zbF subD:=fun x y Q Q' k q=>by
 cases x <;> cases y <;> first | exact k _ q | exact q
def zp8:zbF mulD:=fun x y Q Q' k q=>by
 cases x <;> cases y <;> first | exact ⟨q.1,k _ q.2⟩ | exact q
def zpX:zbF modD:=fun x y Q Q' k q=>by
 cases x <;> cases y <;> first | exact ⟨q.1,k _ q.2⟩ | exact q
def zpF:zbF powD:=fun x y Q Q' k q=>by
 cases x <;> cases y <;> first | exact ⟨q.1,k _ q.2⟩ | exact q
def zor (K:oS):R2:=fun x y H Q=>(rI0 (fun i j=>.int (i + j)) x y H Q\/(∃ i j,x = .str i/\y = .str j/\i.length + j.length <= sizeLine/\Q (.str (i ++ j)) H))\/(rCat x y H Q\/zoH K x y H Q)
def znj {c:Bk} (hK:c.K = X.K):OpR X (binaryOp .Add) (zor c.K):=by rw [hK];exact (op_add.or zi1).or (op_cat.or znx)
def zn7:OpD c addD (zor c.K):=by
 intro H G x y u v Q gh bx h0 rx ry q
 cases x with
 | int i=>cases y with
  | int j=>cases rx;cases ry;exact .inl (.inl ⟨i,j,rfl,rfl,q _ H G (Stp.refl gh bx) rfl⟩)
  | _=>exact q.elim
 | str i=>cases y with
  | str j=>cases rx;cases ry;exact .inl (.inr ⟨i,j,rfl,rfl,small5 q.1,q.2 _ H G (Stp.refl gh bx) rfl⟩)
  | _=>exact q.elim
 | lst n xs=>cases y with
  | lst m ys=>
   obtain ⟨a,vs,rfl,ha,_,rv⟩:=rx
   obtain ⟨b,ws,rfl,hb,_,rw'⟩:=ry
   refine .inr (.inl ⟨a,b,vs,ws,rfl,rfl,gh _ _ ha,gh _ _ hb,?_,fun p hp=>?_⟩)
   .rw [<- rv.length,<- rw'.length];exact small5 q.1
   .have hg:=zar gh hp
    exact q.2 (.ref p) _ _ (Stp.new gh bx hp) ⟨p,vs ++ ws,rfl,zac,fun _=>h0 p hp,(rv.append rw').mono (zbq hg)⟩
  | _=>exact q.elim
 | tup xs=>cases y with
  | tup ys=>
   obtain ⟨a,vs,rfl,ha,rv⟩:=rx
   obtain ⟨b,ws,rfl,hb,rw'⟩:=ry
   refine .inr (.inr ⟨a,b,vs,ws,rfl,rfl,zaN gh ha,zaN gh hb,?_,fun e=>?_,fun _ e=>?_,fun p hp=>?_⟩)
   .rw [<- rv.length,<- rw'.length];exact small5 q.1
   .subst e
    have:xs = []:=by have:=rv.length;simpa using this
    subst this
    exact q.2 (.ref b) H G (Stp.refl gh bx) ⟨b,ws,rfl,hb,rw'⟩
   .subst e
    have:ys = []:=by have:=rw'.length;simpa using this
    subst this
    exact q.2 (.ref a) H G (Stp.refl gh bx) ⟨a,vs,rfl,ha,by simpa using rv⟩
   .have hg:=zar gh hp
    exact q.2 (.ref p) _ _ (Stp.new gh bx hp) ⟨p,vs ++ ws,rfl,SqT.of zac,(rv.append rw').mono (zbq hg)⟩
  | _=>exact q.elim
 | _=>exact q.elim
def zdr   (hA:DE X c a A) (hB:DE X c b B) (hK:c.K = X.K:=by rfl):DE X c (.BinOp a .Add b pos) (binW addD A B):=zj3 zpn (znj hK) zn7 hA hB
def zol:OpD c subD (rI0 fun i j=>.int (i - j)):=by
 intro H G x y u v Q gh bx h0 rx ry q
 cases x with
 | int i=>cases y with
  | int j=>cases rx;cases ry;exact ⟨i,j,rfl,rfl,q _ H G (Stp.refl gh bx) rfl⟩
  | _=>exact q.elim
 | _=>exact q.elim
def ziQ   (hA:DE X c a A) (hB:DE X c b B):DE X c (.BinOp a .Sub b pos) (binW subD A B):=zj3 zpZ zko zol hA hB
def zpt:R2:=fun x y H Q=>rI CMul (fun i j=>.int (i * j)) x y H Q\/rRep x y H Q
def zo5:OpD c mulD zpt:=by
 intro H G x y u v Q gh bx h0 rx ry q
 cases x with
 | int i=>cases y with
  | int j=>cases rx;cases ry;exact .inl ⟨i,j,rfl,rfl,q.1,q.2 _ H G (Stp.refl gh bx) rfl⟩
  | _=>exact q.elim
 | lst n xs=>cases y with
  | int k=>
   obtain ⟨a,vs,rfl,ha,_,rv⟩:=rx
   cases ry
   obtain ⟨⟨k0,k1,hz⟩,q⟩:=q
   refine .inr ⟨a,k,vs,rfl,rfl,gh _ _ ha,by omega,by omega,?_,fun p hp=>?_⟩
   .rw [<- rv.length,YAL]
    have h1:k.toNat <= 1000:=by omega
    have:=Nat.mul_le_mul hz h1
    omega
   .have hg:=zar gh hp
    have:∀ m:Nat,Reps c G (List.replicate m xs).flatten (List.replicate m vs).flatten:=fun m=>by
     induction m with
     | zero=>rfl
     | succ m ih=>rw [YBf,YBf,YBS,YBS];exact rv.append ih
    exact q (.ref p) _ _ (Stp.new gh bx hp) ⟨p,_,rfl,zac,fun _=>h0 p hp,(this _).mono (zbq hg)⟩
  | _=>exact q.elim
 | _=>exact q.elim
def zmS   (hA:DE X c a A) (hB:DE X c b B):DE X c (.BinOp a .Mult b pos) (binW mulD A B):=zj3 zp8 (op_mul.or zl7) zo5 hA hB
def zof:OpD c modD (rI (fun _ j=>0 < j) fun i j=>.int (i % j)):=by
 intro H G x y u v Q gh bx h0 rx ry q
 cases x with
 | int i=>cases y with
  | int j=>cases rx;cases ry;exact ⟨i,j,rfl,rfl,q.1,q.2 _ H G (Stp.refl gh bx) rfl⟩
  | _=>exact q.elim
 | _=>exact q.elim
def zn3   (hA:DE X c a A) (hB:DE X c b B):DE X c (.BinOp a .Mod b pos) (binW modD A B):=zj3 zpX zfw zof hA hB
def znO:OpD c powD (rI CPow fun i j=>.int (i ^ j.toNat)):=by
 intro H G x y u v Q gh bx h0 rx ry q
 cases x with
 | int i=>cases y with
  | int j=>cases rx;cases ry;exact ⟨i,j,rfl,rfl,q.1,q.2 _ H G (Stp.refl gh bx) rfl⟩
  | _=>exact q.elim
 | _=>exact q.elim
def zpU   (hA:DE X c a A) (hB:DE X c b B):DE X c (.BinOp a .Pow b pos) (binW powD A B):=zj3 zpF zjT znO hA hB
def negD:D->(D->Prop)->Prop
 | .int i,Q=>Q (.int (-i))
 | _,_=>False
@[reducible] def unW (f:D->(D->Prop)->Prop) (A:WE):WE:=fun Z Q=>A Z fun x=>f x Q
def zns   (hA:DE X c a A):DE X c (.UnaryOp .USub a pos) (unW negD A) where
 mono:=fun Z Q Q' k q=>hA.mono Z _ _ (fun x z=>by cases x <;> first | exact k _ z | exact z) q
 pe:=zaZ (zlm zhT hA.pe) fun Y H Q ⟨Z,G,r,q⟩=>⟨Z,G,r,hA.mono Z _ _ (fun x z v H' G' t e=>by
  cases x with
  | int i=>exact ⟨i,e,z _ H' G' t rfl⟩
  | _=>exact z.elim) q⟩
def cmpD (p:Int->Int->Bool):F2
 | .int i,.int j,Q=>Q (.bl (p i j))
 | _,_,_=>False
def zm9 (p:Int->Int->Bool):zbF (cmpD p):=fun x y Q Q' k q=>by
 cases x <;> cases y <;> first | exact k _ q | exact q
def zjl (p:Int->Int->Bool):OpD c (cmpD p) (rI0 fun i j=>.bl (p i j)):=by
 intro H G x y u v Q gh bx h0 rx ry q
 cases x with
 | int i=>cases y with
  | int j=>cases rx;cases ry;exact ⟨i,j,rfl,rfl,q _ H G (Stp.refl gh bx) rfl⟩
  | _=>exact q.elim
 | _=>exact q.elim
@[reducible] def ltD:F2:=cmpD fun i j=>decide (i < j)
@[reducible] def gtD:F2:=cmpD fun i j=>decide (j < i)
def d_gt   (hA:DE X c a A) (hB:DE X c b B):DE X c (.Compare a [.Gt] [b] pos) (binW gtD A B):=zmV (zm9 _) zmR (zjl _) hA hB (zb3 _)
def t_lt   (hA:DE X c a A) (hB:DE X c b B):DT X c (.Compare a [.Lt] [b] pos) (blW (binW ltD A B)):=zft (zm9 _) zm8 (zjl _) hA hB (zb3 _)
def t_gt   (hA:DE X c a A) (hB:DE X c b B):DT X c (.Compare a [.Gt] [b] pos) (blW (binW gtD A B)):=zft (zm9 _) zmR (zjl _) hA hB (zb3 _)
def isN:D->Bool
 | .non=>true
 | _=>false
@[reducible] def isNW (A:WE):WE:=fun Z Q=>A Z fun x=>Q (.bl (isN x))
@[reducible] def zkP (A:WE):WE:=fun Z Q=>A Z fun x=>Q (.bl (!isN x))
def zjt   (h:Rep c G d v):decide (v = V.non) = isN d:=by
 cases d with
 | non=>have:v = V.non:=h;subst this;rfl
 | bl b=>have:v = V.bl b:=h;subst this;rfl
 | int b=>have:v = V.int b:=h;subst this;rfl
 | str b=>have:v = V.str b:=h;subst this;rfl
 | box=>have:v = V.ref c.β:=h;subst this;rfl
 | tup xs=>obtain ⟨a,vs,rfl,_⟩:=h;rfl
 | lst n xs=>obtain ⟨a,vs,rfl,_⟩:=h;rfl
def zlw (m:zbf A):zbf (isNW A):=fun Z Q Q' k q=>m Z _ _ (fun x z=>k _ z) q
def zkI (m:zbf A):zbf (zkP A):=fun Z Q Q' k q=>m Z _ _ (fun x z=>k _ z) q
def zoo   (hA:DE X c a A):DT X c (.Compare a [.Is] [.Constant .none j pos'] pos) (blW (isNW A)):=
 ⟨zhk (zlw hA.mono),zgT (zdZ (zop hA.pe)) fun Y H Q ⟨Z,G,r,q⟩=>⟨Z,G,r,hA.mono Z _ _ (fun x z v H' G' t e=>⟨_,rfl,by rw [zjt e];exact z H' G' t⟩) q⟩⟩
def zkf   (hA:DE X c a A):DT X c (.Compare a [.IsNot] [.Constant .none j pos'] pos) (blW (zkP A)):=
 ⟨zhk (zkI hA.mono),zgT (zdZ (zmJ hA.pe)) fun Y H Q ⟨Z,G,r,q⟩=>⟨Z,G,r,hA.mono Z _ _ (fun x z v H' G' t e=>⟨_,rfl,by rw [zjt e];exact z H' G' t⟩) q⟩⟩
end
mutual
def toPy:D->PyData
 | .non=>.none
 | .bl b=>.bool b
 | .int i=>.int i
 | .str x=>.str x
 | .box=>.none
 | .tup xs=>.tuple (zee xs)
 | .lst _ xs=>.list (zee xs)
def zee:List D->List PyData
 | []=>[]
 | x :: xs=>toPy x :: zee xs
end
mutual
def layD:D->Bool
 | .non=>true
 | .bl _=>true
 | .int _=>true
 | .str x=>PyData.canLay0 (.str x)
 | .box=>false
 | .tup xs=>zd7 xs
 | .lst _ xs=>zd7 xs
def zd7:List D->Bool
 | []=>true
 | x :: xs=>layD x && zd7 xs
end
mutual
theorem zcb:∀ d:D,layD d = true->(toPy d).canLay0 = true
 | .non,_=>by unfold toPy PyData.canLay0;rfl
 | .bl _,_=>by unfold toPy PyData.canLay0;rfl
 | .int _,_=>by unfold toPy PyData.canLay0;rfl
 | .str _,h=>by unfold toPy;unfold layD at h;exact h
 | .tup xs,h=>by unfold toPy PyData.canLay0;unfold layD at h;exact zch xs h
 | .lst _ xs,h=>by unfold toPy PyData.canLay0;unfold layD at h;exact zch xs h
theorem zch:∀ ds:List D,zd7 ds = true->PyData.canLayAll0 (zee ds) = true
 | [],_=>by unfold zee PyData.canLayAll0;rfl
 | x :: xs,h=>by
  unfold zee PyData.canLayAll0
  unfold zd7 at h
  have:=(YAX _ _ ▸ h:layD x = true/\zd7 xs = true)
  rw [zcb x this.1,zch xs this.2];rfl
end
section
variable {X:Cx}
mutual
theorem Rep.reads   (hK:c.K = X.K) (I:Inv X O Y H s) (gh:Same G H):∀ (d:D) {v:V} {u:Value},Rep c G d v->RelV v u->layD d = true->∃ as,Reads s.heap u (toPy d) as
 | .non,v,u,h,r,_=>by have:v = V.non:=h;subst this;cases r;exact ⟨_,.none⟩
 | .bl b,v,u,h,r,_=>by have:v = V.bl b:=h;subst this;cases r;exact ⟨_,.bool b⟩
 | .int i,v,u,h,r,_=>by have:v = V.int i:=h;subst this;obtain ⟨t,rfl⟩:=r;exact ⟨_,.int i t⟩
 | .str i,v,u,h,r,_=>by have:v = V.str i:=h;subst this;obtain ⟨t,rfl⟩:=r;exact ⟨_,.str i t⟩
 | .box,v,u,h,r,l=>by cases l
 | .tup xs,v,u,⟨a,vs,h1,h2,h3⟩,r,l=>by
  subst h1;cases r
  obtain ⟨its,rv,p,_⟩:=I.tuple (hK ▸ zaN gh h2)
  obtain ⟨as,q⟩:=Reps.reads hK I gh xs h3 rv l
  obtain ⟨o,ho,hc,n,hd⟩:=p
  unfold toPy
  exact ⟨_,.tuple ho hc hd (by simpa using q)⟩
 | .lst _ xs,v,u,⟨a,vs,h1,h2,_,h3⟩,r,l=>by
  subst h1;cases r
  obtain ⟨_,its,n,rv,ho⟩:=I.hok a _ (gh _ _ h2)
  obtain ⟨as,q⟩:=Reps.reads hK I gh xs h3 rv l
  unfold toPy
  exact ⟨_,.list ho rfl rfl (by simpa using q)⟩
theorem Reps.reads   (hK:c.K = X.K) (I:Inv X O Y H s) (gh:Same G H):∀ (ds:List D) {vs:List V} {us:List Value},Reps c G ds vs->Vals vs us->zd7 ds = true->∃ as,ReadsAll s.heap us (zee ds) as
 | [],vs,us,h,r,_=>by have:vs = []:=h;subst this;cases r;exact ⟨_,.nil⟩
 | x :: xs,vs,us,⟨v,ws,h1,h2,h3⟩,r,l=>by
  subst h1
  cases r with
  | cons r1 r2=>
   unfold zd7 at l
   have l':=(YAX _ _ ▸ l:layD x = true/\zd7 xs = true)
   obtain ⟨as,q1⟩:=Rep.reads hK I gh x h2 r1 l'.1
   obtain ⟨bs,q2⟩:=Reps.reads hK I gh xs h3 r2 l'.2
   exact ⟨_,.cons q1 q2⟩
end
def eqB (x y:D):Bool:=PyData.eqv (toPy x) (toPy y)
def eqOk (x y:D):Prop:=layD x = true/\layD y = true/\min (toPy x).depth (toPy y).depth <= 50
@[reducible] def eqD:F2:=fun x y Q=>eqOk x y/\Q (.bl (eqB x y))
@[reducible] def neD:F2:=fun x y Q=>eqOk x y/\Q (.bl (!eqB x y))
def rEqD (c:Bk) (neg:Bool):R2:=fun u v H Q=>∃ G x y,Same G H/\Rep c G x u/\Rep c G y v/\eqOk x y/\Q (.bl (if neg then !eqB x y else eqB x y)) H
def zlZ (hK:c.K = X.K) (hu:X.A.units + 64 < cLine):OpR X (compareOp .Eq) (rEqD c false):=by
 intro O s Y H u v a b Q I ra rb ⟨G,x,y,gh,hx,hy,⟨lx,ly,ld⟩,q⟩
 obtain ⟨as,qa⟩:=hx.reads hK I gh x ra lx
 obtain ⟨bs,qb⟩:=hy.reads hK I gh y rb ly
 exact SeqAt.compareEq_reads qa qb (zcb x lx) (zcb y ly) (by omega) ⟨.bl _,H,I,rfl,q⟩
def zo2 (hK:c.K = X.K) (hu:X.A.units + 64 < cLine):OpR X (compareOp .NotEq) (rEqD c true):=by
 intro O s Y H u v a b Q I ra rb ⟨G,x,y,gh,hx,hy,⟨lx,ly,ld⟩,q⟩
 obtain ⟨as,qa⟩:=hx.reads hK I gh x ra lx
 obtain ⟨bs,qb⟩:=hy.reads hK I gh y rb ly
 exact SeqAt.compareNe_reads qa qb (zcb x lx) (zcb y ly) (by omega) ⟨.bl _,H,I,rfl,q⟩
def m_eq:zbF eqD:=fun x y Q Q' k q=>⟨q.1,k _ q.2⟩
def m_ne:zbF neD:=fun x y Q Q' k q=>⟨q.1,k _ q.2⟩
def zn0:OpD c eqD (rEqD c false):=fun H G x y u v Q gh bx h0 rx ry q=>⟨G,x,y,gh,rx,ry,q.1,q.2 _ H G (Stp.refl gh bx) rfl⟩
def zpA:OpD c neD (rEqD c true):=fun H G x y u v Q gh bx h0 rx ry q=>⟨G,x,y,gh,rx,ry,q.1,q.2 _ H G (Stp.refl gh bx) rfl⟩
def inOk (x:D) (ys:List D):Prop:=layD x = true/\zd7 ys = true/\min (PyData.depthAll (zee ys)) (toPy x).depth <= 50
def inB (x:D) (ys:List D):Bool:=(zee ys).any fun y=>PyData.eqv y (toPy x)
def inD (neg:Bool):F2
 | x,.lst _ ys,Q=>inOk x ys/\Q (.bl (if neg then !inB x ys else inB x ys))
 | x,.tup ys,Q=>inOk x ys/\Q (.bl (if neg then !inB x ys else inB x ys))
 | _,_,_=>False
def rInD (c:Bk) (neg:Bool):R2:=fun u v H Q=>∃ G x y,Same G H/\Rep c G x u/\Rep c G y v/\inD neg x y fun d=>∃ b,d = .bl b/\Q (.bl b) H
def zmh (hK:c.K = X.K) (hu:X.A.units + 64 < cLine):OpR X (compareOp .In) (rInD c false):=by
 intro O s Y H u v a b Q I ra rb ⟨G,x,y,gh,hx,hy,q⟩
 cases y with
 | lst n ys=>
  obtain ⟨⟨lx,ly,ld⟩,_,e,q⟩:=q
  cases e
  obtain ⟨as,qa⟩:=hx.reads hK I gh x ra lx
  obtain ⟨bs,qb⟩:=hy.reads hK I gh (.lst n ys) rb (by unfold layD;exact ly)
  unfold toPy at qb
  exact SeqAt.in_list_reads qb qa (zch ys ly) (zcb x lx) (by omega) ⟨.bl _,H,I,rfl,q⟩
 | tup ys=>
  obtain ⟨⟨lx,ly,ld⟩,_,e,q⟩:=q
  cases e
  obtain ⟨as,qa⟩:=hx.reads hK I gh x ra lx
  obtain ⟨bs,qb⟩:=hy.reads hK I gh (.tup ys) rb (by unfold layD;exact ly)
  unfold toPy at qb
  exact SeqAt.in_tuple_reads qb qa (zch ys ly) (zcb x lx) (by omega) ⟨.bl _,H,I,rfl,q⟩
 | _=>exact q.elim
def zki (hK:c.K = X.K) (hu:X.A.units + 64 < cLine):OpR X (compareOp .NotIn) (rInD c true):=by
 intro O s Y H u v a b Q I ra rb ⟨G,x,y,gh,hx,hy,q⟩
 cases y with
 | lst n ys=>
  obtain ⟨⟨lx,ly,ld⟩,_,e,q⟩:=q
  cases e
  obtain ⟨as,qa⟩:=hx.reads hK I gh x ra lx
  obtain ⟨bs,qb⟩:=hy.reads hK I gh (.lst n ys) rb (by unfold layD;exact ly)
  unfold toPy at qb
  exact SeqAt.notIn_list_reads qb qa (zch ys ly) (zcb x lx) (by omega) ⟨.bl _,H,I,rfl,q⟩
 | tup ys=>
  obtain ⟨⟨lx,ly,ld⟩,_,e,q⟩:=q
  cases e
  obtain ⟨as,qa⟩:=hx.reads hK I gh x ra lx
  obtain ⟨bs,qb⟩:=hy.reads hK I gh (.tup ys) rb (by unfold layD;exact ly)
  unfold toPy at qb
  exact SeqAt.notIn_tuple_reads qb qa (zch ys ly) (zcb x lx) (by omega) ⟨.bl _,H,I,rfl,q⟩
 | _=>exact q.elim
def m_in (neg:Bool):zbF (inD neg):=fun x y Q Q' k q=>by
 cases y <;> first | exact ⟨q.1,k _ q.2⟩ | exact q
def zmx (neg:Bool):OpD c (inD neg) (rInD c neg):=fun H G x y u v Q gh bx h0 rx ry q=>⟨G,x,y,gh,rx,ry,by
 cases y with
 | lst n ys=>exact ⟨q.1,_,rfl,q.2 _ H G (Stp.refl gh bx) rfl⟩
 | tup ys=>exact ⟨q.1,_,rfl,q.2 _ H G (Stp.refl gh bx) rfl⟩
 | _=>exact q.elim⟩
section
variable {c:Bk} {a b:Expr} {A B:WE} {pos:Pos}
def d_eq (hA:DE X c a A) (hB:DE X c b B) (hK:c.K = X.K:=by rfl) (hu:X.A.units + 64 < cLine:=by decreasing_trivial):DE X c (.Compare a [.Eq] [b] pos) (binW eqD A B):=zmV m_eq (zlZ hK hu) zn0 hA hB (zb3 _)
def t_eq (hA:DE X c a A) (hB:DE X c b B) (hK:c.K = X.K:=by rfl) (hu:X.A.units + 64 < cLine:=by decreasing_trivial):DT X c (.Compare a [.Eq] [b] pos) (blW (binW eqD A B)):=zft m_eq (zlZ hK hu) zn0 hA hB (zb3 _)
def t_ne (hA:DE X c a A) (hB:DE X c b B) (hK:c.K = X.K:=by rfl) (hu:X.A.units + 64 < cLine:=by decreasing_trivial):DT X c (.Compare a [.NotEq] [b] pos) (blW (binW neD A B)):=zft m_ne (zo2 hK hu) zpA hA hB (zb3 _)
def d_in (hA:DE X c a A) (hB:DE X c b B) (hm:behindInMarks .In b = false:=by with_unfolding_all rfl) (hK:c.K = X.K:=by rfl) (hu:X.A.units + 64 < cLine:=by decreasing_trivial):DE X c (.Compare a [.In] [b] pos) (binW (inD false) A B):=zmV (m_in _) (zmh hK hu) (zmx _) hA hB hm
def t_in (hA:DE X c a A) (hB:DE X c b B) (hm:behindInMarks .In b = false:=by with_unfolding_all rfl) (hK:c.K = X.K:=by rfl) (hu:X.A.units + 64 < cLine:=by decreasing_trivial):DT X c (.Compare a [.In] [b] pos) (blW (binW (inD false) A B)):=zft (m_in _) (zmh hK hu) (zmx _) hA hB hm
def zmu (hA:DE X c a A) (hB:DE X c b B) (hm:behindInMarks .NotIn b = false:=by with_unfolding_all rfl) (hK:c.K = X.K:=by rfl) (hu:X.A.units + 64 < cLine:=by decreasing_trivial):DT X c (.Compare a [.NotIn] [b] pos) (blW (binW (inD true) A B)):=zft (m_in _) (zki hK hu) (zmx _) hA hB hm
def truB:D->Option Bool
 | .non=>some false
 | .bl b=>some b
 | .int i=>some (i != 0)
 | .lst _ xs=>some (!xs.isEmpty)
 | .tup xs=>some (!xs.isEmpty)
 | _=>none
def truD (d:D) (Q:Bool->Prop):Prop:=match truB d with | some b=>Q b | none=>False
@[reducible] def truW (A:WE):WT:=fun Z Q=>A Z fun d=>truD d Q
def znr   (gh:Same G H) (h:Rep c G d v) (e:truB d = some k):TruV c.K v H k:=by
 cases d with
 | non=>cases h;cases e;rfl
 | bl b=>cases h;cases e;rfl
 | int i=>cases h;cases e;rfl
 | lst n xs=>
  obtain ⟨a,vs,rfl,h1,_,h2⟩:=h
  cases e
  refine .inl ⟨vs,.inl (.inl (gh _ _ h1)),?_⟩
  have:=h2.length
  cases xs <;> cases vs <;> first | rfl | simp at this
 | tup xs=>
  obtain ⟨a,vs,rfl,h1,h2⟩:=h
  cases e
  refine .inr (.inl ⟨vs,zaN gh h1,?_⟩)
  have:=h2.length
  cases xs <;> cases vs <;> first | rfl | simp at this
 | str x=>cases e
 | box=>cases e
def zjw (d:D) (k:∀ b,Q b->Q' b) (q:truD d Q):truD d Q':=by
 unfold truD at q ⊢
 split at q
 .exact k _ q
 .exact q.elim
def zm1 (hA:DE X c a A) (he:∀ whole,isTrue a X.env whole = (do let v <- whole;standAt a.pos;holding [v] (truthy v)):=by intro _;rfl) (hK:c.K = X.K:=by rfl):DT X c a (truW A) where
 mono:=fun Z Q Q' k q=>hA.mono Z _ _ (fun d z=>zjw d k z) q
 pt:=zgT (zig hA.pe he) fun Y H Q ⟨Z,G,r,q⟩=>⟨Z,G,r,hA.mono Z _ _ (fun d z v H' G' t e=>by
  unfold truD at z
  split at z
  .rename_i k hk
   exact ⟨k,hK ▸ znr t.gh e hk,z H' G' t⟩
  .exact z.elim) q⟩
@[reducible] def notT (A:WT):WT:=fun Z Q=>A Z fun b=>Q (!b)
def znF {A:WT} (hA:DT X c a A):DT X c (.UnaryOp .Not a pos) (notT A) where
 mono:=fun Z Q Q' k q=>hA.mono Z _ _ (fun d z=>k _ z) q
 pt:=zgT (zpd hA.pt) fun Y H Q ⟨Z,G,r,q⟩=>⟨Z,G,r,q⟩
@[reducible] def andT (A B:WT):WT:=fun Z Q=>A Z fun b=>if b = true then B Z Q else Q false
@[reducible] def orT (A B:WT):WT:=fun Z Q=>A Z fun b=>if b = true then Q true else B Z Q
structure DW (X:Cx) (c:Bk) (e:Expr) (W:WT):Prop where
 mono:zct W
 pw:PW X e (tDt c W)
def DW.dt (h:DW X c a W):DT X c a W:=⟨h.mono,h.pw.pt⟩
def zl5  (h:PW X e t) (k:∀ Y H Q,t' Y H Q->t Y H Q):PW X e t':=fun wh O s Y H Q I q=>h wh O s Y H Q I (k Y H Q q)
def zpf {A:WT} (hA:DT X c a A):DW X c (.BoolOp .And [a] pos) A:=⟨hA.mono,zhs hA.pt⟩
def zpp {A:WT} (hA:DT X c a A):DW X c (.BoolOp .Or [a] pos) A:=⟨hA.mono,zo8 hA.pt⟩
def zpo {A B:WT} {rest:List Expr} (hA:DT X c a A) (hB:DW X c (.BoolOp .And (b :: rest) pos) B):DW X c (.BoolOp .And (a :: b :: rest) pos) (andT A B) where
 mono:=fun Z Q Q' k q=>hA.mono Z _ _ (fun d z=>by
  cases d
  .exact k _ z
  .exact hB.mono Z _ _ k z) q
 pw:=zl5 (zjk hA.pt hB.pw) fun Y H Q ⟨Z,G,r,q⟩=>⟨Z,G,r,hA.mono Z _ _ (fun d z H' G' t=>by
  cases d
  .exact z H' G' t
  .exact ⟨Z,G',r.step t,hB.mono Z _ _ (fun b' z' H2 G2 t2=>z' H2 G2 (t.trans t2)) z⟩) q⟩
def w_or {A B:WT} {rest:List Expr} (hA:DT X c a A) (hB:DW X c (.BoolOp .Or (b :: rest) pos) B):DW X c (.BoolOp .Or (a :: b :: rest) pos) (orT A B) where
 mono:=fun Z Q Q' k q=>hA.mono Z _ _ (fun d z=>by
  cases d
  .exact hB.mono Z _ _ k z
  .exact k _ z) q
 pw:=zl5 (zpK hA.pt hB.pw) fun Y H Q ⟨Z,G,r,q⟩=>⟨Z,G,r,hA.mono Z _ _ (fun d z H' G' t=>by
  cases d
  .exact ⟨Z,G',r.step t,hB.mono Z _ _ (fun b' z' H2 G2 t2=>z' H2 G2 (t.trans t2)) z⟩
  .exact z H' G' t) q⟩
def blD (d:D) (Q:Bool->Prop):Prop:=match d with | .bl b=>Q b | _=>False
def zls (d:D) (k:∀ b,Q b->Q' b) (q:blD d Q):blD d Q':=by
 cases d <;> first | exact k _ q | exact q
@[reducible] def andW (A B:WE):WE:=fun Z Q=>A Z fun x=>blD x fun k=>if k = true then B Z Q else Q (.bl false)
def zpl (hA:DE X c a A):DE X c (.BoolOp op [a] pos) A:=⟨hA.mono,zot hA.pe⟩
def zpD {rest:List Expr} (hA:DE X c a A) (hB:DE X c (.BoolOp .And (b :: rest) pos) B):DE X c (.BoolOp .And (a :: b :: rest) pos) (andW A B) where
 mono:=fun Z Q Q' k q=>hA.mono Z _ _ (fun d z=>zls d (fun b z=>by
  cases b
  .exact k _ z
  .exact hB.mono Z _ _ k z) z) q
 pe:=zaZ (zow hA.pe hB.pe) fun Y H Q ⟨Z,G,r,q⟩=>⟨Z,G,r,hA.mono Z _ _ (fun d z v H' G' t e=>by
  cases d with
  | bl k=>
   refine ⟨k,e,?_⟩
   cases k
   .exact z _ H' G' t rfl
   .exact ⟨Z,G',r.step t,hB.mono Z _ _ (fun b' z' v2 H2 G2 t2=>z' v2 H2 G2 (t.trans t2)) z⟩
  | _=>exact z.elim) q⟩
@[reducible] def ifW (C:WT) (A B:WE):WE:=fun Z Q=>C Z fun k=>if k = true then A Z Q else B Z Q
def d_if  (hC:DT X c ce C) (hA:DE X c a A) (hB:DE X c b B):DE X c (.IfExp ce a b pos) (ifW C A B) where
 mono:=fun Z Q Q' k q=>hC.mono Z _ _ (fun d z=>by
  cases d
  .exact hB.mono Z _ _ k z
  .exact hA.mono Z _ _ k z) q
 pe:=zaZ (zlz hC.pt hA.pe hB.pe) fun Y H Q ⟨Z,G,r,q⟩=>⟨Z,G,r,hC.mono Z _ _ (fun d z H' G' t=>by
  cases d
  .exact ⟨Z,G',r.step t,hB.mono Z _ _ (fun b' z' v2 H2 G2 t2=>z' v2 H2 G2 (t.trans t2)) z⟩
  .exact ⟨Z,G',r.step t,hA.mono Z _ _ (fun b' z' v2 H2 G2 t2=>z' v2 H2 G2 (t.trans t2)) z⟩) q⟩
end
end
section
variable {X:Cx} {c:Bk} {a b e:Expr} {A B:WE} {pos p:Pos} {es:List Expr}
@[reducible] def nilA:WL:=fun _ Q=>Q []
@[reducible] def zab (A:WE) (R:WL):WL:=fun Z Q=>A Z fun d=>R Z fun ds=>Q (d :: ds)
def zal:DA X c [] nilA:=⟨fun _ _ _ k q=>k _ q,zmd pa_nil fun Y H Q ⟨Z,G,r,q⟩=>q [] H G r.refl rfl⟩
def zaa (hA:DE X c e A) (hR:DA X c es R) (hs:starEach (e :: es) X.env = (false,eval e X.env) :: starEach es X.env:=by rfl):DA X c (e :: es) (zab A R) where
 mono:=fun Z Q Q' k q=>hA.mono Z _ _ (fun d z=>hR.mono Z _ _ (fun ds y=>k _ y) z) q
 pa:=zmd (zaf hA.pe hR.pa hs) fun Y H Q ⟨Z,G,r,q⟩=>⟨Z,G,r,hA.mono Z _ _ (fun d z v H1 G1 t1 e1=>⟨Z,G1,r.step t1,hR.mono Z _ _ (fun ds y vs H2 G2 t2 e2=>
  y (v :: vs) H2 G2 (t1.trans t2) ⟨v,vs,rfl,e1.mono t2.gg,e2⟩) z⟩) q⟩
@[reducible] def tupW (R:WL):WE:=fun Z Q=>R Z fun ds=>ds.length <= 100000/\Q (.tup ds)
def zcp  (hR:DA X c es R):DE X c (.Tuple es x1 pos) (tupW R) where
 mono:=fun Z Q Q' k q=>hR.mono Z _ _ (fun ds z=>⟨z.1,k _ z.2⟩) q
 pe:=zaZ (pe_tup hR.pa) fun Y H Q ⟨Z,G,r,q⟩=>⟨Z,G,r,hR.mono Z _ _ (fun ds z vs H' G' t e=>⟨by rw [<- e.length];exact small5 z.1,fun p hp=>
  z.2 (.ref p) _ _ (t.trans (Stp.new t.gh t.bx hp)) ⟨p,vs,rfl,SqT.of zac,e.mono (zbq (zar t.gh hp))⟩⟩) q⟩
@[reducible] def lstW (R:WL):WL:=fun Z Q=>R Z fun ds=>ds.length <= 100000/\Q ds
def zd9 (hR:DA X c es R):DF X c (.List es pos) (lstW R) where
 mono:=fun Z Q Q' k q=>hR.mono Z _ _ (fun ds z=>⟨z.1,k _ z.2⟩) q
 pe:=zaZ (zcS hR.pa) fun Y H Q ⟨Z,G,r,q⟩=>⟨Z,G,r,hR.mono Z _ _ (fun ds z vs H' G' t e=>⟨by rw [<- e.length];exact small5 z.1,fun p hp=>
  z.2 p vs _ _ (t.trans (Stp.own t.gh t.bx hp)) zac (zar t.gh hp) (t.free hp) e⟩) q⟩
def zhM   (h:Reps c G ds vs) (e:atI ds i = some d):∃ v,atI vs i = some v/\Rep c G d v:=by
 unfold atI at e ⊢
 rw [h.length] at e
 cases z:ixN vs.length i with
 | none=>rw [z] at e;cases e
 | some j=>rw [z] at e;exact h.get e
def itD (xs:List D) (y:D) (Q:D->Prop):Prop:=match y with | .int i=>(match atI xs i with | some d=>Q d | none=>False) | _=>False
def ixD:F2
 | .lst _ xs,y,Q=>itD xs y Q
 | .tup xs,y,Q=>itD xs y Q
 | _,_,_=>False
def ziy  (k:∀ d,Q d->Q' d) (q:itD xs y Q):itD xs y Q':=by
 cases y with
 | int i=>
  unfold itD at q ⊢
  simp only at q ⊢
  split at q
  .exact k _ q
  .exact q.elim
 | _=>exact q
def m_ix:zbF ixD:=fun x y Q Q' k q=>by
 cases x <;> first | exact ziy k q | exact q
def znP:OpD c ixD (rIx c.K):=by
 intro H G x y u v Q gh bx h0 rx ry q
 cases x with
 | lst n xs=>
  obtain ⟨a,vs,rfl,ha,_,rv⟩:=rx
  cases y with
  | int i=>
   cases ry
   have q:(match atI xs i with | some d=>_ | none=>False):=q
   split at q
   .rename_i d e
    obtain ⟨w,e',rw'⟩:=zhM rv e
    exact .inl ⟨a,vs,i,w,rfl,rfl,SqL.of (gh _ _ ha),e',q w H G (Stp.refl gh bx) rw'⟩
   .exact q.elim
  | _=>exact q.elim
 | tup xs=>
  obtain ⟨a,vs,rfl,ha,rv⟩:=rx
  cases y with
  | int i=>
   cases ry
   have q:(match atI xs i with | some d=>_ | none=>False):=q
   split at q
   .rename_i d e
    obtain ⟨w,e',rw'⟩:=zhM rv e
    exact .inr (.inl ⟨a,vs,i,w,rfl,rfl,zaN gh ha,e',q w H G (Stp.refl gh bx) rw'⟩)
   .exact q.elim
  | _=>exact q.elim
 | _=>exact q.elim
def d_ix (hA:DE X c a A) (hB:DE X c b B) (hs:zhd b:=by intro _ _;rfl) (hK:c.K = X.K:=by rfl):DE X c (.Subscript a b pos) (binW ixD A B):=
 ⟨zdy m_ix hA.mono hB.mono,zaZ (zcs (hK ▸ zl3) hA.pe hB.pe hs) fun Y H Q h=>zel m_ix hA.mono hB.mono znP Y H Q h⟩
def ixvW (i:Nat) (B:WE):WE:=fun Z Q=>match Z[i]? with
 | some (.val d)=>B Z fun y=>ixD d y Q
 | some (.own xs)=>B Z fun y=>itD xs y Q
 | _=>False
def zb9 (i:Nat) (hB:DE X c b B) (hs:zhd b:=by intro _ _;rfl) (hN:X.N[i]? = some x:=by rfl) (hv:Vis X.env.scope x:=by first | exact Or.inl rfl | exact Or.inr (Or.inl rfl) | exact Or.inr (Or.inr rfl))
  (hd:(x == ("__debug__" : Str)) = false:=by decide) (hcd:(x == ("__classdict__" : Str)) = false:=by decide) (hK:c.K = X.K:=by rfl):DE X c (.Subscript (.Name x p) b pos) (ixvW i B) where
 mono:=fun Z Q Q' k q=>by
  unfold ixvW at q ⊢
  split at q
  .exact hB.mono Z _ _ (fun y z=>m_ix _ y _ _ k z) q
  .exact hB.mono Z _ _ (fun y z=>ziy k z) q
  .exact q.elim
 pe:=zaZ (zcs (hK ▸ zl3 (X:=X)) (zdl hN hv hd hcd) hB.pe hs) fun Y H Q ⟨Z,G,r,q⟩=>by
  unfold ixvW at q
  split at q
  .rename_i d e
   obtain ⟨v,h1,h2⟩:=r.slot i _ e
   refine ⟨v,h1,Z,G,r,hB.mono Z _ _ (fun y z w H1 G1 t1 e1=>?_) q⟩
   exact znP H1 G1 d y v w Q t1.gh t1.bx (fun a z=>r.new0 (t1.free z)) (h2.mono t1.gg) e1 (m_ix d y _ _ (fun d' z' w' H2 G2 t2 e2=>z' w' H2 G2 (t1.trans t2) e2) z)
  .rename_i xs e
   obtain ⟨a,vs,h1,h2,h3,h4,h5,h6⟩:=r.slot i _ e
   refine ⟨.ref a,h1,Z,G,r,hB.mono Z _ _ (fun y z w H1 G1 t1 e1=>?_) q⟩
   cases y with
   | int k=>
    cases e1
    have z:(match atI xs k with | some d=>_ | none=>False):=z
    split at z
    .rename_i d' e'
     obtain ⟨w',f,rw'⟩:=zhM h6 e'
     exact .inl ⟨a,vs,k,w',rfl,rfl,SqL.of (t1.fr a _ h5 h2),f,z w' H1 G1 t1 (rw'.mono t1.gg)⟩
    .exact z.elim
   | _=>exact z.elim
  .exact q.elim
end
end Fd
namespace L2
open PySem PySem.Spec PyProof.Rows
end L2
namespace Fd
open PySem L2
def insU (x:Int):List Int->List Int
 | []=>[x]
 | y :: ys=>if x < y then x :: y :: ys else if x = y then y :: ys else y :: insU x ys
def zbB:List Int->List Int
 | []=>[]
 | x :: xs=>insU x (zbB xs)
theorem zf9 (x:Int):∀ (ys:List Int) (k:Int),k ∈ insU x ys ↔ k = x\/k ∈ ys
 | [],k=>by simp [insU]
 | y :: ys,k=>by
  unfold insU
  split
  .simp
  .split
   .rename_i h;subst h;simp
   .rw [YAs,zf9 x ys k,YAs]
    constructor
    .rintro (h | h | h)
     .exact .inr (.inl h)
     .exact .inl h
     .exact .inr (.inr h)
    .rintro (h | h | h)
     .exact .inr (.inl h)
     .exact .inl h
     .exact .inr (.inr h)
theorem zkE (x:Int):∀ (ys:List Int),ys.Pairwise (· < ·)->(insU x ys).Pairwise (· < ·)
 | [],_=>by simp [insU]
 | y :: ys,h=>by
  unfold insU
  have h':=YBJ.mp h
  split
  .rename_i hxy
   refine YBJ.mpr ⟨fun k hk=>?_,h⟩
   rcases YAs.mp hk with e | e
   .rw [e];exact hxy
   .exact Int.lt_trans hxy (h'.1 k e)
  .split
   .exact h
   .rename_i h1 h2
    refine YBJ.mpr ⟨fun k hk=>?_,zkE x ys h'.2⟩
    rcases (zf9 x ys k).mp hk with e | e
    .rw [e];omega
    .exact h'.1 k e
theorem za5:∀ (xs:List Int) (k:Int),k ∈ zbB xs ↔ k ∈ xs
 | [],_=>Iff.rfl
 | x :: xs,k=>by unfold zbB;rw [zf9,za5 xs k,YAs]
theorem zbP:∀ xs:List Int,(zbB xs).Pairwise (· < ·)
 | []=>.nil
 | x :: xs=>by unfold zbB;exact zkE x _ (zbP xs)
theorem zix:∀ {xs ys:List Int},xs.Pairwise (· < ·)->ys.Pairwise (· < ·)->(∀ k,k ∈ xs ↔ k ∈ ys)->xs = ys
 | [],[],_,_,_=>rfl
 | [],y :: ys,_,_,h=>absurd ((h y).mpr YAi) (by simp)
 | x :: xs,[],_,_,h=>absurd ((h x).mp YAi) (by simp)
 | x :: xs,y :: ys,hx,hy,h=>by
  have hx':=YBJ.mp hx
  have hy':=YBJ.mp hy
  have e:x = y:=by
   rcases YAs.mp ((h x).mp YAi) with e | e
   .exact e
   .rcases YAs.mp ((h y).mpr YAi) with e' | e'
    .exact e'.symm
    .have:=hy'.1 x e;have:=hx'.1 y e';omega
  subst e
  congr 1
  refine zix hx'.2 hy'.2 fun k=>⟨fun hk=>?_,fun hk=>?_⟩
  .rcases YAs.mp ((h k).mp (YAn _ hk)) with e | e
   .have:=hx'.1 k hk;omega
   .exact e
  .rcases YAs.mp ((h k).mpr (YAn _ hk)) with e | e
   .have:=hy'.1 k hk;omega
   .exact e
def zoG (h:ns.Pairwise (· < ·)) (m:∀ k,k ∈ ns ↔ k ∈ xs):ns = zbB xs:=zix h (zbP xs) fun k=>(m k).trans (za5 xs k).symm
def zhW {xs:List Int} (h:xs.Pairwise (· < ·)):xs.Nodup:=h.imp fun h=>YDR h
section
variable {X:Cx} {c:Bk} {a b e:Expr} {A B:WE} {pos p p':Pos} {es:List Expr}
abbrev FL:=List D->(D->Prop)->Prop
def zcV (f:FL):Prop:=∀ ds Q Q',(∀ d,Q d->Q' d)->f ds Q->f ds Q'
@[reducible] def cbW (f:FL) (R:WL):WE:=fun Z Q=>R Z fun ds=>f ds Q
def zgf (c:Bk) (f:FL) (r:List V->Hp->VK->Prop):Prop:=∀ (H G:Hp) (ds:List D) (vs:List V) (Q:VK),Same G H->BoxD c.β H G->(∀ a,H a = none->c.H0 a = none)->Reps c G ds vs ->
 f ds (fun d=>∀ v H' G',Stp c.β H G H' G'->Rep c G' d v->Q v H')->r vs H Q
def zkL  (fm:zcV f) (mR:zcv R) (hr:zgf c f r) (Y:St) (H:Hp) (Q:VK) (h:tD c (cbW f R) Y H Q):tCB r (tDs c R) Y H Q:=by
 obtain ⟨Z,G,r',q⟩:=h
 exact ⟨Z,G,r',mR Z _ _ (fun ds z vs H' G' t e=>hr H' G' ds vs Q t.gh t.bx (fun a z=>r'.new0 (t.free z)) e (fm ds _ _ (fun d y v H2 G2 t2 e2=>y v H2 G2 (t.trans t2) e2) z)) q⟩
def zhN {f:FL} {R:WL} {r:List V->Hp->VK->Prop} {id:String} {x:Str} (fm:zcV f) (hc:CallR X (.builtin id) r) (hr:zgf c f r) (hm:X.mg x = none) (hv:bootBuiltins x = some (.builtin id)) (hR:DA X c (e :: es) R) (hg:Gl X x:=by rfl) (hn:x ≠ "__name__" := by decide) (hdb:(x == ("__debug__" : Str)) = false:=by decide)
  (he:starEach (e :: es) X.env = (false,eval e X.env) :: starEach es X.env:=by rfl) (hpl:(backTo pos (starEach es X.env)).any (·.1) = false:=by rfl):DE X c (.Call (.Name x p) (e :: es) [] pos) (cbW f R):=
 ⟨fun Z Q Q' k q=>hR.mono Z _ _ (fun ds z=>fm ds _ _ k z) q,zaZ (zbp hc hg hm hv hR.pa hn hdb he hpl) (zkL fm hR.mono hr)⟩
def zij   (fm:zcV f) (hc:CallR X (.type T) r) (hr:zgf c f r) (hm:X.mg x = none) (hv:bootBuiltins x = some (.type T)) (hR:DA X c (e :: es) R) (hg:Gl X x:=by rfl) (hn:x ≠ "__name__" := by decide) (hdb:(x == ("__debug__" : Str)) = false:=by decide)
  (he:starEach (e :: es) X.env = (false,eval e X.env) :: starEach es X.env:=by rfl) (hpl:(backTo pos (starEach es X.env)).any (·.1) = false:=by rfl):DE X c (.Call (.Name x p) (e :: es) [] pos) (cbW f R):=
 ⟨fun Z Q Q' k q=>hR.mono Z _ _ (fun ds z=>fm ds _ _ k z) q,zaZ (zb5 hc hg hm hv hR.pa hn hdb he hpl) (zkL fm hR.mono hr)⟩
def zgU  (h:Reps c G [d] vs):∃ v,vs = [v]/\Rep c G d v:=by
 obtain ⟨v,ws,rfl,h1,h2⟩:=h
 cases h2
 exact ⟨v,rfl,h1⟩
def zmN  (h:Reps c G [d,f] vs):∃ v w,vs = [v,w]/\Rep c G d v/\Rep c G f w:=by
 obtain ⟨v,ws,rfl,h1,w,ws',rfl,h2,h3⟩:=h
 cases h3
 exact ⟨v,w,rfl,h1,h2⟩
def lenF:FL
 | [.lst _ xs],Q=>Q (.int xs.length)
 | [.tup xs],Q=>Q (.int xs.length)
 | _,_=>False
def zp9:zcV lenF:=fun ds Q Q' k q=>by
 unfold lenF at q ⊢
 split at q <;> first | exact k _ q | exact q.elim
def zoZ:zgf c lenF (fun xs H Q=>∃ p ys,xs = [.ref p]/\(SqL c.K H p ys\/SqT c.K H p ys)/\Q (.int ys.length) H):=by
 intro H G ds vs Q gh bx h0 rv q
 unfold lenF at q
 split at q
 .obtain ⟨v,rfl,a,ws,rfl,ha,_,hw⟩:=zgU rv
  exact ⟨a,ws,rfl,.inl (SqL.of (gh _ _ ha)),by rw [<- hw.length];exact q _ H G (Stp.refl gh bx) rfl⟩
 .obtain ⟨v,rfl,a,ws,rfl,ha,hw⟩:=zgU rv
  exact ⟨a,ws,rfl,.inr (zaN gh ha),by rw [<- hw.length];exact q _ H G (Stp.refl gh bx) rfl⟩
 .exact q.elim
def zfa (i:Nat):WE:=fun Z Q=>match Z[i]? with
 | some (.val d)=>lenF [d] Q
 | some (.own xs)=>Q (.int xs.length)
 | _=>False
def zin (i:Nat) (hg:Gl X "len" := by rfl) (hN:X.N[i]? = some x:=by rfl) (hv:Vis X.env.scope x:=by first | exact Or.inl rfl | exact Or.inr (Or.inl rfl) | exact Or.inr (Or.inr rfl)) (hd:(x == ("__debug__" : Str)) = false:=by decide) (hcd:(x == ("__classdict__" : Str)) = false:=by decide) (hK:c.K = X.K:=by rfl) (hm:X.mg "len" = none:=by decreasing_trivial):DE X c (.Call (.Name "len" p) [.Name x p'] [] pos) (zfa i) where
 mono:=fun Z Q Q' k q=>by
  unfold zfa at q ⊢
  split at q
  .exact zp9 _ _ _ k q
  .exact k _ q
  .exact q.elim
 pe:=zaZ (zbp zbL hg hm YDo (zaf (zdl hN hv hd hcd) pa_nil)) fun Y H Q ⟨Z,G,r,q⟩=>by
  unfold zfa at q
  split at q
  .rename_i d e
   obtain ⟨v,h1,h2⟩:=r.slot i _ e
   exact ⟨v,h1,hK ▸ zoZ H G [d] [v] Q r.gh r.bx (fun a z=>r.new0 z) (.one h2) q⟩
  .rename_i xs e
   obtain ⟨a,vs,h1,h2,h3,h4,h5,h6⟩:=r.slot i _ e
   exact ⟨.ref a,h1,a,vs,rfl,.inl (SqL.of h2),by rw [<- h6.length];exact q _ H G r.refl rfl⟩
  .exact q.elim
def seqD (d:D) (Q:List D->Prop):Prop:=match d with | .lst _ xs=>Q xs | .tup xs=>Q xs | _=>False
def zdt  (k:∀ xs,Q xs->Q' xs) (q:seqD d Q):seqD d Q':=by
 cases d <;> first | exact k _ q | exact q
@[reducible] def zfF (A:WE):WL:=fun Z Q=>A Z fun d=>seqD d Q
def zfn (hA:DE X c e A) (hg:Gl X "list" := by rfl) (he:starEach [e] X.env = (false,eval e X.env) :: starEach [] X.env:=by rfl) (hK:c.K = X.K:=by rfl) (hm:X.mg "list" = none:=by decreasing_trivial):DF X c (.Call (.Name "list" p) [e] [] pos) (zfF A) where
 mono:=fun Z Q Q' k q=>hA.mono Z _ _ (fun d z=>zdt k z) q
 pe:=zaZ (zb5 zd5 hg hm YB0 (zaf hA.pe pa_nil he) (by decide) (by decide) he rfl) fun Y H Q ⟨Z,G,r,q⟩=>⟨Z,G,r,hA.mono Z _ _ (fun d z v H' G' t e=>by
  cases d with
  | lst n xs=>
   obtain ⟨a,vs,rfl,ha,_,rv⟩:=e
   exact ⟨a,vs,rfl,.inl (SqL.of (t.gh _ _ ha)),fun l hl=>z l vs _ _ (t.trans (Stp.own t.gh t.bx hl)) zac (zar t.gh hl) (t.free hl) rv⟩
  | tup xs=>
   obtain ⟨a,vs,rfl,ha,rv⟩:=e
   exact ⟨a,vs,rfl,.inr (hK ▸ zaN t.gh ha),fun l hl=>z l vs _ _ (t.trans (Stp.own t.gh t.bx hl)) zac (zar t.gh hl) (t.free hl) rv⟩
  | _=>exact z.elim) q⟩
def zdw:FL
 | [.lst _ xs],Q=>Q (.tup xs)
 | [.tup xs],Q=>Q (.tup xs)
 | _,_=>False
def zmL:zcV zdw:=fun ds Q Q' k q=>by
 unfold zdw at q ⊢
 split at q <;> first | exact k _ q | exact q.elim
def zlP:zgf c zdw (fun xs H Q=>∃ p ys,xs = [.ref p]/\((SqL c.K H p ys/\∀ l,H l = none->Q (.ref l) (upd H l (.tup ys)))\/(SqT c.K H p ys/\Q (.ref p) H))):=by
 intro H G ds vs Q gh bx h0 rv q
 unfold zdw at q
 split at q
 .obtain ⟨v,rfl,a,ws,rfl,ha,_,hw⟩:=zgU rv
  exact ⟨a,ws,rfl,.inl ⟨SqL.of (gh _ _ ha),fun l hl=>q (.ref l) _ _ (Stp.new gh bx hl) ⟨l,ws,rfl,SqT.of zac,hw.mono (zbq (zar gh hl))⟩⟩⟩
 .obtain ⟨v,rfl,a,ws,rfl,ha,hw⟩:=zgU rv
  exact ⟨a,ws,rfl,.inr ⟨zaN gh ha,q (.ref a) H G (Stp.refl gh bx) ⟨a,ws,rfl,ha,hw⟩⟩⟩
 .exact q.elim
def zj1 (hR:DA X c [e] R) (hg:Gl X "tuple" := by rfl) (he:starEach [e] X.env = (false,eval e X.env) :: starEach [] X.env:=by rfl) (hK:c.K = X.K:=by rfl) (hm:X.mg "tuple" = none:=by decreasing_trivial):DE X c (.Call (.Name "tuple" p) [e] [] pos) (cbW zdw R):=
 zij zmL zfZ (hK ▸ zlP) hm PyProof.Rows.boot_tuple hR hg (by decide) (by decide) he rfl
def intF:FL
 | [.int i],Q=>Q (.int i)
 | [.bl k],Q=>Q (.int (if k then 1 else 0))
 | _,_=>False
def zpv:zcV intF:=fun ds Q Q' k q=>by
 unfold intF at q ⊢
 split at q <;> first | exact k _ q | exact q.elim
def zov:zgf c intF (fun xs H Q=>(∃ i,xs = [.int i]/\Q (.int i) H)\/∃ k,xs = [.bl k]/\Q (.int (if k then 1 else 0)) H):=by
 intro H G ds vs Q gh bx h0 rv q
 unfold intF at q
 split at q
 .obtain ⟨v,rfl,h⟩:=zgU rv
  cases h
  exact .inl ⟨_,rfl,q _ H G (Stp.refl gh bx) rfl⟩
 .obtain ⟨v,rfl,h⟩:=zgU rv
  cases h
  exact .inr ⟨_,rfl,q _ H G (Stp.refl gh bx) rfl⟩
 .exact q.elim
def zpg (hR:DA X c [e] R) (hg:Gl X "int" := by rfl) (he:starEach [e] X.env = (false,eval e X.env) :: starEach [] X.env:=by rfl) (hm:X.mg "int" = none:=by decreasing_trivial):DE X c (.Call (.Name "int" p) [e] [] pos) (cbW intF R):=
 zij zpv zkk zov hm PyProof.Rows.boot_int hR hg (by decide) (by decide) he rfl
def minF:FL
 | [.int i,.int j],Q=>Q (.int (if j < i then j else i))
 | _,_=>False
def zpY:zcV minF:=fun ds Q Q' k q=>by
 unfold minF at q ⊢
 split at q <;> first | exact k _ q | exact q.elim
def zoz:zgf c minF (fun xs H Q=>∃ i j,xs = [.int i,.int j]/\Q (.int (if j < i then j else i)) H):=by
 intro H G ds vs Q gh bx h0 rv q
 unfold minF at q
 split at q
 .obtain ⟨v,w,rfl,h1,h2⟩:=zmN rv
  cases h1;cases h2
  exact ⟨_,_,rfl,q _ H G (Stp.refl gh bx) rfl⟩
 .exact q.elim
def zoM (hR:DA X c [a,b] R) (hg:Gl X "min" := by rfl) (he:starEach [a,b] X.env = (false,eval a X.env) :: starEach [b] X.env:=by rfl) (hpl:(backTo pos (starEach [b] X.env)).any (·.1) = false:=by rfl) (hcalm:X.calm = true:=by rfl) (hm:X.mg "min" = none:=by decreasing_trivial):DE X c (.Call (.Name "min" p) [a,b] [] pos) (cbW minF R):=
 zhN zpY (zgx hcalm) zoz hm PyProof.Rows.boot_min hR hg (by decide) (by decide) he hpl
def allF:FL
 | [.lst _ xs],Q=>∃ bs:List Bool,xs = bs.map D.bl/\Q (.bl (bs.all id))
 | _,_=>False
def anyF:FL
 | [.lst _ xs],Q=>∃ bs:List Bool,xs = bs.map D.bl/\Q (.bl (bs.any id))
 | _,_=>False
def zpu:zcV allF:=fun ds Q Q' k q=>by
 unfold allF at q ⊢
 split at q
 .obtain ⟨bs,e,q⟩:=q;exact ⟨bs,e,k _ q⟩
 .exact q.elim
def zp3:zcV anyF:=fun ds Q Q' k q=>by
 unfold anyF at q ⊢
 split at q
 .obtain ⟨bs,e,q⟩:=q;exact ⟨bs,e,k _ q⟩
 .exact q.elim
def znR:zgf c allF (fun vs H Q=>∃ (p:Addr) (bs:List Bool),vs = [.ref p]/\SqL c.K H p (bs.map V.bl)/\Q (.bl (bs.all id)) H):=by
 intro H G ds vs Q gh bx h0 rv q
 unfold allF at q
 split at q
 .obtain ⟨bs,rfl,q⟩:=q
  obtain ⟨v,rfl,a,ws,rfl,ha,_,hw⟩:=zgU rv
  rw [reps_bools.mp hw] at ha
  exact ⟨a,bs,rfl,SqL.of (gh _ _ ha),q _ H G (Stp.refl gh bx) rfl⟩
 .exact q.elim
def zn2:zgf c anyF (fun vs H Q=>∃ (p:Addr) (bs:List Bool),vs = [.ref p]/\SqL c.K H p (bs.map V.bl)/\Q (.bl (bs.any id)) H):=by
 intro H G ds vs Q gh bx h0 rv q
 unfold anyF at q
 split at q
 .obtain ⟨bs,rfl,q⟩:=q
  obtain ⟨v,rfl,a,ws,rfl,ha,_,hw⟩:=zgU rv
  rw [reps_bools.mp hw] at ha
  exact ⟨a,bs,rfl,SqL.of (gh _ _ ha),q _ H G (Stp.refl gh bx) rfl⟩
 .exact q.elim
def zoJ (hR:DA X c [e] R) (hg:Gl X "all" := by rfl) (he:starEach [e] X.env = (false,eval e X.env) :: starEach [] X.env:=by rfl) (hK:c.K = X.K:=by rfl) (hcalm:X.calm = true:=by rfl) (hm:X.mg "all" = none:=by decreasing_trivial):DE X c (.Call (.Name "all" p) [e] [] pos) (cbW allF R):=
 zhN zpu (zgk hcalm) (hK ▸ znR) hm PyProof.Rows.boot_all hR hg (by decide) (by decide) he rfl
def zpq (hR:DA X c [e] R) (hg:Gl X "any" := by rfl) (he:starEach [e] X.env = (false,eval e X.env) :: starEach [] X.env:=by rfl) (hK:c.K = X.K:=by rfl) (hcalm:X.calm = true:=by rfl) (hm:X.mg "any" = none:=by decreasing_trivial):DE X c (.Call (.Name "any" p) [e] [] pos) (cbW anyF R):=
 zhN zp3 (zku hcalm) (hK ▸ zn2) hm PyProof.Rows.boot_any hR hg (by decide) (by decide) he rfl
def setD (d:D) (Q:List Int->Prop):Prop:=seqD d fun xs=>∃ ns:List Int,xs = ns.map D.int/\ns.length < 64/\Q ns
def zgt  (k:∀ xs,Q xs->Q' xs) (q:setD d Q):setD d Q':=zdt (fun xs ⟨ns,e,h,q⟩=>⟨ns,e,h,k _ q⟩) q
@[reducible] def zif (A:WE):WL:=fun Z Q=>A Z fun d=>setD d fun ns=>Q ((zbB ns).map D.int)
def zjD:(100:Nat) < scanBound:=by decide +kernel
def zpB (c:Bk) (w:World) (A:WE):TE:=fun Y H Q=>∃ Z G,Rel c Z Y H G/\A Z fun d=>setD d fun ns=>∀ l H' G',Stp c.β H G H' G'->H' l = none->Q (.ref l) (upd H' l (SetO w l ns))
def zmX (hm2:X.mg "set" = none) (hA:DE X c e A) (hg2:Gl X "set") (he:starEach [e] X.env = (false,eval e X.env) :: starEach [] X.env) (hcalm:X.calm = true) (hK:c.K = X.K):PE X (.Call (.Name "set" p) [e] [] pos) (zpB c X.w A):=
 zaZ (zb5 ((zhu hcalm).or (zgA hcalm)) hg2 hm2 PyProof.Rows.boot_set (zaf hA.pe pa_nil he) (by decide) (by decide) he rfl) fun Y H Q ⟨Z,G,r,q⟩=>⟨Z,G,r,hA.mono Z _ _ (fun d z v H' G' t e=>by
  have hsc:=zjD
  cases d with
  | lst n xs=>
   obtain ⟨ns,rfl,hl,q⟩:=z
   obtain ⟨a,ws,rfl,ha,_,hw⟩:=e
   rw [reps_ints.mp hw] at ha
   exact .inl ⟨a,ns,rfl,SqL.of (t.gh _ _ ha),by omega,fun l hl=>q l H' G' t hl⟩
  | tup xs=>
   obtain ⟨ns,rfl,hl,q⟩:=z
   obtain ⟨a,ws,rfl,ha,hw⟩:=e
   rw [reps_ints.mp hw] at ha
   exact .inr ⟨a,ns,rfl,hK ▸ zaN t.gh ha,by omega,fun l hl=>q l H' G' t hl⟩
  | _=>exact z.elim) q⟩
def zkZ  (q:setD d Q):setD d fun ns=>ns.length < 64/\Q ns:=zdt (fun xs ⟨ns,e1,e2,q⟩=>⟨ns,e1,e2,e2,q⟩) q
def zkx (hA:DE X c e A) (hg:Gl X "sorted" := by rfl) (hg2:Gl X "set" := by rfl) (he:starEach [e] X.env = (false,eval e X.env) :: starEach [] X.env:=by rfl) (hcalm:X.calm = true:=by rfl) (hK:c.K = X.K:=by rfl) (hm:X.mg "sorted" = none:=by decreasing_trivial) (hm2:X.mg "set" = none:=by decreasing_trivial) :
  DF X c (.Call (.Name "sorted" p) [.Call (.Name "set" p') [e] [] pos'] [] pos) (zif A) where
 mono:=fun Z Q Q' k q=>hA.mono Z _ _ (fun d z=>zgt (fun ns y=>k _ y) z) q
 pe:=zaZ (zbp (zcy hcalm) hg hm YCG (zaf (zmX hm2 hA hg2 he hcalm hK) pa_nil) (by decide) (by decide) rfl rfl) fun Y H Q ⟨Z,G,r,q⟩=>⟨Z,G,r,hA.mono Z _ _ (fun d z=>zgt (fun ns z l H' G' t hl=>by
  have t2:=t.trans (Stp.own t.gh t.bx (o:=SetO X.w l ns) hl)
  refine ⟨l,ns,rfl,zac,z.1,fun l3 ms hl3 up mem=>?_⟩
  rw [zoG up mem]
  exact z.2 l3 _ _ _ (t2.trans (Stp.own t2.gh t2.bx hl3)) zac (zar t2.gh hl3) (t2.free hl3) (reps_ints.mpr rfl)) (zkZ z)) q⟩
abbrev Fn:=List D->(D->Prop)->Prop
def up (F:Fn):Fn:=fun ds Q=>∃ P:D->Prop,F ds P/\∀ d,P d->Q d
def zjC (F:Fn):zcV (up F):=fun ds Q Q' k ⟨P,h1,h2⟩=>⟨P,h1,fun d z=>k d (h2 d z)⟩
def spD (K:oS) (n:Nat) (F:Fn):Sp:=fun vs H Q _=>∃ β G ds,Same G H/\BoxD β H G/\Reps ⟨K,β,fun _=>none,G⟩ G ds vs/\vs.length = n/\up F ds fun d=>∀ v H' G',Stp β H G H' G'->Rep ⟨K,β,H,G⟩ G' d v->Q v H'
structure Cal (P:Program) (w:World) (K:oS) (mg:Str->Option Value) (base:Heap) (x:Str) (k:Nat) (ps:List Str) (sp:Sp):Prop where
 ex:∃ f fd,FnOk P w K mg base CX0 k f fd ps sp/\mg x = some (.ref f)/\PySem.W.keepIn K (.ref f) = true/\Binds K fd ps []
def Cal.of       (F:Fun K x qual st f fd) (G:FnOk P w K mg base CX0 k f fd ps sp) (hm:mg x = some (.ref f)) (hb:Binds K fd ps []):Cal P w K mg base x k ps sp:=
 ⟨f,fd,G,hm,F.kp,hb⟩
@[reducible] def zaw (n:Nat) (F:Fn) (R:WL):WE:=fun Z Q=>R Z fun ds=>ds.length = n/\up F ds Q
def zam   (C:Cal X.prog X.w X.K X.mg X.base x k ps (spD X.K n F)) (hR:DA X c (e :: es) R) (hg:Gl X x:=by rfl)
  (hdb:(x == ("__debug__" : Str)) = false:=by decide) (he:starEach (e :: es) X.env = (false,eval e X.env) :: starEach es X.env:=by rfl) (hpl:(backTo pos (starEach es X.env)).any (·.1) = false:=by rfl) (hK:c.K = X.K:=by rfl) (hr:Room k X.A:=by decreasing_trivial) :
  DE X c (.Call (.Name x p) (e :: es) [] pos) (zaw n F R) where
 mono:=fun Z Q Q' k q=>hR.mono Z _ _ (fun ds z=>⟨z.1,zjC F ds _ _ k z.2⟩) q
 pe:=by
  obtain ⟨f,fd,FO,hm,hk,hb⟩:=C.ex
  refine zaZ (zhD FO hr hg hm hk hb .nil znk hR.pa hdb he hpl) fun Y H Q ⟨Z,G,r,q⟩=>⟨Z,G,r,hR.mono Z _ _ (fun ds z vs H' G' t e=>?_) q⟩
  show spD X.K n F (vs ++ []) H' Q E0
  rw [YAP]
  exact ⟨c.β,G',ds,t.gh,t.bx,Reps.back (c':=c) (c:=⟨X.K,c.β,fun _=>none,G'⟩) hK rfl (fun _ _=>rfl) e,by rw [<- e.length];exact z.1,
   zjC F ds _ _ (fun d z v H2 G2 t2 e2=>z v H2 G2 (t.trans t2) (Rep.back (c':=⟨X.K,c.β,H',G'⟩) (c:=c) hK.symm rfl (fun a h=>r.new0 (t.free h)) e2)) z.2⟩
end
mutual
inductive Tg where
 | nm (i:Nat)
 | tp (n:Nat) (ts:Tgs)
inductive Tgs where
 | nil
 | cons (t:Tg) (ts:Tgs)
end
mutual
def gOf (K:oS):Tg->TG
 | .nm i=>zco i
 | .tp n ts=>gSeq K n (gsOf K ts)
def gsOf (K:oS):Tgs->TGs
 | .nil=>gNil
 | .cons t ts=>zd8 (gOf K t) (gsOf K ts)
end
mutual
def gD:Tg->D->Env->(Env->Prop)->Prop
 | .nm i,d,Z,Q=>Q (Z.set i (.val d))
 | .tp n ts,.tup ds,Z,Q=>ds.length = n/\gDs ts ds Z Q
 | .tp n ts,.lst _ ds,Z,Q=>ds.length = n/\gDs ts ds Z Q
 | .tp _ _,_,_,_=>False
def gDs:Tgs->List D->Env->(Env->Prop)->Prop
 | .nil,[],Z,Q=>Q Z
 | .cons t ts,d :: ds,Z,Q=>gD t d Z fun Z'=>gDs ts ds Z' Q
 | _,_,_,_=>False
end
mutual
theorem zaW:∀ (t:Tg) (d:D) (Z:Env) {Q Q':Env->Prop},(∀ Z,Q Z->Q' Z)->gD t d Z Q->gD t d Z Q'
 | .nm i,d,Z,Q,Q',k,q=>by unfold gD at q ⊢;exact k _ q
 | .tp n ts,.tup ds,Z,Q,Q',k,q=>by unfold gD at q ⊢;exact ⟨q.1,zfO ts ds Z k q.2⟩
 | .tp _ _,.non,_,_,_,_,q=>by unfold gD at q;exact q.elim
 | .tp _ _,.bl _,_,_,_,_,q=>by unfold gD at q;exact q.elim
 | .tp _ _,.int _,_,_,_,_,q=>by unfold gD at q;exact q.elim
 | .tp _ _,.str _,_,_,_,_,q=>by unfold gD at q;exact q.elim
 | .tp n ts,.lst _ ds,Z,Q,Q',k,q=>by unfold gD at q ⊢;exact ⟨q.1,zfO ts ds Z k q.2⟩
 | .tp _ _,.box,_,_,_,_,q=>by unfold gD at q;exact q.elim
theorem zfO:∀ (ts:Tgs) (ds:List D) (Z:Env) {Q Q':Env->Prop},(∀ Z,Q Z->Q' Z)->gDs ts ds Z Q->gDs ts ds Z Q'
 | .nil,[],Z,Q,Q',k,q=>by unfold gDs at q ⊢;exact k _ q
 | .cons t ts,d :: ds,Z,Q,Q',k,q=>by unfold gDs at q ⊢;exact zaW t d Z (fun Z' z=>zfO ts ds Z' k z) q
 | .nil,_ :: _,_,_,_,_,q=>by unfold gDs at q;exact q.elim
 | .cons _ _,[],_,_,_,_,q=>by unfold gDs at q;exact q.elim
end
mutual
theorem zcY  : ∀ (t:Tg) (d:D) (v:V) (Z:Env) (Y:St) {Q:St->Hp->Prop},Rel c Z Y H G->Rep c G d v->gD t d Z (fun Z'=>∀ Y',Rel c Z' Y' H G->Q Y' H)->gOf c.K t v Y H Q
 | .nm i,d,v,Z,Y,Q,r,e,q=>by unfold gD at q;unfold gOf;exact q _ (r.put e)
 | .tp n ts,.tup ds,v,Z,Y,Q,r,e,q=>by
  unfold gD at q;unfold gOf
  obtain ⟨a,vs,rfl,ha,hv⟩:=e
  exact ⟨a,vs,rfl,.inl (zaN r.gh ha),by rw [<- hv.length];exact q.1,zga ts ds vs Z Y r hv q.2⟩
 | .tp _ _,.non,_,_,_,_,_,_,q=>by unfold gD at q;exact q.elim
 | .tp _ _,.bl _,_,_,_,_,_,_,q=>by unfold gD at q;exact q.elim
 | .tp _ _,.int _,_,_,_,_,_,_,q=>by unfold gD at q;exact q.elim
 | .tp _ _,.str _,_,_,_,_,_,_,q=>by unfold gD at q;exact q.elim
 | .tp n ts,.lst m ds,v,Z,Y,Q,r,e,q=>by
  unfold gD at q;unfold gOf
  obtain ⟨a,vs,rfl,ha,_,hv⟩:=e
  exact ⟨a,vs,rfl,.inr (SqL.of (r.gh _ _ ha)),by rw [<- hv.length];exact q.1,zga ts ds vs Z Y r hv q.2⟩
 | .tp _ _,.box,_,_,_,_,_,_,q=>by unfold gD at q;exact q.elim
theorem zga  : ∀ (ts:Tgs) (ds:List D) (vs:List V) (Z:Env) (Y:St) {Q:St->Hp->Prop},Rel c Z Y H G->Reps c G ds vs->gDs ts ds Z (fun Z'=>∀ Y',Rel c Z' Y' H G->Q Y' H)->gsOf c.K ts vs Y H Q
 | .nil,[],vs,Z,Y,Q,r,e,q=>by unfold gDs at q;unfold gsOf;exact ⟨e,q _ r⟩
 | .cons t ts,d :: ds,vs,Z,Y,Q,r,e,q=>by
  unfold gDs at q;unfold gsOf
  obtain ⟨v,ws,rfl,e1,e2⟩:=e
  exact ⟨v,ws,rfl,zcY t d v Z Y r e1 (zaW t d Z (fun Z' z Y' r'=>zga ts ds ws Z' Y' r' e2 z) q)⟩
 | .nil,_ :: _,_,_,_,_,_,_,q=>by unfold gDs at q;exact q.elim
 | .cons _ _,[],_,_,_,_,_,_,q=>by unfold gDs at q;exact q.elim
end
structure En where
 nx:Env->Prop
 rt:D->Prop
 bk:Env->Prop
 ct:Env->Prop
abbrev WS:=En->Env->Prop
structure En.Le (E E':En):Prop where
 nx:∀ Z,E.nx Z->E'.nx Z
 rt:∀ d,E.rt d->E'.rt d
 bk:∀ Z,E.bk Z->E'.bk Z
 ct:∀ Z,E.ct Z->E'.ct Z
def zkl (W:WS):Prop:=∀ E E' Z,En.Le E E'->W E Z->W E' Z
noncomputable def ends (c:Bk) (G:Hp) (Ds:Ends):En where
 nx:=fun Z=>∀ Y H' G',Rel c Z Y H' G'->Same G G'->Ds.nx Y H'
 rt:=fun d=>∀ v H' G',Stp c.β c.H0 c.G0 H' G'->Rep c G' d v->Ds.rt v H'
 bk:=fun Z=>∀ Y H' G',Rel c Z Y H' G'->Same G G'->Ds.bk Y H'
 ct:=fun Z=>∀ Y H' G',Rel c Z Y H' G'->Same G G'->Ds.ct Y H'
def zgi  (s:Same G G1):En.Le (ends c G Ds) (ends c G1 Ds):=
 ⟨fun Z h Y H' G' r s'=>h Y H' G' r (s.trans s'),fun d h=>h,fun Z h Y H' G' r s'=>h Y H' G' r (s.trans s'),fun Z h Y H' G' r s'=>h Y H' G' r (s.trans s')⟩
def tDS (c:Bk) (W:WS):TS:=fun Ds Y H=>∃ Z G,Rel c Z Y H G/\W (ends c G Ds) Z
structure DS (X:Cx) (c:Bk) (st:Stmt) (W:WS):Prop where
 mono:zkl W
 ps:PS X st (tDS c W)
structure DSs (X:Cx) (c:Bk) (sts:List Stmt) (W:WS):Prop where
 mono:zkl W
 pss:PSs X sts (tDS c W)
section
variable {X:Cx} {c:Bk} {st:Stmt} {rest:List Stmt} {pos p p':Pos} {e:Expr}
def zbY (h:PS X st t) (k:∀ D Y H,t' D Y H->t D Y H):PS X st t':=fun O s Y H D I q=>h O s Y H D I (k D Y H q)
def zdG (h:PSs X rest t) (k:∀ D Y H,t' D Y H->t D Y H):PSs X rest t':=fun O s Y H D I q=>h O s Y H D I (k D Y H q)
@[reducible] def nilS:WS:=fun E Z=>E.nx Z
@[reducible] def seqW (A B:WS):WS:=fun E Z=>A { E with nx:=B E } Z
def zed:DSs X c [] nilS:=⟨fun E E' Z l q=>l.nx _ q,zdG zba fun D Y H ⟨Z,G,r,q⟩=>q Y H G r (Same.refl _)⟩
def zao (h1:DS X c st A) (h2:DSs X c rest B):DSs X c (st :: rest) (seqW A B) where
 mono:=fun E E' Z l q=>h1.mono { E with nx:=B E } _ Z ⟨fun Z' z=>h2.mono _ _ Z' l z,l.rt,l.bk,l.ct⟩ q
 pss:=zdG (zai h1.ps h2.pss) fun D Y H ⟨Z,G,r,q⟩=>⟨Z,G,r,h1.mono { ends c G D with nx:=B (ends c G D) } _ Z ⟨fun Z' z Y' H' G' r' s'=>⟨Z',G',r',h2.mono _ _ Z' (zgi s') z⟩,fun d z=>z,fun Z' z=>z,fun Z' z=>z⟩ q⟩
def zaK (h1:DS X c st A):DSs X c [st] A:=⟨h1.mono,zap h1.ps⟩
def frz (i:Nat) (Z:Env):Env:=match Z[i]? with | some (.own xs)=>Z.set i (.val (.lst true xs)) | _=>Z
@[reducible] def frzW (i:Nat) (A:WS):WS:=fun E Z=>A E (frz i Z)
def znz  (r:Rel c Z Y H G) (i:Nat):∃ G',Same G G'/\Rel c (frz i Z) Y H G':=by
 unfold frz
 split
 .rename_i xs e;exact r.freeze e
 .exact ⟨G,Same.refl _,r⟩
def zjQ (i:Nat) (h:DS X c st A):DS X c st (frzW i A) where
 mono:=fun E E' Z l q=>h.mono E E' _ l q
 ps:=zbY h.ps fun D Y H ⟨Z,G,r,q⟩=>by
  obtain ⟨G',s',r'⟩:=znz r i
  exact ⟨frz i Z,G',r',h.mono _ _ _ (zgi s') q⟩
@[reducible] def ifS (C:WT) (A B:WS):WS:=fun E Z=>C Z fun b=>if b = true then A E Z else B E Z
def s_if  (hC:DT X c e C) (hA:DSs X c a A) (hB:DSs X c b B):DS X c (.If e a b pos) (ifS C A B) where
 mono:=fun E E' Z l q=>hC.mono Z _ _ (fun b z=>by
  cases b
  .exact hB.mono _ _ Z l z
  .exact hA.mono _ _ Z l z) q
 ps:=zbY (zc2 hC.pt hA.pss hB.pss) fun D Y H ⟨Z,G,r,q⟩=>⟨Z,G,r,hC.mono Z _ _ (fun b z H' G' t=>by
  cases b
  .exact ⟨Z,G',r.step t,hB.mono _ _ Z (zgi t.gg) z⟩
  .exact ⟨Z,G',r.step t,hA.mono _ _ Z (zgi t.gg) z⟩) q⟩
@[reducible] def retW (A:WE):WS:=fun E Z=>A Z E.rt
def zbr (hA:DE X c e A):DS X c (.Return (some e) pos) (retW A) where
 mono:=fun E E' Z l q=>hA.mono Z _ _ l.rt q
 ps:=zbY (za3 hA.pe) fun D Y H ⟨Z,G,r,q⟩=>⟨Z,G,r,hA.mono Z _ _ (fun d z v H' G' t e=>z v H' G' (r.stp.trans t) e) q⟩
@[reducible] def asgW (t:Tg) (A:WE):WS:=fun E Z=>A Z fun d=>gD t d Z E.nx
def zh6  (mA:zbf A) (D:Ends) (Y:St) (H:Hp) (h:tDS c (asgW t A) D Y H):tAsg (tD c A) (gOf c.K t) D Y H:=by
 obtain ⟨Z,G,r,q⟩:=h
 exact ⟨Z,G,r,mA Z _ _ (fun d z v H' G' t1 e1=>zcY t d v Z Y (r.step t1) e1 (zaW t d Z (fun Z' y Y' r'=>y Y' H' G' r' t1.gg) z)) q⟩
def zei  (mA:zbf A):zkl (asgW t A):=fun E E' Z l q=>mA Z _ _ (fun d z=>zaW t d Z l.nx z) q
def gn (i:Nat)  (hi:X.N[i]? = some x:=by rfl) (hx:Loc X.env.scope x:=by first | exact Or.inl rfl | exact Or.inr rfl) (hf:X.fn x = true\/X.env.scope.names.lookup x = some .local:=by first | exact .inl rfl | exact .inr rfl | assumption) (hN:X.N.Nodup:=by decreasing_trivial):PG X (.Name x p) (zco i):=zas hN hi hx hf
def ndB:List Str->Bool
 | []=>true
 | x :: l=>!l.elem x && ndB l
theorem ndB_of:∀ {l:List Str},ndB l = true->l.Nodup
 | [],_=>YCb
 | x :: l,h=>by
  unfold ndB at h
  have:=YCe.mp h
  refine YBb.mpr ⟨fun m=>?_,ndB_of this.2⟩
  rw [List.elem_iff.mpr m] at this
  exact absurd this.1 (by decide)
def za4 (i:Nat)  (hA:DE X c e A) (hi:X.N[i]? = some x:=by rfl) (hx:Loc X.env.scope x:=by first | exact Or.inl rfl | exact Or.inr rfl) (hs:swapsWith e (some (.Name x p)) pos.line X.env = pure false:=by rfl) (hf:X.fn x = true\/X.env.scope.names.lookup x = some .local:=by first | exact .inl rfl | exact .inr rfl | assumption) (hN:X.N.Nodup:=by decreasing_trivial):DS X c (.Assign [.Name x p] e pos) (asgW (.nm i) A):=
 ⟨zei hA.mono,zbY (zaM hN hi hx hA.pe hs hf) fun D Y H h=>zh6 (t:=.nm i) hA.mono D Y H h⟩
def zlD (t:Tg)  (hA:DE X c e A) (hg:PG X tg (gOf c.K t)) (hs:swapsWithSole [tg] e pos.line X.env = pure false:=by rfl) (hw:swappedStores [tg] e X.env = pure none:=by rfl)
  (h1:(assignEach [tg] X.env).map (·.2) = [assign tg X.env]:=by rfl):DS X c (.Assign [tg] e pos) (asgW t A):=
 ⟨zei hA.mono,zbY (zcT hA.pe hg hs hw h1) fun D Y H h=>zh6 hA.mono D Y H h⟩
@[reducible] def ownW (i:Nat) (F:WL):WS:=fun E Z=>F Z fun xs=>E.nx (Z.set i (.own xs))
def zhX  (mF:zcv F):zkl (ownW i F):=fun E E' Z l q=>mF Z _ _ (fun d z=>l.nx _ z) q
def zhU  (mF:zcv F) (D:Ends) (Y:St) (H:Hp) (h:tDS c (ownW i F) D Y H):tAsg (tDf c F) (zco i) D Y H:=by
 obtain ⟨Z,G,r,q⟩:=h
 refine ⟨Z,G,r,mF Z _ _ (fun xs z l vs H' G' t hl hg h0 hv=>?_) q⟩
 refine z _ H' G' ((r.step t).putOwn hl hg (r.new0 h0) (r.neβ h0) hv fun j ys e1 e2=>?_) t.gg
 obtain ⟨a,vs',f1,f2,_⟩:=r.slot j _ e1
 rw [e2] at f1
 cases f1
 rw [h0] at f2;cases f2
def zlE (i:Nat)  (hF:DF X c e F) (hi:X.N[i]? = some x:=by rfl) (hx:Loc X.env.scope x:=by first | exact Or.inl rfl | exact Or.inr rfl) (hs:swapsWith e (some (.Name x p)) pos.line X.env = pure false:=by rfl) (hf:X.fn x = true\/X.env.scope.names.lookup x = some .local:=by first | exact .inl rfl | exact .inr rfl | assumption) (hN:X.N.Nodup:=by decreasing_trivial):DS X c (.Assign [.Name x p] e pos) (ownW i F):=
 ⟨zhX hF.mono,zbY (zaM hN hi hx hF.pe hs hf) fun D Y H h=>zhU hF.mono D Y H h⟩
def appW (i:Nat) (A:WE):WS:=fun E Z=>match Z[i]? with
 | some (.own xs)=>A Z fun d=>xs.length < 100000/\E.nx (Z.set i (.own (xs ++ [d])))
 | _=>False
def zlM (i:Nat)  (hA:DE X c e A) (hN:X.N[i]? = some x:=by rfl) (hv:Vis X.env.scope x:=by first | exact Or.inl rfl | exact Or.inr (Or.inl rfl) | exact Or.inr (Or.inr rfl))
  (hd:(x == ("__debug__" : Str)) = false:=by decide) (hcd:(x == ("__classdict__" : Str)) = false:=by decide)
  (hbase:attributeBase (.Name x p) "append" X.env (eval (.Name x p) X.env) = eval (.Name x p) X.env:=by rfl)
  (hfew:((backTo cpos (starEach [e] X.env)).all (fun x=>!x.1) && (backToKw cpos (keywordEach [] X.env)).all (fun x=>x.1.isSome)
   && decide (([e]:List Expr).length + ([]:List Keyword).length + (if ([]:List Keyword).isEmpty then 0 else 1) < 30)) = true:=by rfl)
  (hline:(apos.endLine == cpos.line) = true:=by rfl) (hs:starEach [e] X.env = (false,eval e X.env) :: starEach [] X.env:=by rfl)
  (hsw:swapsWith (.Call (.Attribute (.Name x p) "append" apos) [e] [] cpos) none pos.line X.env = pure false:=by rfl):DS X c (.Expr (.Call (.Attribute (.Name x p) "append" apos) [e] [] cpos) pos) (appW i A) where
 mono:=fun E E' Z l q=>by
  unfold appW at q ⊢
  split at q
  .exact hA.mono Z _ _ (fun d z=>⟨z.1,l.nx _ z.2⟩) q
  .exact q.elim
 ps:=zbY (zcG (ziK YBA YBt YBu zbs (zdl hN hv hd hcd) (zaf hA.pe pa_nil hs) hbase hfew hline hs rfl) hsw) fun D Y H ⟨Z,G,r,q⟩=>by
  unfold appW at q
  split at q
  .rename_i xs ek
   obtain ⟨a,vs,h1,h2,h3,h4,h5,h6⟩:=r.slot i _ ek
   refine ⟨.ref a,h1,.inl ⟨rfl,vs,SqL.of h2⟩,Z,G,r,hA.mono Z _ _ (fun d z w H' G' t e=>?_) q⟩
   refine ⟨a,vs,w,rfl,rfl,t.fr a _ h5 h2,?_,?_⟩
   .rw [<- h6.length];exact YAu z.1 (small5 (YAl _))
   .exact z.2 _ _ G' ((r.step t).write ek h1 ((h6.mono t.gg).append (.one e))) t.gg
  .exact q.elim
def ixS (xs:List D) (k:D) (Q:Nat->Prop):Prop:=match k with | .int j=>(match ixN xs.length j with | some m=>Q m | none=>False) | _=>False
def zlK  (f:∀ m,Q m->Q' m) (q:ixS xs k Q):ixS xs k Q':=by
 unfold ixS at q ⊢
 split at q
 .split at q
  .exact f _ q
  .exact q.elim
 .exact q.elim
def putW (i:Nat) (I A:WE):WS:=fun E Z=>match Z[i]? with
 | some (.own xs)=>A Z fun d=>I Z fun k=>ixS xs k fun m=>E.nx (Z.set i (.own (xs.set m d)))
 | _=>False
def zp5 (i:Nat)   (hA:DE X c e A) (hI:DE X c ie I) (hN:X.N[i]? = some x:=by rfl) (hv:Vis X.env.scope x:=by first | exact Or.inl rfl | exact Or.inr (Or.inl rfl) | exact Or.inr (Or.inr rfl))
  (hd:(x == ("__debug__" : Str)) = false:=by decide) (hcd:(x == ("__classdict__" : Str)) = false:=by decide)
  (ha:∀ v,assign (.Subscript (.Name x p) ie tpos) X.env v = (do
   let ov <- holding [v] (eval (.Name x p) X.env)
   let iv <- holding [v,ov] (eval ie X.env)
   standAt tpos
   holding [v,ov,iv] (setItem ov iv v)
   release [v,ov,iv] []):=by intro _;rfl) (hs:swapsWithSole [.Subscript (.Name x p) ie tpos] e pos.line X.env = pure false:=by rfl) (hw:swappedStores [.Subscript (.Name x p) ie tpos] e X.env = pure none:=by rfl)
  (h1:(assignEach [.Subscript (.Name x p) ie tpos] X.env).map (·.2) = [assign (.Subscript (.Name x p) ie tpos) X.env]:=by rfl):DS X c (.Assign [.Subscript (.Name x p) ie tpos] e pos) (putW i I A) where
 mono:=fun E E' Z l q=>by
  unfold putW at q ⊢
  split at q
  .exact hA.mono Z _ _ (fun d z=>hI.mono Z _ _ (fun k y=>zlK (fun m=>l.nx _) y) z) q
  .exact q.elim
 ps:=zbY (zcT hA.pe (zgF (zdl hN hv hd hcd) hI.pe zca ha) hs hw h1) fun D Y H ⟨Z,G,r,q⟩=>by
  unfold putW at q
  split at q
  .rename_i xs ek
   refine ⟨Z,G,r,hA.mono Z _ _ (fun d z v H1 G1 t1 e1=>?_) q⟩
   obtain ⟨a,vs,h1,h2,h3,h4,h5,h6⟩:=(r.step t1).slot i _ ek
   refine ⟨.ref a,h1,Z,G1,r.step t1,hI.mono Z _ _ (fun k y w H2 G2 t2 e2=>?_) z⟩
   unfold ixS at y
   split at y
   .rename_i j
    split at y
    .rename_i m em
     refine ⟨a,vs,j,m,rfl,e2,t2.fr a _ h5 h2,by rw [<- h6.length];exact em,?_⟩
     exact y Y _ G2 (((r.step t1).step t2).write ek h1 (Reps.set (e1.mono t2.gg) m (h6.mono t2.gg))) (t1.gg.trans t2.gg)
    .exact y.elim
   .exact y.elim
  .exact q.elim
def getI (xs:List D) (k:D) (Q:Nat->Int->Prop):Prop:=match k with | .int j=>(match xs[j.toNat]? with | some (.int a)=>0 <= j/\Q j.toNat a | _=>False) | _=>False
def zjm  (f:∀ m a,Q m a->Q' m a) (q:getI xs k Q):getI xs k Q':=by
 unfold getI at q ⊢
 split at q
 .split at q
  .exact ⟨q.1,f _ _ q.2⟩
  .exact q.elim
 .exact q.elim
def intD (d:D) (Q:Int->Prop):Prop:=match d with | .int j=>Q j | _=>False
def zgE  (f:∀ m,Q m->Q' m) (q:intD d Q):intD d Q':=by
 cases d <;> first | exact f _ q | exact q
def zfk (i:Nat) (I A:WE):WS:=fun E Z=>match Z[i]? with
 | some (.own xs)=>I Z fun k=>getI xs k fun m a=>A Z fun d=>intD d fun b=>E.nx (Z.set i (.own (xs.set m (.int (a + b)))))
 | _=>False
def znf (i:Nat)   (hI:DE X c ie I) (hA:DE X c e A) (hN:X.N[i]? = some x:=by rfl) (hv:Vis X.env.scope x:=by first | exact Or.inl rfl | exact Or.inr (Or.inl rfl) | exact Or.inr (Or.inr rfl))
  (hd:(x == ("__debug__" : Str)) = false:=by decide) (hcd:(x == ("__classdict__" : Str)) = false:=by decide)
  (ha:∀ ov iv new,augStore ie ov iv new = (do holding [new,ov,iv] (setItem ov iv new);release [new,ov,iv] [];pure .next):=by intros;rfl):DS X c (.AugAssign (.Subscript (.Name x p) ie tpos) .Add e pos) (zfk i I A) where
 mono:=fun E E' Z l q=>by
  unfold zfk at q ⊢
  split at q
  .exact hI.mono Z _ _ (fun k z=>zjm (fun m a y=>hA.mono Z _ _ (fun d w=>zgE (fun b=>l.nx _) w) y) z) q
  .exact q.elim
 ps:=zbY (zjX (zdl hN hv hd hcd) hI.pe zit hA.pe zjF zca ha) fun D Y H ⟨Z,G,r,q⟩=>by
  unfold zfk at q
  split at q
  .rename_i xs ek
   obtain ⟨a,vs,h1,h2,h3,h4,h5,h6⟩:=r.slot i _ ek
   refine ⟨.ref a,h1,Z,G,r,hI.mono Z _ _ (fun k y w H1 G1 t1 e1=>?_) q⟩
   unfold getI at y
   split at y
   .rename_i j
    split at y
    .rename_i b em
     obtain ⟨j0,y⟩:=y
     have ej:w = V.int ((j.toNat:Nat):Int):=by rw [YBg j0];exact e1
     obtain ⟨v,ev,rv⟩:=h6.get em
     have rv':v = V.int b:=rv
     refine ⟨a,vs,j.toNat,v,rfl,ej,SqL.of (t1.fr a _ h5 h2),ev,Z,G1,r.step t1,hA.mono Z _ _ (fun d z u H2 G2 t2 e2=>?_) y⟩
     cases d with
     | int b2=>
      refine ⟨b,b2,rv',e2,a,vs,((j.toNat:Nat):Int),j.toNat,rfl,ej,t2.fr a _ h5 (t1.fr a _ h5 h2),?_,?_⟩
      .unfold ixN
       have hlt:j.toNat < vs.length:=(YAh.mp ev).1
       rw [if_pos (by omega),if_pos (by omega),YAE]
      .exact z Y _ G2 (((r.step t1).step t2).write ek h1 (Reps.set (d:=.int (b + b2)) rfl j.toNat ((h6.mono t1.gg).mono t2.gg))) (t1.gg.trans t2.gg)
     | _=>exact z.elim
    .exact y.elim
   .exact y.elim
  .exact q.elim
end
def ItOk (c:Bk) (J:It) (xs:List D) (G:Hp):Prop:=∀ (i:Nat) (H2 G2:Hp),Same G G2->Same G2 H2->BoxD c.β H2 G2->(∀ a,H2 a = none->c.H0 a = none) ->
 (i = xs.length->J.stop i H2)/\∀ d,xs[i]? = some d->J.go i H2/\∀ x H3,J.yld i H2 x H3->∃ G3,Stp c.β H2 G2 H3 G3/\Rep c G3 d x
def tDI (c:Bk) (I:WL):TI:=fun Y H R=>∃ Z G,Rel c Z Y H G/\I Z fun xs=>∀ J H' G',Stp c.β H G H' G'->ItOk c J xs G'->R J H'
structure DI (X:Cx) (c:Bk) (tg iter:Expr) (I:WL):Prop where
 mono:zcv I
 pi:PI X tg iter (tDI c I)
section
variable {X:Cx} {c:Bk} {tg e a b:Expr} {A B:WE} {pos p:Pos}
def zmi (h:PI X tg e wi) (k:∀ Y H R,wi' Y H R->wi Y H R):PI X tg e wi':=fun O s Y H R I q=>h O s Y H R I (k Y H R q)
def znv   (hl:G l = some (.lst vs)) (h:Reps c G xs vs):ItOk c (Itl c.K l) xs G:=by
 intro i H2 G2 s1 s2 bx h0
 have q:SqL c.K H2 l vs:=SqL.of (s2 _ _ (s1 _ _ hl))
 refine ⟨fun e=>⟨vs,q,by rw [e,h.length];exact YAl _⟩,fun d e=>?_⟩
 obtain ⟨v,e1,e2⟩:=h.get e
 refine ⟨⟨vs,v,q,e1⟩,fun x H3 y=>?_⟩
 obtain ⟨rfl,y⟩:=y
 have:=y vs q
 rw [e1] at this;cases this
 exact ⟨G2,Stp.refl s2 bx,e2.mono s1⟩
def zoy   (hl:SqT c.K G l vs) (h:Reps c G xs vs):ItOk c (Itt c.K l) xs G:=by
 intro i H2 G2 s1 s2 bx h0
 have q:SqT c.K H2 l vs:=zaN (s1.trans s2) hl
 refine ⟨fun e=>⟨vs,q,by rw [e,h.length];exact YAl _⟩,fun d e=>?_⟩
 obtain ⟨v,e1,e2⟩:=h.get e
 refine ⟨⟨vs,v,q,e1⟩,fun x H3 y=>?_⟩
 obtain ⟨rfl,y⟩:=y
 have:=y vs q
 rw [e1] at this;cases this
 exact ⟨G2,Stp.refl s2 bx,e2.mono s1⟩
@[reducible] def seqI (A:WE):WL:=fun Z Q=>A Z fun d=>seqD d Q
def zck (hA:DE X c e A) (hK:c.K = X.K:=by rfl):DI X c tg e (seqI A) where
 mono:=fun Z Q Q' k q=>hA.mono Z _ _ (fun d z=>zdt k z) q
 pi:=zmi (zpb hA.pe) fun Y H R ⟨Z,G,r,q⟩=>⟨Z,G,r,hA.mono Z _ _ (fun d z v H' G' t e=>by
  cases d with
  | lst n xs=>
   obtain ⟨l,vs,rfl,hl,_,hv⟩:=e
   exact ⟨l,rfl,.inl ⟨⟨vs,SqL.of (t.gh _ _ hl)⟩,z _ H' G' t (hK ▸ znv hl hv)⟩⟩
  | tup xs=>
   obtain ⟨l,vs,rfl,hl,hv⟩:=e
   exact ⟨l,rfl,.inr ⟨⟨vs,hK ▸ zaN t.gh hl⟩,z _ H' G' t (hK ▸ zoy hl hv)⟩⟩
  | _=>exact z.elim) q⟩
def rngL (m:Int) (n:Nat):List D:=(List.range n).map fun (k:Nat)=>D.int (m + (k:Int))
def it_rng (m:Int) (n:Nat):ItOk c (Itr m n) (rngL m n) G:=by
 intro i H2 G2 s1 s2 bx h0
 refine ⟨fun e=>by show n <= i;unfold rngL at e;simp at e;omega,fun d e=>?_⟩
 unfold rngL at e
 rw [YAk] at e
 have hi:i < n:=by
  by_cases h:i < n
  .exact h
  .rw [YB8 (by simp;omega)] at e;cases e
 rw [List.getElem?_range hi] at e
 cases e
 exact ⟨hi,fun x H3 ⟨y1,y2⟩=>⟨G2,by rw [y1];exact Stp.refl s2 bx,y2⟩⟩
def zcq (A:WE):WL:=fun Z Q=>A Z fun d=>match d with | .int n=>(-(2 ^ 62) <= n/\n < 2 ^ 62)/\Q (rngL 0 n.toNat) | _=>False
def zb8 (hA:DE X c a A) (hg:Gl X "range" := by rfl) (hs:starEach [a] X.env = [(false,eval a X.env)]:=by rfl) (hm:X.mg "range" = none:=by decreasing_trivial):DI X c tg (.Call (.Name "range" p) [a] [] pos) (zcq A) where
 mono:=fun Z Q Q' k q=>hA.mono Z _ _ (fun d z=>by cases d <;> first | exact ⟨z.1,k _ z.2⟩ | exact z) q
 pi:=zmi (zes hg hm (zaf hA.pe pa_nil hs) hs) fun Y H R ⟨Z,G,r,q⟩=>⟨Z,G,r,hA.mono Z _ _ (fun d z v H' G' t e=>by
  cases d with
  | int n=>exact ⟨n,by cases e;rfl,z.1.1,z.1.2,z.2 _ H' G' t (it_rng 0 _)⟩
  | _=>exact z.elim) q⟩
end
def zbv (t:Tg) (B:WS) (E:En):List D->Env->Prop
 | [],Z=>E.nx Z
 | x :: xs,Z=>gD t x Z fun Z'=>B { nx:=zbv t B E xs,ct:=zbv t B E xs,bk:=E.nx,rt:=E.rt } Z'
@[reducible] def forW (I:WL) (t:Tg) (B:WS):WS:=fun E Z=>I Z fun xs=>zbv t B E xs Z
theorem zeT  (mB:zkl B) (l:En.Le E E'):∀ (xs:List D) (Z:Env),zbv t B E xs Z->zbv t B E' xs Z
 | [],Z,q=>l.nx Z q
 | x :: xs,Z,q=>zaW t x Z (fun Z' z=>mB { nx:=zbv t B E xs,ct:=zbv t B E xs,bk:=E.nx,rt:=E.rt } _ Z' ⟨zeT mB l xs,l.rt,l.nx,zeT mB l xs⟩ z) q
section
variable {X:Cx} {c:Bk} {tg iter e:Expr} {body:List Stmt} {pos p:Pos}
def zdL (t:Tg) (hI:DI X c tg iter I) (hg:PG X tg (gOf c.K t)) (hB:DSs X c body B) (hp:PassesOwn (model X.prog X.w) X.A X.env X.xe:=by exact YBd) (hc:X.calm = true:=by rfl) (hs:∀ x,foldedSetIterable iter X.env x = pure x:=by intro _;rfl) :
  DS X c (.For tg iter body [] pos) (forW I t B) where
 mono:=fun E E' Z l q=>hI.mono Z _ _ (fun xs z=>zeT hB.mono l xs Z z) q
 ps:=zbY (zbO hp hc hI.pi hg hB.pss hs) fun D Y H ⟨Z,G,r,q⟩=>⟨Z,G,r,hI.mono Z _ _ (fun xs z J H1 G1 t1 it=>by
  refine ⟨fun i m Y H=>m = xs.length - i/\i <= xs.length/\∃ Z' G',Rel c Z' Y H G'/\Same G1 G'/\zbv t B (ends c G D) (xs.drop i) Z',⟨xs.length,rfl,YAD _,Z,G1,r.step t1,Same.refl _,z⟩,?_⟩
  rintro i m Y' H' ⟨rfl,hi,Z',G',r',s',q'⟩
  have ok:=it i H' G' s' r'.gh r'.bx (fun a z=>r'.new0 z)
  by_cases hlt:i < xs.length
  .refine .inr ?_
   have ed:xs.drop i = xs[i] :: xs.drop (i + 1):=YAJ hlt
   rw [ed] at q'
   obtain ⟨go,yl⟩:=ok.2 xs[i] (YAd hlt)
   refine ⟨go,fun Y H=>∃ Z' G',Rel c Z' Y H G'/\Same G1 G'/\zbv t B (ends c G D) (xs.drop (i + 1)) Z',fun Y2 H2 h=>⟨xs.length - (i + 1),by omega,rfl,by omega,h⟩,fun x H3 y=>?_⟩
   obtain ⟨G3,t3,e3⟩:=yl x H3 y
   refine zcY t xs[i] x Z' Y' (r'.step t3) e3 (zaW t xs[i] Z' (fun Z2 z2 Y2 r2=>?_) q')
   refine ⟨Z2,G3,r2,hB.mono { nx:=zbv t B (ends c G D) (xs.drop (i + 1)),ct:=zbv t B (ends c G D) (xs.drop (i + 1)),bk:=(ends c G D).nx,rt:=(ends c G D).rt } _ Z2 ⟨fun Z3 z3 Y3 H4 G4 r4 s4=>⟨Z3,G4,r4,(s'.trans t3.gg).trans s4,z3⟩,fun d z=>z,fun Z3 z3 Y3 H4 G4 r4 s4=>z3 Y3 H4 G4 r4 (((t1.gg.trans s').trans t3.gg).trans s4),fun Z3 z3 Y3 H4 G4 r4 s4=>⟨Z3,G4,r4,(s'.trans t3.gg).trans s4,z3⟩⟩ z2⟩
  .have e:i = xs.length:=by omega
   subst e
   rw [YBq] at q'
   exact .inl ⟨ok.1 rfl,q' Y' H' G' r' (t1.gg.trans s')⟩) q⟩
def zaP (n:Nat) (ds:List D):Env:=ds.map (fun d=>Sl.val d.old) ++ List.replicate (n - ds.length) .un
def fnW (n:Nat) (B:WS):Fn:=fun ds Q=>B { nx:=fun _=>Q .non,rt:=Q,bk:=fun _=>False,ct:=fun _=>False } (zaP n ds)
def ziI    (gh:Same G H) (bx:BoxD β H G) (h:Reps ⟨K,β,fun _=>none,G⟩ G ds vs):Rel ⟨K,β,H,G⟩ (zaP N.length ds) (L2.start N vs) H G:=by
 have noOwn:∀ (i:Nat) xs,(zaP N.length ds)[i]? ≠ some (.own xs):=fun i xs e=>by
  unfold zaP at e
  by_cases hi:i < ds.length
  .rw [YBF (by simpa using hi),YAk,YAd hi] at e;cases e
  .rw [YB1 (by simpa using hi),YBO] at e
   split at e <;> cases e
 refine ⟨by unfold zaP L2.start;simp [h.length],Stp.refl gh bx,fun i s e=>?_,fun i j a xs ys e1=>absurd e1 (noOwn i xs)⟩
 unfold zaP at e
 by_cases hi:i < ds.length
 .rw [YBF (by simpa using hi),YAk] at e
  obtain ⟨v,e1,e2⟩:=h.get (YAd hi)
  rw [YAd hi] at e
  cases e
  refine ⟨v,?_,Rep.hand (c:=⟨K,β,fun _=>none,G⟩) (c':=⟨K,β,H,G⟩) rfl rfl e2⟩
  unfold L2.start
  rw [YBF (by rw [YAc,<- h.length];exact hi),YAk,e1];rfl
 .rw [YB1 (by simpa using hi),YBO] at e
  split at e <;> cases e
  trivial
def zcc       (F:Fun K x qual st f fd)
  (hB:∀ {cdv:Value} {A:Around} {outer:List PySem.Env} {s:Shared} {H:Hp} {E:XK} {β:Addr} {G:Hp},N.Nodup->Room k (A.deeper (PyProof.Rows.envOfC qual (zan st) s.heap.objs.size f cdv)) ->
   DSs (cxOf CX0 P w K mg base N qual (zan st) f cdv A outer s H E).nox ⟨K,β,H,G⟩ (zbE st) B) (S:FnScope N ps (zan st):=by exact ⟨rfl,rfl,rfl,by decide +kernel,rfl,by decide +kernel,by decide +kernel⟩):FnOk P w K mg base CX0 (k + 1) f fd ps (spD K ps.length (fnW N.length B)):=by
 refine F.ok S (fun vs H Q E ⟨β,G,ds,_,_,_,h,_⟩=>h) (fun cdv A outer s H vs Q E hr ⟨β,G,ds,gh,bx,hv,hl,P',q,hP⟩=>?_)
 have h:=@hB cdv A outer s H E β G S.nd hr
 refine ⟨_,h.pss,zaP N.length ds,G,ziI gh bx hv,h.mono { nx:=fun _=>P' .non,rt:=P',bk:=fun _=>False,ct:=fun _=>False } _ _ ⟨fun Z z Y H' G' r s'=>hP _ z .non H' G' r.stp rfl,fun d z v H' G' t e=>hP _ z v H' G' t e,fun Z z=>z.elim,fun Z z=>z.elim⟩ q⟩
end
section
variable {X:Cx} {c:Bk} {a b:Expr} {A B:WE} {pos p tpos:Pos} {es:List Expr}
end
def subE (sub:List (Option Nat)) (Z:Env):Env:=sub.map fun o=>match o with
 | some j=>(match Z[j]? with | some (.val d)=>.val d | _=>.un)
 | none=>.un
def zf0   (sub:List (Option Nat)) (r:Rel c Z Y H G):Rel c (subE sub Z) (zaU sub Y) H G:=by
 have noOwn:∀ (i:Nat) xs,(subE sub Z)[i]? ≠ some (.own xs):=fun i xs e=>by
  unfold subE at e
  rw [YAk] at e
  cases h:sub[i]? with
  | none=>rw [h] at e;cases e
  | some o=>
   rw [h] at e
   cases o with
   | none=>cases e
   | some j=>
    simp only [YDT,YDy] at e
    split at e <;> cases e
 refine ⟨by unfold subE zaU;simp,r.stp,fun i s e=>?_,fun i j a xs ys e1=>absurd e1 (noOwn i xs)⟩
 unfold subE at e
 rw [YAk] at e
 cases h:sub[i]? with
 | none=>rw [h] at e;cases e
 | some o=>
  rw [h] at e
  cases o with
  | none=>cases e;trivial
  | some j=>
   simp only [YDT,YDy] at e
   split at e
   .rename_i d hd
    subst e
    obtain ⟨v,h1,h2⟩:=r.slot j _ hd
    refine ⟨v,?_,h2⟩
    unfold zaU
    rw [YAk,h]
    show some ((Y[j]?).join) = _
    rw [h1];rfl
   .subst e;trivial
mutual
def okT (sub:List (Option Nat)):Tg->Bool
 | .nm i=>decide (sub[i]? = some none)
 | .tp _ ts=>okTs sub ts
def okTs (sub:List (Option Nat)):Tgs->Bool
 | .nil=>true
 | .cons t ts=>okT sub t && okTs sub ts
end
mutual
theorem zfb (K:oS):∀ t:Tg,zdP (gOf K t)
 | .nm i=>by unfold gOf;exact zaX
 | .tp n ts=>by unfold gOf;exact zox (zia K ts)
theorem zia (K:oS):∀ t:Tgs,zeY (gsOf K t)
 | .nil=>by unfold gsOf;exact zdH
 | .cons t ts=>by unfold gsOf;exact zbh (zfb K t) (zia K ts)
end
mutual
theorem ziV (K:oS) (sub:List (Option Nat)):∀ t:Tg,okT sub t = true->zea sub (gOf K t)
 | .nm i,h=>by unfold gOf;unfold okT at h;exact zc0 (YAV h)
 | .tp n ts,h=>by unfold gOf;unfold okT at h;exact znT (zl2 K sub ts h)
theorem zl2 (K:oS) (sub:List (Option Nat)):∀ t:Tgs,okTs sub t = true->zfq sub (gsOf K t)
 | .nil,_=>by unfold gsOf;exact zkO
 | .cons t ts,h=>by
  unfold gsOf
  unfold okTs at h
  have h':=(YAX _ _ ▸ h:okT sub t = true/\okTs sub ts = true)
  exact zdx (ziV K sub t h'.1) (zfb K t) (zl2 K sub ts h'.2) (zia K ts)
end
def za7 (t:Tg) (C:WT) (E:WE) (Zc:Env) (Q:List D->Prop):List D->List D->Prop
 | [],acc=>Q acc
 | x :: xs,acc=>gD t x Zc fun Z2=>C Z2 fun b=>if b = true then E Z2 fun d=>za7 t C E Zc Q xs (acc ++ [d]) else za7 t C E Zc Q xs acc
theorem zcP  (mC:zct C) (mE:zbf E)  (k:∀ xs,Q xs->Q' xs):∀ xs acc,za7 t C E Zc Q xs acc->za7 t C E Zc Q' xs acc
 | [],acc,q=>k _ q
 | x :: xs,acc,q=>zaW t x Zc (fun Z2 z=>mC Z2 _ _ (fun b z=>by
  cases b
  .exact zcP mC mE k xs acc z
  .exact mE Z2 _ _ (fun d z=>zcP mC mE k xs _ z) z) z) q
@[reducible] def zaI (sub:List (Option Nat)) (I:WL) (t:Tg) (C:WT) (E:WE):WL:=fun Z Q=>I Z fun xs=>xs.length <= 100000/\za7 t C E (subE sub Z) Q xs []
def zdJ   (mI:zcv I) (mC:zct C) (mE:zbf E):zcv (zaI sub I t C E):=fun Z Q Q' k q=>mI Z _ _ (fun xs z=>⟨z.1,zcP mC mE k xs [] z.2⟩) q
def Stp.wr  (s:Stp β H G H' G')  (h0:H l = none) (hg:G' l = none) (hb:l ≠ β):Stp β H G (upd H' l o) G':=
 ⟨s.gg,fun a u e=>by rw [zae (fun z=>by rw [z,hg] at e;cases e)];exact s.gh a u e,fun a u n e=>by rw [zae (fun z=>by rw [z,h0] at e;cases e)];exact s.fr a u n e,s.nw,
 ⟨by obtain ⟨cc,p,r,d,ns,h,q⟩:=s.bx.ex;exact ⟨cc,p,r,d,ns,by rw [zae (Ne.symm hb)];exact h,q⟩,s.bx.still⟩,s.b0,fun cc p r d h=>by
  obtain ⟨p',r',d',e⟩:=s.bc cc p r d h
  exact ⟨p',r',d',by rw [zae (Ne.symm hb)];exact e⟩⟩
def Stp.still_none  (s:Stp β H G H' G')  (h:H l = some o) (hg:G l = none) (hs:¬ zl9 o:=by exact id):G' l = none:=by
 cases e:G' l with
 | none=>rfl
 | some u=>
  rcases s.nw l (by rw [e];simp) with z | z | ⟨o',z,st⟩
  .exact absurd hg z
  .rw [h] at z;cases z
  .rw [h] at z;cases z;exact absurd st hs
def zeW    (mI:zcv I) (mC:zct C) (mE:zbf E) (Y:St) (H:Hp) (Q:VK) (h:tDf c (zaI sub I t C E) Y H Q) :
  zjH sub (tDI c I) (gOf c.K t) (tDt c C) (tD c E) Y H Q:=by
 obtain ⟨Z,G,r,q⟩:=h
 refine ⟨Z,G,r,mI Z _ _ (fun xs ⟨hz,z⟩ J H1 G1 t1 it l hl=>?_) q⟩
 have hb:l ≠ c.β:=(r.step t1).neβ hl
 have hg1:G1 l = none:=zar t1.gh hl
 refine ⟨fun i m ys H2=>m = xs.length - i/\i <= xs.length/\ys.length <= i/\H2 l = some (.lst ys)/\∃ G2 acc,Stp c.β H1 G1 H2 G2/\G2 l = none/\Reps c G2 acc ys /\
  za7 t C E (subE sub Z) (fun ds=>∀ l vs H' G',Stp c.β H G H' G'->H' l = some (.lst vs)->G' l = none->H l = none->Reps c G' ds vs->Q (.ref l) H') (xs.drop i) acc,
  ⟨xs.length,rfl,YAD _,YAl _,zac,G1,[],Stp.own t1.gh t1.bx hl,hg1,rfl,z⟩,?_⟩
 rintro i m ys H2 ⟨rfl,hi,hyl,h2,G2,acc,t2,hg2,hv,q2⟩
 refine ⟨h2,?_⟩
 have r2:=(r.step t1).step t2
 have ok:=it i H2 G2 t2.gg t2.gh t2.bx (fun a z=>r2.new0 z)
 by_cases hlt:i < xs.length
 .refine .inr ?_
  rw [YAJ hlt] at q2
  obtain ⟨go,yl⟩:=ok.2 xs[i] (YAd hlt)
  refine ⟨go,fun ys' H3=>ys'.length <= i + 1/\H3 l = some (.lst ys')/\∃ G3 acc',Stp c.β H1 G1 H3 G3/\G3 l = none/\Reps c G3 acc' ys'/\za7 t C E (subE sub Z) (fun ds=>∀ l vs H' G',Stp c.β H G H' G'->H' l = some (.lst vs)->G' l = none->H l = none->Reps c G' ds vs->Q (.ref l) H') (xs.drop (i + 1)) acc',
   fun ys' H3 ⟨a1,a2,a3⟩=>⟨xs.length - (i + 1),by omega,rfl,by omega,a1,a2,a3⟩,fun x H3 y=>?_⟩
  obtain ⟨G3,t3,e3⟩:=yl x H3 y
  have h3:H3 l = some (.lst ys):=t3.fr l _ hb h2
  have hg3:G3 l = none:=t3.still_none h2 hg2
  have t13:=t2.trans t3
  refine zcY t xs[i] x (subE sub Z) (zaU sub Y) (zf0 sub ((r.step t1).step t13)) e3 (zaW t xs[i] _ (fun Z2 z2 Y2 rr=>?_) q2)
  refine ⟨Z2,G3,rr,mC Z2 _ _ (fun b z3 H4 G4 t4=>?_) z2⟩
  have h4:H4 l = some (.lst ys):=t4.fr l _ hb h3
  have hg4:G4 l = none:=t4.still_none h3 hg3
  have t14:=t13.trans t4
  cases b
  .exact ⟨YDz hyl,h4,G4,acc,t14,hg4,(hv.mono t3.gg).mono t4.gg,z3⟩
  .refine ⟨Z2,G4,rr.step t4,mE Z2 _ _ (fun d z4 y H5 G5 t5 e5=>?_) z3⟩
   have h5:H5 l = some (.lst ys):=t5.fr l _ hb h4
   have hg5:G5 l = none:=t5.still_none h4 hg4
   refine ⟨h5,?_,by rw [YAw];exact YC2 hyl 1,zac,G5,acc ++ [d],(t14.trans t5).wr hl hg5 hb,hg5,(((hv.mono t3.gg).mono t4.gg).mono t5.gg).append (.one e5),z4⟩
   have:=small5 (YAl 100000)
   omega
 .have e:i = xs.length:=by omega
  subst e
  rw [YBq] at q2
  exact .inl ⟨ok.1 rfl,q2 l ys H2 G2 (t1.trans t2) h2 hg2 (t1.free hl) hv⟩
structure DIf (X:Cx) (c:Bk) (ifs:List Expr) (C:WT):Prop where
 mono:zct C
 pf:PIfs X ifs (tDt c C)
@[reducible] def noIf:WT:=fun _ Q=>Q true
section
variable {X:Cx} {c:Bk} {tg iter elt e:Expr} {ifs:List Expr} {scope:Scope} {pos p spos:Pos} {Nc:List Str} {sub:List (Option Nat)} {I:WL} {C:WT} {E:WE}
def zbb:DIf X c [] noIf:=⟨fun Z Q Q' k q=>k _ q,fun O s Y H Q I ⟨Z,G,r,q⟩=>pif0 O s Y H Q I (q H G r.refl)⟩
def zl4 (h:DT X c e C):DIf X c [e] C:=⟨h.mono,pif1 h.pt⟩
def zbI (t:Tg) (hI:DI X c tg iter I) (hg:∀ {cl L s0 H0 ex},PG (zak X Nc scope cl L s0 H0 ex) tg (gOf c.K t)) (hC:∀ {cl L s0 H0 ex},DIf (zak X Nc scope cl L s0 H0 ex) c ifs C) (hE:∀ {cl L s0 H0 ex},DE (zak X Nc scope cl L s0 H0 ex) c elt E)
  (hS:zez X.N X.env.scope scope Nc sub = true:=by kernel_rfl) (hok:okT sub t = true:=by decide +kernel) (hc:X.calm = true:=by rfl) (hs:∀ x,foldedSetIterable iter X.env x = pure x:=by intro _;rfl) :
  DF X c (.ListComp elt [⟨tg,iter,ifs,0⟩] scope pos) (zaI sub I t C E):=
 have mC:=(@hC [] 0 X.s₀ (fun _=>none) []).mono
 have mE:=(@hE [] 0 X.s₀ (fun _=>none) []).mono
 ⟨zdJ hI.mono mC mE,zaZ (zfE hc (CompScope.of hS) hI.pi (fun cl L s0 H0 ex=>@hg cl L s0 H0 ex) (ziV c.K sub t hok) (zfb c.K t) (fun cl L s0 H0 ex=>(@hC cl L s0 H0 ex).pf) (fun cl L s0 H0 ex=>(@hE cl L s0 H0 ex).pe) hs) (zeW hI.mono mC mE)⟩
def zkz (i:Nat) (t:Tg) (hI:DI X c tg iter I) (hg:∀ {cl L s0 H0 ex},PG (zak X Nc scope cl L s0 H0 ex) tg (gOf c.K t)) (hC:∀ {cl L s0 H0 ex},DIf (zak X Nc scope cl L s0 H0 ex) c ifs C) (hE:∀ {cl L s0 H0 ex},DE (zak X Nc scope cl L s0 H0 ex) c elt E) (hi:X.N[i]? = some x:=by rfl) (hy:X.env.scope.names.lookup x = some .local:=by rfl) (hS:zez X.N X.env.scope scope Nc sub = true:=by kernel_rfl) (hok:okT sub t = true:=by decide +kernel) (hc:X.calm = true:=by rfl) (hsw:swapsWith (.ListComp elt [⟨tg,iter,ifs,0⟩] scope pos) (some (.Name x p)) spos.line X.env = pure true:=by rfl) (hs:∀ x,foldedSetIterable iter X.env x = pure x:=by intro _;rfl) (hN:X.N.Nodup:=by decreasing_trivial) :
  DS X c (.Assign [.Name x p] (.ListComp elt [⟨tg,iter,ifs,0⟩] scope pos) spos) (asgW (.nm i) (valW (zaI sub I t C E))):=by
 have mC:=(@hC [] 0 X.s₀ (fun _=>none) []).mono
 have mE:=(@hE [] 0 X.s₀ (fun _=>none) []).mono
 have mL:=zdJ (sub:=sub) (t:=t) hI.mono mC mE
 have mV:zbf (valW (zaI sub I t C E)):=fun Z Q Q' k q=>mL Z _ _ (fun xs z=>k _ z) q
 refine ⟨zei mV,zbY (zhw hc hN hi hy (CompScope.of hS) hI.pi (fun cl L s0 H0 ex=>@hg cl L s0 H0 ex) (ziV c.K sub t hok) (zfb c.K t) (fun cl L s0 H0 ex=>(@hC cl L s0 H0 ex).pf) (fun cl L s0 H0 ex=>(@hE cl L s0 H0 ex).pe) hsw hs) fun D Y H ⟨Z,G,r,q⟩=>?_⟩
 refine zeW hI.mono mC mE Y H _ ⟨Z,G,r,mL Z _ _ (fun xs z l vs H' G' t hl hg h0 hv=>?_) q⟩
 have hb:=r.neβ h0
 exact z (Y.set i (some (.ref l))) H' (upd G' l (.lst vs)) ((r.step (t.still hl h0 hb hg)).put ⟨l,vs,rfl,zac,fun _=>r.new0 h0,hv.mono (zbq hg)⟩) (t.gg.trans (zbq hg))
def znV (i:Nat) (t:Tg) (hI:DI X c tg iter I) (hg:∀ {cl L s0 H0 ex},PG (zak X Nc scope cl L s0 H0 ex) tg (gOf c.K t)) (hC:∀ {cl L s0 H0 ex},DIf (zak X Nc scope cl L s0 H0 ex) c ifs C) (hE:∀ {cl L s0 H0 ex},DE (zak X Nc scope cl L s0 H0 ex) c elt E) (hi:X.N[i]? = some x:=by rfl) (hy:X.env.scope.names.lookup x = some .local:=by rfl) (hS:zez X.N X.env.scope scope Nc sub = true:=by kernel_rfl) (hok:okT sub t = true:=by decide +kernel) (hc:X.calm = true:=by rfl) (hsw:swapsWith (.ListComp elt [⟨tg,iter,ifs,0⟩] scope pos) (some (.Name x p)) spos.line X.env = pure true:=by rfl) (hs:∀ x,foldedSetIterable iter X.env x = pure x:=by intro _;rfl) (hN:X.N.Nodup:=by decreasing_trivial) :
  DS X c (.Assign [.Name x p] (.ListComp elt [⟨tg,iter,ifs,0⟩] scope pos) spos) (ownW i (zaI sub I t C E)):=by
 have mC:=(@hC [] 0 X.s₀ (fun _=>none) []).mono
 have mE:=(@hE [] 0 X.s₀ (fun _=>none) []).mono
 have mL:=zdJ (sub:=sub) (t:=t) hI.mono mC mE
 refine ⟨zhX mL,zbY (zhw hc hN hi hy (CompScope.of hS) hI.pi (fun cl L s0 H0 ex=>@hg cl L s0 H0 ex) (ziV c.K sub t hok) (zfb c.K t) (fun cl L s0 H0 ex=>(@hC cl L s0 H0 ex).pf) (fun cl L s0 H0 ex=>(@hE cl L s0 H0 ex).pe) hsw hs) fun D Y H h=>?_⟩
 exact zeW hI.mono mC mE Y H _ (zhU mL D Y H h)
def zcD (t:Tg) (C:WT) (E:WE) (Zc:Env) (Q:List Int->Prop):List D->List Int->Prop
 | [],acc=>Q acc
 | x :: xs,acc=>gD t x Zc fun Z2=>C Z2 fun b=>if b = true then E Z2 fun d=>intD d fun k=>zcD t C E Zc Q xs (k :: acc) else zcD t C E Zc Q xs acc
theorem zcZ  (mC:zct C) (mE:zbf E)  (k:∀ xs,Q xs->Q' xs):∀ xs acc,zcD t C E Zc Q xs acc->zcD t C E Zc Q' xs acc
 | [],acc,q=>k _ q
 | x :: xs,acc,q=>zaW t x Zc (fun Z2 z=>mC Z2 _ _ (fun b z=>by
  cases b
  .exact zcZ mC mE k xs acc z
  .exact mE Z2 _ _ (fun d z=>zgE (fun m z=>zcZ mC mE k xs _ z) z) z) z) q
@[reducible] def zhq (sub:List (Option Nat)) (I:WL) (t:Tg) (C:WT) (E:WE):WL:=fun Z Q=>I Z fun xs=>xs.length < 64/\zcD t C E (subE sub Z) (fun ns=>Q ((zbB ns).map D.int)) xs []
def zhK (mI:zcv I) (mC:zct C) (mE:zbf E):zcv (zhq sub I t C E):=fun Z Q Q' k q=>mI Z _ _ (fun xs z=>⟨z.1,zcZ mC mE (fun ns z=>k _ z) xs [] z.2⟩) q
def zly (t:Tg) (hI:DI X c tg iter I) (hg:∀ {cl L s0 H0 ex},PG (zak X Nc scope cl L s0 H0 ex) tg (gOf c.K t)) (hC:∀ {cl L s0 H0 ex},DIf (zak X Nc scope cl L s0 H0 ex) c ifs C) (hE:∀ {cl L s0 H0 ex},DE (zak X Nc scope cl L s0 H0 ex) c elt E) (hS:zez X.N X.env.scope scope Nc sub = true:=by kernel_rfl) (hok:okT sub t = true:=by decide +kernel) (hc:X.calm = true:=by rfl) (hs:∀ x,foldedSetIterable iter X.env x = pure x:=by intro _;rfl) (hgl:Gl X "sorted" := by rfl) (hm:X.mg "sorted" = none:=by decreasing_trivial) :
  DF X c (.Call (.Name "sorted" p) [.SetComp elt [⟨tg,iter,ifs,0⟩] scope pos] [] spos) (zhq sub I t C E):=by
 have mC:=(@hC [] 0 X.s₀ (fun _=>none) []).mono
 have mE:=(@hE [] 0 X.s₀ (fun _=>none) []).mono
 refine ⟨zhK hI.mono mC mE,zaZ (zbp (zcy hc) hgl hm YCG (zaf (zlR hc (CompScope.of hS) hI.pi (fun cl L s0 H0 ex=>@hg cl L s0 H0 ex) (ziV c.K sub t hok) (zfb c.K t) (fun cl L s0 H0 ex=>(@hC cl L s0 H0 ex).pf) (fun cl L s0 H0 ex=>(@hE cl L s0 H0 ex).pe) hs) pa_nil) (by decide) (by decide) rfl rfl) fun Y H Q ⟨Z,G,r,q⟩=>?_⟩
 refine ⟨Z,G,r,hI.mono Z _ _ (fun xs ⟨hz,z⟩ J H1 G1 t1 it l hl=>?_) q⟩
 have hsc:=zjD
 have hb:l ≠ c.β:=(r.step t1).neβ hl
 have hg1:G1 l = none:=zar t1.gh hl
 refine ⟨fun i m ys H2=>m = xs.length - i/\i <= xs.length/\ys.length <= i/\H2 l = some (SetO X.w l ys)/\∃ G2,Stp c.β H1 G1 H2 G2/\G2 l = none /\
  zcD t C E (subE sub Z) (fun ns=>∀ l vs H' G',Stp c.β H G H' G'->H' l = some (.lst vs)->G' l = none->H l = none->Reps c G' ((zbB ns).map D.int) vs->Q (.ref l) H') (xs.drop i) ys,
  ⟨xs.length,rfl,YAD _,YAl _,zac,G1,Stp.own t1.gh t1.bx hl,hg1,z⟩,?_⟩
 rintro i m ys H2 ⟨rfl,hi,hyl,h2,G2,t2,hg2,q2⟩
 refine ⟨h2,?_⟩
 have r2:=(r.step t1).step t2
 have ok:=it i H2 G2 t2.gg t2.gh t2.bx (fun a z=>r2.new0 z)
 by_cases hlt:i < xs.length
 .refine .inr ?_
  rw [YAJ hlt] at q2
  obtain ⟨go,yl⟩:=ok.2 xs[i] (YAd hlt)
  refine ⟨go,fun ys' H3=>ys'.length <= i + 1/\H3 l = some (SetO X.w l ys')/\∃ G3,Stp c.β H1 G1 H3 G3/\G3 l = none/\zcD t C E (subE sub Z) (fun ns=>∀ l vs H' G',Stp c.β H G H' G'->H' l = some (.lst vs)->G' l = none->H l = none->Reps c G' ((zbB ns).map D.int) vs->Q (.ref l) H') (xs.drop (i + 1)) ys',
   fun ys' H3 ⟨a1,a2,a3⟩=>⟨xs.length - (i + 1),by omega,rfl,by omega,a1,a2,a3⟩,fun x H3 y=>?_⟩
  obtain ⟨G3,t3,e3⟩:=yl x H3 y
  have h3:H3 l = some (SetO X.w l ys):=t3.fr l _ hb h2
  have hg3:G3 l = none:=t3.still_none h2 hg2
  have t13:=t2.trans t3
  refine zcY t xs[i] x (subE sub Z) (zaU sub Y) (zf0 sub ((r.step t1).step t13)) e3 (zaW t xs[i] _ (fun Z2 z2 Y2 rr=>?_) q2)
  refine ⟨Z2,G3,rr,mC Z2 _ _ (fun b z3 H4 G4 t4=>?_) z2⟩
  have h4:H4 l = some (SetO X.w l ys):=t4.fr l _ hb h3
  have hg4:G4 l = none:=t4.still_none h3 hg3
  have t14:=t13.trans t4
  cases b
  .exact ⟨YDz hyl,h4,G4,t14,hg4,z3⟩
  .refine ⟨Z2,G4,rr.step t4,mE Z2 _ _ (fun d z4 y H5 G5 t5 e5=>?_) z3⟩
   have h5:H5 l = some (SetO X.w l ys):=t5.fr l _ hb h4
   have hg5:G5 l = none:=t5.still_none h4 hg4
   cases d with
   | int k=>exact ⟨k,e5,h5,by omega,YC2 hyl 1,zac,G5,(t14.trans t5).wr hl hg5 hb,hg5,z4⟩
   | _=>exact z4.elim
 .have e:i = xs.length:=by omega
  subst e
  rw [YBq] at q2
  refine .inl ⟨ok.1 rfl,l,ys,rfl,h2,by omega,fun l3 ms hl3 up mem=>?_⟩
  rw [zoG up mem]
  have t3:=t1.trans t2
  exact q2 l3 _ _ G2 (t3.trans (Stp.own t2.gh t2.bx hl3)) zac (zar t2.gh hl3) (t3.free hl3) (reps_ints.mpr rfl)
end
def NoOwn (Z:Env):Prop:=∀ (i:Nat) xs,Z[i]? ≠ some (.own xs)
theorem NoOwn.set (h:NoOwn Z) (i:Nat) (d:D):NoOwn (Z.set i (.val d)):=fun j xs e=>by
 by_cases z:i = j
 .subst z
  by_cases hl:i < Z.length
  .rw [YAr hl] at e;cases e
  .rw [YB8 (by simpa using hl)] at e;cases e
 .rw [YAj z] at e;exact h j xs e
mutual
theorem zh7:∀ (t:Tg) (d:D) (Z:Env) {Q:Env->Prop},NoOwn Z->gD t d Z Q->gD t d Z fun Z'=>Q Z'/\NoOwn Z'
 | .nm i,d,Z,Q,k,q=>by unfold gD at q ⊢;exact ⟨q,k.set i d⟩
 | .tp n ts,.tup ds,Z,Q,k,q=>by unfold gD at q ⊢;exact ⟨q.1,zeq ts ds Z k q.2⟩
 | .tp _ _,.non,_,_,_,q=>by unfold gD at q;exact q.elim
 | .tp _ _,.bl _,_,_,_,q=>by unfold gD at q;exact q.elim
 | .tp _ _,.int _,_,_,_,q=>by unfold gD at q;exact q.elim
 | .tp _ _,.str _,_,_,_,q=>by unfold gD at q;exact q.elim
 | .tp n ts,.lst _ ds,Z,Q,k,q=>by unfold gD at q ⊢;exact ⟨q.1,zeq ts ds Z k q.2⟩
 | .tp _ _,.box,_,_,_,q=>by unfold gD at q;exact q.elim
theorem zeq:∀ (ts:Tgs) (ds:List D) (Z:Env) {Q:Env->Prop},NoOwn Z->gDs ts ds Z Q->gDs ts ds Z fun Z'=>Q Z'/\NoOwn Z'
 | .nil,[],Z,Q,k,q=>by unfold gDs at q ⊢;exact ⟨q,k⟩
 | .cons t ts,d :: ds,Z,Q,k,q=>by
  unfold gDs at q ⊢
  exact zaW t d Z (fun Z' z=>zeq ts ds Z' z.2 z.1) (zh7 t d Z k q)
 | .nil,_ :: _,_,_,_,q=>by unfold gDs at q;exact q.elim
 | .cons _ _,[],_,_,_,q=>by unfold gDs at q;exact q.elim
end
def ziG (sub:List (Option Nat)) (Z:Env):NoOwn (subE sub Z):=fun i xs e=>by
 unfold subE at e
 rw [YAk] at e
 cases h:sub[i]? with
 | none=>rw [h] at e;cases e
 | some o=>
  rw [h] at e
  cases o with
  | none=>cases e
  | some j=>
   simp only [YDT,YDy] at e
   split at e <;> cases e
def Rel.move   (r:Rel c Z Y H G) (no:NoOwn Z) (gg:Same G G') (t:Stp c.β c.H0 c.G0 H' G'):Rel c Z Y H' G':=
 ⟨r.len,t,fun i s e=>by
  cases s with
  | un=>trivial
  | val d=>obtain ⟨v,h1,h2⟩:=r.slot i _ e;exact ⟨v,h1,h2.mono gg⟩
  | own xs=>exact absurd e (no i xs),fun i j a xs ys e=>absurd e (no i xs)⟩
mutual
def slT:Tg->List Nat
 | .nm i=>[i]
 | .tp _ ts=>slTs ts
def slTs:Tgs->List Nat
 | .nil=>[]
 | .cons t ts=>slT t ++ slTs ts
end
mutual
theorem znq (K:oS):∀ (t:Tg) (v:V) (Y:St) (H:Hp) (Q:St->Hp->Prop),gOf K t v Y H Q->gOf K t v Y H fun Y2 H2=>Q Y2 H2/\∀ i:Nat,i ∉ slT t->Y2[i]? = Y[i]?
 | .nm i,v,Y,H,Q,q=>by
  unfold gOf at q ⊢
  refine ⟨q,fun j hj=>?_⟩
  unfold slT at hj
  rw [YAj (fun z=>hj (by simp [z]))]
 | .tp n ts,v,Y,H,Q,q=>by
  unfold gOf at q ⊢
  obtain ⟨a,xs,e,s,l,q⟩:=q
  exact ⟨a,xs,e,s,l,by unfold slT;exact zl6 K ts xs Y H Q q⟩
theorem zl6 (K:oS):∀ (t:Tgs) (v:List V) (Y:St) (H:Hp) (Q:St->Hp->Prop),gsOf K t v Y H Q->gsOf K t v Y H fun Y2 H2=>Q Y2 H2/\∀ i:Nat,i ∉ slTs t->Y2[i]? = Y[i]?
 | .nil,v,Y,H,Q,q=>by
  unfold gsOf at q ⊢
  exact ⟨q.1,q.2,fun _ _=>rfl⟩
 | .cons t ts,v,Y,H,Q,q=>by
  unfold gsOf at q ⊢
  obtain ⟨x,r,e,q⟩:=q
  refine ⟨x,r,e,zfb K t _ _ _ _ _ (fun Y2 H2 z=>?_) (znq K t _ _ _ _ q)⟩
  refine zia K ts _ _ _ _ _ (fun Y3 H3 y=>⟨y.1,fun i hi=>?_⟩) (zl6 K ts _ _ _ _ z.1)
  unfold slTs at hi
  rw [y.2 i (fun h=>hi (YAq _ h)),z.2 i (fun h=>hi (YAx _ h))]
end
def zmj (sub:List (Option Nat)) (t t2:Tg):Bool:=(slT t2).all fun i=>decide (sub[i]? = some none) && !(slT t).contains i
def zlA  (h:zmj sub t t2 = true):znD sub (gOf K t) (gOf K t2):=fun v Y H Q q=>by
 refine zfb K t _ _ _ _ _ (fun Y2 H2 z=>⟨z.1,fun Y' _ u H' Q' q'=>?_⟩) (znq K t _ _ _ _ q)
 refine zfb K t2 _ _ _ _ _ (fun Y3 H3 y=>⟨y.1,fun i v e=>?_⟩) (znq K t2 _ _ _ _ q')
 by_cases hi:i ∈ slT t2
 .have:=YB3.mp h i hi
  rw [YAX] at this
  obtain ⟨h1,h2⟩:=this
  have h1:=YAV h1
  have h2:i ∉ slT t:=by simpa using h2
  rw [z.2 i h2] at e
  obtain ⟨j,e1,_⟩:=zcK e
  rw [h1] at e1;cases e1
 .rw [y.2 i hi];exact e
def zcF (t:Tg) (I2:WL) (t2:Tg) (C:WT) (E:WE) (Zc:Env) (Q:List D->Prop):List D->List D->Prop
 | [],acc=>Q acc
 | x :: xs,acc=>gD t x Zc fun Z2=>I2 Z2 fun ys=>acc.length + ys.length <= 100000/\za7 t2 C E Z2 (fun acc'=>zcF t I2 t2 C E Zc Q xs acc') ys acc
theorem zet   (mI:zcv I2) (mC:zct C) (mE:zbf E)  (k:∀ xs,Q xs->Q' xs):∀ xs acc,zcF t I2 t2 C E Zc Q xs acc->zcF t I2 t2 C E Zc Q' xs acc
 | [],acc,q=>k _ q
 | x :: xs,acc,q=>zaW t x Zc (fun Z2 z=>mI Z2 _ _ (fun ys z=>⟨z.1,zcP mC mE (fun acc' z=>zet mI mC mE k xs acc' z) ys acc z.2⟩) z) q
@[reducible] def zeO (sub:List (Option Nat)) (I:WL) (t:Tg) (I2:WL) (t2:Tg) (C:WT) (E:WE):WL:=fun Z Q=>I Z fun xs=>zcF t I2 t2 C E (subE sub Z) Q xs []
def zhH   (mI:zcv I) (mI2:zcv I2) (mC:zct C) (mE:zbf E):zcv (zeO sub I t I2 t2 C E):=fun Z Q Q' k q=>mI Z _ _ (fun xs z=>zet mI2 mC mE k xs [] z) q
def ziR    (mI:zcv I) (mI2:zcv I2) (mC:zct C) (mE:zbf E) (Y:St) (H:Hp) (Q:VK) (h:tDf c (zeO sub I t I2 t2 C E) Y H Q) :
  zkj sub (tDI c I) (gOf c.K t) (tDI c I2) (gOf c.K t2) (tDt c C) (tD c E) Y H Q:=by
 obtain ⟨Z,G,r,q⟩:=h
 refine ⟨Z,G,r,mI Z _ _ (fun xs z J H1 G1 t1 it l hl=>?_) q⟩
 have hb:l ≠ c.β:=(r.step t1).neβ hl
 have hg1:G1 l = none:=zar t1.gh hl
 have r1:=r.step t1
 generalize hQQ:(fun ds:List D=>∀ l vs H' G',Stp c.β H G H' G'->H' l = some (.lst vs)->G' l = none->H l = none->Reps c G' ds vs->Q (.ref l) H') = QQ at z
 refine ⟨fun i m ys H2=>m = xs.length - i/\i <= xs.length/\H2 l = some (.lst ys)/\∃ G2 acc,Stp c.β H1 G1 H2 G2/\G2 l = none/\Reps c G2 acc ys/\zcF t I2 t2 C E (subE sub Z) QQ (xs.drop i) acc,
  ⟨xs.length,rfl,YAD _,zac,G1,[],Stp.own t1.gh t1.bx hl,hg1,rfl,z⟩,?_⟩
 rintro i m ys H2 ⟨rfl,hi,h2,G2,acc,s2,hg2,hv,q2⟩
 refine ⟨h2,?_⟩
 have r2:=r1.step s2
 have ok:=it i H2 G2 s2.gg s2.gh s2.bx (fun a z=>r2.new0 z)
 by_cases hlt:i < xs.length
 .refine .inr ?_
  rw [YAJ hlt] at q2
  obtain ⟨go,yl⟩:=ok.2 xs[i] (YAd hlt)
  refine ⟨go,fun ys' H3=>H3 l = some (.lst ys')/\∃ G3 acc',Stp c.β H1 G1 H3 G3/\G3 l = none/\Reps c G3 acc' ys'/\zcF t I2 t2 C E (subE sub Z) QQ (xs.drop (i + 1)) acc',
   fun ys' H3 ⟨a2,a3⟩=>⟨xs.length - (i + 1),by omega,rfl,by omega,a2,a3⟩,fun x H3 y=>?_⟩
  obtain ⟨G3,t3,e3⟩:=yl x H3 y
  have h3:H3 l = some (.lst ys):=t3.fr l _ hb h2
  have hg3:G3 l = none:=t3.still_none h2 hg2
  have t13:=s2.trans t3
  refine zcY t xs[i] x (subE sub Z) (zaU sub Y) (zf0 sub (r1.step t13)) e3 (zaW t xs[i] _ (fun Z2 z2 Y2 rr=>?_) (zh7 t xs[i] _ (ziG sub Z) q2))
  obtain ⟨z2,no2⟩:=z2
  refine ⟨Z2,G3,rr,mI2 Z2 _ _ (fun zs ⟨hz,z3⟩ J2 H4 G4 t4 it2=>?_) z2⟩
  have h4:H4 l = some (.lst ys):=t4.fr l _ hb h3
  have hg4:G4 l = none:=t4.still_none h3 hg3
  have t14:=t13.trans t4
  have hv4:=(hv.mono t3.gg).mono t4.gg
  refine ⟨fun j m ys' H5=>m = zs.length - j/\j <= zs.length/\ys'.length <= ys.length + j/\H5 l = some (.lst ys')/\∃ G5 acc',Stp c.β H1 G1 H5 G5/\Same G4 G5/\G5 l = none/\Reps c G5 acc' ys'/\za7 t2 C E Z2 (fun acc'=>zcF t I2 t2 C E (subE sub Z) QQ (xs.drop (i + 1)) acc') (zs.drop j) acc',
   ⟨zs.length,rfl,YAD _,YAl _,h4,G4,acc,t14,Same.refl _,hg4,hv4,z3⟩,?_⟩
  rintro j m ys' H5 ⟨rfl,hj,hyl,h5,G5,acc',t15,gg5,hg5,hv5,q5⟩
  refine ⟨h5,?_⟩
  have r5:=r1.step t15
  have ok2:=it2 j H5 G5 gg5 t15.gh t15.bx (fun a z=>r5.new0 z)
  have rr5:Rel c Z2 Y2 H5 G5:=rr.move no2 (t4.gg.trans gg5) r5.stp
  by_cases hlt2:j < zs.length
  .refine .inr ?_
   rw [YAJ hlt2] at q5
   obtain ⟨go2,yl2⟩:=ok2.2 zs[j] (YAd hlt2)
   refine ⟨go2,fun ws H6=>ws.length <= ys.length + (j + 1)/\H6 l = some (.lst ws)/\∃ G6 acc2,Stp c.β H1 G1 H6 G6/\Same G4 G6/\G6 l = none/\Reps c G6 acc2 ws/\za7 t2 C E Z2 (fun acc'=>zcF t I2 t2 C E (subE sub Z) QQ (xs.drop (i + 1)) acc') (zs.drop (j + 1)) acc2,
    fun ws H6 ⟨a1,a2,a3⟩=>⟨zs.length - (j + 1),by omega,rfl,by omega,a1,a2,a3⟩,fun x6 H6 y6=>?_⟩
   obtain ⟨G6,t6,e6⟩:=yl2 x6 H6 y6
   have h6:H6 l = some (.lst ys'):=t6.fr l _ hb h5
   have hg6:G6 l = none:=t6.still_none h5 hg5
   have t16:=t15.trans t6
   refine zcY t2 zs[j] x6 Z2 Y2 (rr5.step t6) e6 (zaW t2 zs[j] _ (fun Z3 z6 Y3 rr3=>?_) q5)
   refine ⟨Z3,G6,rr3,mC Z3 _ _ (fun b z7 H7 G7 t7=>?_) z6⟩
   have h7:H7 l = some (.lst ys'):=t7.fr l _ hb h6
   have hg7:G7 l = none:=t7.still_none h6 hg6
   have t17:=t16.trans t7
   have hv7:=(hv5.mono t6.gg).mono t7.gg
   have gg7:=(gg5.trans t6.gg).trans t7.gg
   cases b
   .exact ⟨by omega,h7,G7,acc',t17,gg7,hg7,hv7,z7⟩
   .refine ⟨Z3,G7,rr3.step t7,mE Z3 _ _ (fun d z8 y8 H8 G8 t8 e8=>?_) z7⟩
    have h8:H8 l = some (.lst ys'):=t8.fr l _ hb h7
    have hg8:G8 l = none:=t8.still_none h7 hg7
    refine ⟨h8,?_,by rw [YAw];simp;omega,zac,G8,acc' ++ [d],(t17.trans t8).wr hl hg8 hb,gg7.trans t8.gg,hg8,(hv7.mono t8.gg).append (.one e8),z8⟩
    have:=small5 (YAl 100000)
    have hal:=hv.length
    omega
  .have e:j = zs.length:=by omega
   subst e
   rw [YBq] at q5
   exact .inl ⟨ok2.1 rfl,h5,G5,acc',t15,hg5,hv5,q5⟩
 .have e:i = xs.length:=by omega
  subst e
  rw [YBq] at q2
  refine .inl ⟨ok.1 rfl,?_⟩
  have q2:QQ acc:=q2
  rw [<- hQQ] at q2
  exact q2 l ys H2 G2 (t1.trans s2) h2 hg2 (t1.free hl) hv
section
variable {X:Cx} {c:Bk} {tg iter tg2 iter2 elt e:Expr} {ifs:List Expr} {scope:Scope} {pos p spos:Pos} {Nc:List Str} {sub:List (Option Nat)} {I I2:WL} {C:WT} {E:WE}
def zmE (i:Nat) (t t2:Tg) (hI:DI X c tg iter I) (hg:∀ {cl L s0 H0 ex},PG (zak X Nc scope cl L s0 H0 ex) tg (gOf c.K t)) (hI2:∀ {cl L s0 H0 ex},DI (zak X Nc scope cl L s0 H0 ex) c tg2 iter2 I2) (hg2:∀ {cl L s0 H0 ex},PG (zak X Nc scope cl L s0 H0 ex) tg2 (gOf c.K t2)) (hC:∀ {cl L s0 H0 ex},DIf (zak X Nc scope cl L s0 H0 ex) c ifs C) (hE:∀ {cl L s0 H0 ex},DE (zak X Nc scope cl L s0 H0 ex) c elt E) (hi:X.N[i]? = some x:=by rfl) (hy:X.env.scope.names.lookup x = some .local:=by rfl) (hS:zez X.N X.env.scope scope Nc sub = true:=by kernel_rfl) (hok:okT sub t = true:=by decide +kernel) (hap:zmj sub t t2 = true:=by decide +kernel) (hc:X.calm = true:=by rfl) (hsw:swapsWith (.ListComp elt [⟨tg,iter,[],0⟩,⟨tg2,iter2,ifs,0⟩] scope pos) (some (.Name x p)) spos.line X.env = pure true:=by rfl) (hs:∀ x,foldedSetIterable iter X.env x = pure x:=by intro _;rfl) (hs2:∀ cl L s0 H0 ex x,foldedSetIterable iter2 (zak X Nc scope cl L s0 H0 ex).env x = pure x:=by intros;rfl) (hN:X.N.Nodup:=by decreasing_trivial) :
  DS X c (.Assign [.Name x p] (.ListComp elt [⟨tg,iter,[],0⟩,⟨tg2,iter2,ifs,0⟩] scope pos) spos) (asgW (.nm i) (valW (zeO sub I t I2 t2 C E))):=by
 have mC:=(@hC [] 0 X.s₀ (fun _=>none) []).mono
 have mE:=(@hE [] 0 X.s₀ (fun _=>none) []).mono
 have mI2:=(@hI2 [] 0 X.s₀ (fun _=>none) []).mono
 have mL:=zhH (sub:=sub) (t:=t) (t2:=t2) hI.mono mI2 mC mE
 have mV:zbf (valW (zeO sub I t I2 t2 C E)):=fun Z Q Q' k q=>mL Z _ _ (fun xs z=>k _ z) q
 refine ⟨zei mV,zbY (zkS hc hN hi hy (CompScope.of hS) hI.pi (fun cl L s0 H0 ex=>@hg cl L s0 H0 ex) (ziV c.K sub t hok) (fun cl L s0 H0 ex=>(@hI2 cl L s0 H0 ex).pi) (fun cl L s0 H0 ex=>@hg2 cl L s0 H0 ex) (zlA hap) hs2 (zfb c.K t) (fun cl L s0 H0 ex=>(@hC cl L s0 H0 ex).pf) (fun cl L s0 H0 ex=>(@hE cl L s0 H0 ex).pe) hsw hs) fun D Y H ⟨Z,G,r,q⟩=>?_⟩
 refine ziR hI.mono mI2 mC mE Y H _ ⟨Z,G,r,mL Z _ _ (fun xs z l vs H' G' t hl hg h0 hv=>?_) q⟩
 have hb:=r.neβ h0
 exact z (Y.set i (some (.ref l))) H' (upd G' l (.lst vs)) ((r.step (t.still hl h0 hb hg)).put ⟨l,vs,rfl,zac,fun _=>r.new0 h0,hv.mono (zbq hg)⟩) (t.gg.trans (zbq hg))
end
structure Bt (mg:Str->Option Value):Prop where
 list:mg "list" = none
 len:mg "len" = none
 range:mg "range" = none
 all:mg "all" = none
 any:mg "any" = none
 isinstance:mg "isinstance" = none
 tuple:mg "tuple" = none
 bool:mg "bool" = none
 int:mg "int" = none
 str:mg "str" = none
 sorted:mg "sorted" = none
 set:mg "set" = none
 zip:mg "zip" = none
 enumerate:mg "enumerate" = none
 min:mg "min" = none
 max:mg "max" = none
def zah:Fn
 | [.box,.int m],Q=>(0 < m/\m < 2 ^ 64)/\∀ x:Int,0 <= x->x < m->Q (.int x)
 | _,_=>False
def lawW (n:Nat) (B:WS):Prop:=B { nx:=fun _=>False,rt:=fun d=>d = .bl true,bk:=fun _=>False,ct:=fun _=>False } (.un :: .val .box :: List.replicate n .un)
end Fd
namespace L2
open PySem PySem.Spec PyProof.Rows
end L2
namespace Fd
open PySem L2
section
variable {X:Cx} {c:Bk}
end
def za1:Fn:=fnW 1 ((retW (valW (zhq [none,none,none,none] (seqI (vW 0)) (.tp 4 (.cons (.nm 0) (.cons (.nm 1) (.cons (.nm 2) (.cons (.nm 3) .nil))))) noIf (vW 3)))))
def zcz:Fn:=fnW 2 ((retW (valW (zaI [none,none,none,none,some 1] (seqI (vW 0)) (.tp 4 (.cons (.nm 0) (.cons (.nm 1) (.cons (.nm 2) (.cons (.nm 3) .nil))))) (blW (binW (inD true) (vW 3) (vW 4))) (tupW (zab (vW 0) (zab (vW 1) (zab (vW 2) (zab (vW 3) nilA)))))))))
def zmr:Fn:=fnW 2 ((retW (cbW allF (zab (valW (zaI [none,none,none,none,some 1] (seqI (vW 0)) (.tp 4 (.cons (.nm 0) (.cons (.nm 1) (.cons (.nm 2) (.cons (.nm 3) .nil))))) noIf (binW eqD (binW subD (ixvW 4 (vW 1)) (ixvW 4 (vW 0))) (vW 2)))) nilA))))
noncomputable def zbc:Fn:=fnW 4 ((seqW (asgW (.nm 1) (zaw 2 zah (zab (vW 0) (zab (kW (.int 4)) nilA))))
  (seqW (ifS (blW (binW eqD (vW 1) (kW (.int 0)))) (retW (zaw 2 zah (zab (vW 0) (zab (kW (.int 10)) nilA)))) nilS)
  (seqW (ifS (blW (binW eqD (vW 1) (kW (.int 1)))) (retW (zaw 2 zah (zab (vW 0) (zab (kW (.int 1000000)) nilA)))) nilS)
  (seqW (asgW (.nm 2) (kW (.int 0)))
  (seqW (forW (zcq (kW (.int 3))) (.nm 3) (asgW (.nm 2) (binW addD (binW mulD (vW 2) (kW (.int 1000000))) (zaw 2 zah (zab (vW 0) (zab (kW (.int 1000000)) nilA))))))
  (retW (vW 2))))))))
noncomputable def zaL:Fn:=fnW 2 ((retW (binW addD (vW 1) (binW ixD (valW (lstW (zab (kW (.int 1)) (zab (unW negD (kW (.int 1))) (zab (binW addD (kW (.int 1)) (zaw 2 zah (zab (vW 0) (zab (kW (.int 5)) nilA)))) (zab (zaw 1 zbc (zab (vW 0) nilA)) (zab (unW negD (zaw 1 zbc (zab (vW 0) nilA))) nilA))))))) (zaw 2 zah (zab (vW 0) (zab (kW (.int 5)) nilA)))))))
noncomputable def zbw:Fn:=fnW 17 ((seqW (asgW (.nm 4) (binW addD (kW (.int 1)) (zaw 2 zah (zab (vW 0) (zab (vW 1) nilA)))))
  (seqW (asgW (.nm 5) (binW addD (kW (.int 1)) (zaw 2 zah (zab (vW 0) (zab (vW 2) nilA)))))
  (seqW (asgW (.nm 6) (binW ixD (valW (lstW (zab (kW (.int 4)) (zab (kW (.int 1000)) (zab (binW powD (kW (.int 10)) (kW (.int 12))) nilA))))) (zaw 2 zah (zab (vW 0) (zab (kW (.int 3)) nilA)))))
  (seqW (asgW (.nm 7) (valW (zaI [none,some 0,some 6] (zcq (vW 4)) (.nm 0) noIf (zaw 2 zah (zab (vW 1) (zab (vW 2) nilA))))))
  (seqW (asgW (.nm 8) (valW (zaI [none,some 0] (zcq (vW 5)) (.nm 0) noIf (ifW (blW (binW eqD (zaw 2 zah (zab (vW 1) (zab (kW (.int 9)) nilA))) (kW (.int 0)))) (binW modD (binW mulD (kW (.int 3)) (vW 0)) (kW (.int 10))) (vW 0)))))
  (seqW (asgW (.nm 9) (valW (zif (valW (zaI [none,some 8,some 0,some 5] (zcq (zaw 2 zah (zab (vW 0) (zab (kW (.int 4)) nilA)))) (.nm 0) noIf (ixvW 1 (zaw 2 zah (zab (vW 2) (zab (vW 3) nilA)))))))))
  (seqW (asgW (.nm 10) (binW addD (kW (.int 1)) (zaw 2 zah (zab (vW 0) (zab (kW (.int 3)) nilA)))))
  (seqW (ownW 11 (lstW nilA))
  (seqW (forW (zcq (binW mulD (zaw 2 zah (zab (vW 0) (zab (binW addD (vW 3) (kW (.int 1))) nilA))) (cbW intF (zab (binW gtD (vW 4) (kW (.int 1))) nilA)))) (.nm 12) (seqW (asgW (.nm 13) (zaw 2 zah (zab (vW 0) (zab (vW 4) nilA))))
  (seqW (asgW (.nm 14) (binW modD (binW addD (binW addD (vW 13) (kW (.int 1))) (zaw 2 zah (zab (vW 0) (zab (binW subD (vW 4) (kW (.int 1))) nilA)))) (vW 4)))
  (seqW (asgW (.nm 15) (ixvW 8 (zaw 2 zah (zab (vW 0) (zab (vW 5) nilA)))))
  (seqW (asgW (.nm 16) (binW subD (ixvW 7 (vW 14)) (ixvW 7 (vW 13))))
  (seqW (ifS (andT (blW (binW (inD false) (vW 15) (vW 9))) (blW (binW ltD (zaw 2 zah (zab (vW 0) (zab (kW (.int 3)) nilA))) (vW 10)))) (asgW (.nm 16) (zaw 2 zaL (zab (vW 0) (zab (vW 16) nilA)))) nilS)
  (appW 11 (tupW (zab (vW 13) (zab (vW 14) (zab (vW 16) (zab (vW 15) nilA))))))))))))
  (frzW 11 (retW (tupW (zab (vW 4) (zab (vW 11) (zab (vW 7) (zab (vW 9) nilA)))))))))))))))))
end Fd
namespace Fen
open PySem L2
def Ext (b:Addr) (H H':Hp):Prop:=∀ a o,a ≠ b->H a = some o->H' a = some o
def Ext.refl (b:Addr) (H:Hp):Ext b H H:=fun _ _ _ h=>h
def Ext.trans  (x:Ext b H H1) (y:Ext b H1 H2):Ext b H H2:=fun a o n h=>y a o n (x a o n h)
theorem Ext.upd  : Ext b H (upd H b o):=fun a _ n h=>by rw [zae n];exact h
def boxV (c:Addr) (p r d:Int):HO:=.lst [.ref c,.int p,.int r,.int d]
structure Box (H:Hp) (b c:Addr) (ns:List Int):Prop where
 ex:∃ p r d:Int,H b = some (boxV c p r d)/\0 <= p/\0 <= r/\0 <= d/\d < 2147483629
 cells:H c = some (.lst (ns.map V.int))
 few:ns.length <= 63
def Box.ne  (x:Box H b c ns):b ≠ c:=fun z=>by
 obtain ⟨p,r,d,e,_⟩:=x.ex
 have q:=x.cells
 rw [<- z,e] at q
 have q':([V.ref c,.int p,.int r,.int d]:List V) = ns.map V.int:=by injection q with q;injection q
 cases ns with
 | nil=>cases q'
 | cons n r=>simp at q'
def Box.put  (x:Box H b c ns) (hp:0 <= p) (hr:0 <= r) (h0:0 <= d) (h1:d < 2147483629):Box (upd H b (boxV c p r d)) b c ns:=
 ⟨⟨p,r,d,zac,hp,hr,h0,h1⟩,by rw [zae x.ne.symm];exact x.cells,x.few⟩
def zmZ (K:oS):Sp:=fun vs H Q _=>∃ (a:Addr) (ns:List Int),vs = [.ref a]/\SqL K H a (ns.map V.int)/\ns.length <= 63/\∀ b c H',H b = none->Box H' b c ns->Same H H'->Q (.ref b) H'
def znW:Sp:=fun vs H Q _=>∃ (b c:Addr) (ns:List Int) (m:Int),vs = [.ref b,.int m]/\Box H b c ns/\0 < m/\m < 2 ^ 64/\∀ (x:Int) H',0 <= x->x < m->Box H' b c ns->Ext b H H'->Q (.int x) H'
structure Txt (K:oS) (mg:Str->Option Value):Prop where
 list:mg "list" = none
 len:mg "len" = none
 range:mg "range" = none
def zp2 {ns:List Int} (h:ns.length <= 63):cutV (ns.map V.int) none (some 63) = ns.map V.int:=by
 unfold cutV
 have e:HT.sIx (ns.map V.int).length (ns.map V.int).length (some 63) = ns.length:=by
  rw [show (63:Int) = ((63:Nat):Int) from rfl,HT.sIx_nat,YAc];omega
 rw [e,HT.sIx_none,List.drop_zero,Nat.sub_zero]
 exact YCO (by simp)
structure Cal (P:Program) (w:World) (K:oS) (mg:Str->Option Value) (base:Heap) (x:Str) (k:Nat) (ps:List Str) (sp:Sp):Prop where
 ex:∃ f fd,FnOk P w K mg base CX0 k f fd ps sp/\mg x = some (.ref f)/\PySem.W.keepIn K (.ref f) = true/\Binds K fd ps []
def zdu     (C:Cal X.prog X.w X.K X.mg X.base x k ps sp) (hr:Room k X.A) (hg:Gl X x) (ha:PA X (e :: es) t)
  (hdb:(x == ("__debug__" : Str)) = false:=by decide) (he:starEach (e :: es) X.env = (false,eval e X.env) :: starEach es X.env:=by rfl) (hpl:(backTo pos (starEach es X.env)).any (·.1) = false:=by rfl) :
  PE X (.Call (.Name x p) (e :: es) [] pos) (zoW sp [] E0 t):=by
 obtain ⟨f,fd,F,hm,hk,hb⟩:=C.ex
 exact zhD F hr hg hm hk hb .nil znk ha hdb he hpl
def Cal.of       (F:Fun K x qual st f fd) (G:FnOk P w K mg base CX0 k f fd ps sp) (hm:mg x = some (.ref f)) (hb:Binds K fd ps []):Cal P w K mg base x k ps sp:=
 ⟨f,fd,G,hm,F.kp,hb⟩
def zdk {zs:List Int} {i:Int} (h0:0 <= i) (h1:i < zs.length):atI (zs.map V.int) i = some (.int (zs.getD i.toNat 0)):=by
 have hn:i.toNat < zs.length:=by omega
 have q:=zdK (xs:=zs.map V.int) (j:=i.toNat) (v:=.int (zs.getD i.toNat 0)) (by rw [YAk,YAd hn];simp [List.getD,YAd hn])
 rwa [YBg h0] at q
structure Run where
 p:Addr
 one:Int
 oJ:Int
 rise:Int
 hand:Int
def runV (r:Run):V:=.ref r.p
def runT (r:Run):List V:=[.int r.one,.int r.oJ,.int r.rise,.int r.hand]
def ziz   (e:Same H H') (h:SqT K H a xs):SqT K H' a xs:=by
 rcases h with h | h
 .rcases h with h | ⟨o,h⟩
  .exact .inl (.inl (e _ _ h))
  .exact .inl (.inr ⟨o,e _ _ h⟩)
 .exact .inr h
def Runs (K:oS) (H:Hp) (rs:List Run):Prop:=∀ r ∈ rs,SqT K H r.p (runT r)
def Runs.same  (x:Runs K H rs) (e:Same H H'):Runs K H' rs:=fun r hr=>ziz e (x r hr)
def Runs.at_ {K:oS} {H:Hp} {rs:List Run} (x:Runs K H rs) {i:Nat} {v:V} (h:(rs.map runV)[i]? = some v):∃ r,rs[i]? = some r/\v = .ref r.p/\SqT K H r.p (runT r):=by
 rw [YAk] at h
 cases e:rs[i]? with
 | none=>rw [e] at h;cases h
 | some r=>
  rw [e] at h
  exact ⟨r,rfl,(Option.some.inj h).symm,x r (YAA e)⟩
def zaj  (h:H l = none):Same H (upd H l o):=fun a _ e=>by rw [zae (zad e h)];exact e
def zks   (h:H l = none) (q:SqL K H a xs):SqL K (upd H l o) a xs:=(zaj h).seq q
def zlI {α β:Type} (f:α->β) {xs:List α} {i:Nat} {x:α} (h:xs[i]? = some x):(xs.take (i + 1)).map f = (xs.take i).map f ++ [f x]:=by
 rw [YDA,h,YAv];rfl
def ziA (x:Int) (hs:List Int):inV (.int x) (hs.map V.int) = hs.contains x:=by
 unfold inV
 rw [YDS]
 induction hs with
 | nil=>rfl
 | cons y r ih=>
  rw [YB5,List.contains_cons,ih]
  congr 1
  show eqV (.int y) (.int x) = (x == y)
  show decide (y = x) = (x == y)
  by_cases e:y = x
  .subst e;simp
  .have:¬ x = y:=fun z=>e z.symm
   simp [e,this]
def zgO (hs:List Int):(hs.map V.int).all zf7 = true:=by
 rw [List.all_map,YB3];intro x _;rfl
def noif {Y:St} {H:Hp} {A B:Hp->Prop} (h:A H):zk1 Y H (fun b H4=>if b = true then A H4 else B H4):=by
 show (if (true:Bool) = true then A H else B H)
 rw [if_pos rfl]
 exact h
def zjP (hts:List Int) (r:Run):Bool:=decide (hts.getD r.oJ.toNat 0 - hts.getD r.one.toNat 0 = r.rise)
def zaA (n:Nat) (rs:List Run):Prop:=∀ r ∈ rs,0 <= r.one/\r.one < n/\0 <= r.oJ/\r.oJ < n
def zlr (a b:Int):decide (V.int a = V.int b) = decide (a = b):=by
 by_cases e:a = b
 .subst e;simp
 .have:¬ V.int a = V.int b:=fun z=>e (V.int.inj z)
  rw [YAY e,YAY this]
structure Txt2 (mg:Str->Option Value):Prop where
 all:mg "all" = none
 isinstance:mg "isinstance" = none
 tuple:mg "tuple" = none
 bool:mg "bool" = none
 int:mg "int" = none
 str:mg "str" = none
 sorted:mg "sorted" = none
 set:mg "set" = none
def zi6 {K:oS} {a h l:Addr} {rs:List Run} {hts:List Int} {H:Hp} {Q:VK} (ha:SqL K H a (rs.map runV)) (R:Runs K H rs) (hh:SqL K H h (hts.map V.int)) (V0:zaA hts.length rs) (hz:rs.length <= 1000) (hl:H l = none)
  (q:Q (.ref l) (upd H l (.lst ((rs.map (zjP hts)).map V.bl)))) :
  zgC (gTup K 4 (zd8 (zco 0) (zd8 (zco 1) (zd8 (zco 2) (zd8 (zco 3) gNil))))) zk1
   (tOp rEq (tOp (rI0 fun i j=>.int (i - j)) (tOp (rIxL K) (tVar 4) (tVar 1)) (tOp (rIxL K) (tVar 4) (tVar 0))) (tVar 2)) [none,none,none,none,some (.ref h)] l (Itl K a) H Q:=by
 refine zgq (ys:=rs.map runV) (fun i xs H2=>H2 = upd H l (.lst xs)/\xs = ((rs.take i).map (zjP hts)).map V.bl/\i <= rs.length) ⟨rfl,rfl,YAD _⟩ ?_ ?_ ?_
 .rintro i xs H2 hi ⟨rfl,hx,_⟩
  exact ⟨zks hl ha,zac⟩
 .rintro i x xs H2 hx ⟨rfl,hxs,hi⟩
  obtain ⟨r,hr,rfl,ht⟩:=R.at_ hx
  have hm:=V0 r (YAA hr)
  have htt:SqT K (upd H l (.lst xs)) r.p (runT r):=ziz (zaj hl) ht
  have hil:i < rs.length:=(YAh.mp hr).1
  refine ⟨r.p,_,rfl,htt,rfl,_,_,rfl,_,_,rfl,_,_,rfl,_,_,rfl,rfl,?_⟩
  refine noif ?_
  refine ⟨_,rfl,_,rfl,h,_,_,_,rfl,rfl,zks hl hh,zdk hm.2.2.1 hm.2.2.2,_,rfl,_,rfl,h,_,_,_,rfl,rfl,zks hl hh,zdk hm.1 hm.2.1,_,_,rfl,rfl,_,rfl,rfl,zac,?_,?_,?_,?_⟩
  .rw [hxs,YAc,YAc,YBC,YAL];omega
  .rw [znL]
  .rw [zlI (zjP hts) hr,YAv,<- hxs,zlr]
   rfl
  .omega
 .rintro xs H2 ⟨rfl,hxs,_⟩
  rw [YAc,YBK] at hxs
  rw [hxs]
  exact q
def zhv (K:oS):Sp:=fun vs H Q _=>∃ (a h:Addr) (rs:List Run) (hts:List Int),vs = [.ref a,.ref h]/\SqL K H a (rs.map runV)/\Runs K H rs/\SqL K H h (hts.map V.int)/\zaA hts.length rs/\rs.length <= 1000 /\
 ∀ l o,H l = none->Q (.bl ((rs.map (zjP hts)).all id)) (upd H l o)
def zfT:(["one","other","rise","hand","heights"]:List Str).Nodup:=by decide +kernel
def tMid (t:TS):TS:=fun D Y H=>∃ M:St->Hp->Prop,t { D with nx:=M } Y H/\∀ Y' H',M Y' H'->D.nx Y' H'
def zoh  (h:PS X st t):PS X st (tMid t):=by
 intro O s Y H D I hw
 obtain ⟨M,h1,h2⟩:=hw
 refine thn (h O s Y H _ I h1) fun f s' q=>?_
 cases f with
 | next=>obtain ⟨Y',H',I',q'⟩:=q;exact ⟨Y',H',I',h2 _ _ q'⟩
 | brk=>exact q
 | cont=>exact q
 | ret u=>exact q
def zmW {zs:List Int} {i:Nat} {x:V} (h:(zs.map V.int)[i]? = some x):∃ z,zs[i]? = some z/\x = .int z:=by
 rw [YAk] at h
 cases e:zs[i]? with
 | none=>rw [e] at h;cases h
 | some z=>rw [e] at h;exact ⟨z,rfl,(Option.some.inj h).symm⟩
def zod {n:Nat} {i:Int} (h0:0 <= i) (h1:i < n):ixN n i = some i.toNat:=by unfold ixN;rw [if_pos h0,if_pos h1]
def zlN {zs:List Int} {i:Nat} {z:Int}:(zs.map V.int).set i (.int z) = (zs.set i z).map V.int:=by rw [List.map_set]
def zj0 (H:Hp):Same H H:=fun _ _ e=>e
def zbQ   (e:Same H H') (h:SQ tp K H a xs):SQ tp K H' a xs:=by
 cases tp
 .exact e.seq h
 .rcases h with h | h
  .rcases h with h | ⟨o,h⟩
   .exact .inl (.inl (e _ _ h))
   .exact .inl (.inr ⟨o,e _ _ h⟩)
  .exact .inr h
def zbT (r:Run):Int × Int × Int × Int:=(r.one,r.oJ,r.rise,r.hand)
def za6 (r:Run) (oP:Int):Option (Int × Int):=if oP = r.one then some (r.oJ,r.rise) else if oP = r.oJ then some (r.one,-r.rise) else none
def runAt (rs:List Run) (i:Int):Run:=rs.getD i.toNat ⟨0,0,0,0,0⟩
def walkF (rs:List Run):Int->Int->List Int->Option (Int × Int)
 | oP,h,[]=>some (oP,h)
 | oP,h,n :: rest=>if 0 <= n/\n < rs.length then (match za6 (runAt rs n) oP with | some (e,d)=>walkF rs e (h + d) rest | none=>none) else none
def zdD  (h0:0 <= i) (h1:i < rs.length):rs[i.toNat]? = some (runAt rs i)/\atI (rs.map runV) i = some (.ref (runAt rs i).p)/\runAt rs i ∈ rs:=by
 have hn:i.toNat < rs.length:=by omega
 have e:rs[i.toNat]? = some (runAt rs i):=by unfold runAt;rw [YAd hn];simp [List.getD,YAd hn]
 refine ⟨e,?_,YAA e⟩
 have q:=zdK (xs:=rs.map runV) (j:=i.toNat) (v:=.ref (runAt rs i).p) (by rw [YAk,e];rfl)
 rwa [YBg h0] at q
theorem zf2:∀ {oP h:Int} {line:List Int} {e:Int × Int},walkF rs oP h line = some e->∀ z ∈ line,0 <= z/\z < rs.length
 | _,_,[],_,_,z,hz=>by cases hz
 | oP,h,n :: rest,e,q,z,hz=>by
  unfold walkF at q
  by_cases hn:0 <= n/\n < (rs.length:Int)
  .rw [if_pos hn] at q
   rcases YAs.mp hz with rfl | hz
   .exact hn
   .cases es:za6 (runAt rs n) oP with
    | none=>rw [es] at q;cases q
    | some p=>rw [es] at q;exact zf2 q z hz
  .rw [if_neg hn] at q;cases q
def znl {line:List Int} {i:Nat} {z:Int} (h:line[i]? = some z):line.drop i = z :: line.drop (i + 1):=by
 obtain ⟨h1,h2⟩:=YAh.mp h
 rw [YAJ h1,h2]
def zdo {rs:List Run} {oP h z e d:Int} {rest:List Int} (h0:0 <= z) (h1:z < rs.length) (hs:za6 (runAt rs z) oP = some (e,d)):walkF rs oP h (z :: rest) = walkF rs e (h + d) rest:=by
 show (if 0 <= z/\z < (rs.length:Int) then _ else _) = _
 rw [if_pos ⟨h0,h1⟩,hs]
def nb2 [Decidable c] (h:¬ (!decide c) = true):c:=by simpa using h
inductive Conn (rs:List Run):Int->Int->Prop
 | refl (i:Int):Conn rs i i
 | go {i j k:Int} (r:Run) (c:Conn rs i j) (m:r ∈ rs) (e:(r.one = j/\r.oJ = k)\/(r.oJ = j/\r.one = k)):Conn rs i k
def Conn.trans  (x:Conn rs i j) (y:Conn rs j k):Conn rs i k:=by
 induction y with
 | refl=>exact x
 | go r c m e ih=>exact .go r ih m e
def Conn.edge  (m:r ∈ rs):Conn rs r.one r.oJ:=.go r (.refl _) m (.inl ⟨rfl,rfl⟩)
def Conn.edge'  (m:r ∈ rs):Conn rs r.oJ r.one:=.go r (.refl _) m (.inr ⟨rfl,rfl⟩)
def Conn.symm  (x:Conn rs i j):Conn rs j i:=by
 induction x with
 | refl=>exact .refl _
 | go r c m e ih=>
  rcases e with ⟨rfl,rfl⟩ | ⟨rfl,rfl⟩
  .exact (Conn.edge' m).trans ih
  .exact (Conn.edge m).trans ih
def gI (xs:List Int) (i:Int):Int:=xs.getD i.toNat 0
def HtOk (rs:List Run) (hts:List Int):Prop:=∀ r ∈ rs,gI hts r.oJ - gI hts r.one = r.rise
def zgL (rs:List Run):Prop:=∀ f:Int->Int,¬ ∀ r ∈ rs,f r.oJ - f r.one = r.rise
def zkM {rs:List Run} {f g:Int->Int} (hf:∀ r ∈ rs,f r.oJ - f r.one = r.rise) (hg:∀ r ∈ rs,g r.oJ - g r.one = r.rise) {i j:Int} (x:Conn rs i j):f j - f i = g j - g i:=by
 induction x with
 | refl=>omega
 | go r c m e ih=>
  have h1:=hf r m
  have h2:=hg r m
  rcases e with ⟨rfl,rfl⟩ | ⟨rfl,rfl⟩ <;> omega
def zbG {α:Type} {xs:List α} {i:Nat} {x:α} (h:xs[i]? = some x):xs.take (i + 1) = xs.take i ++ [x]:=by rw [YDA,h];rfl
def zpi {i:Nat} {v:V} {Y:St} {H:Hp} {A B:St->Hp->Prop} (h:A (Y.set i (some v)) H):zco i v Y H (fun Y2 H3=>zk1 Y2 H3 fun b H4=>if b = true then A Y2 H4 else B Y2 H4):=by
 show (if (true:Bool) = true then A (List.set Y i (some v)) H else B (List.set Y i (some v)) H)
 rw [if_pos rfl]
 exact h
def ziv {xs:List Int} {j:Nat} {v i:Int} (hj:j < xs.length) (h0:0 <= i):gI (xs.set j v) i = if i = (j:Int) then v else gI xs i:=by
 unfold gI
 by_cases e:i = (j:Int)
 .rw [if_pos e,e,YAE,YAC,YAr hj];rfl
 .rw [if_neg e,YAC,YAj (by omega),<- YAC]
def zph {zs:List Int} {i:Int} (h0:0 <= i) (h1:i < zs.length):atI (zs.map V.int) i = some (.int (gI zs i)):=zdk h0 h1
theorem zih (v:V):∀ n:Nat,(List.replicate n [v]).flatten = List.replicate n v
 | 0=>rfl
 | n + 1=>by rw [YBf,YBf,YBS,zih v n];rfl
structure Tri where
 p:Addr
 n:Int
 e:Int
 d:Int
def triV (t:Tri):V:=.ref t.p
def triT (t:Tri):List V:=[.int t.n,.int t.e,.int t.d]
structure Steps (H:Hp) (ls:Addr) (ad:List Addr) (cs:Nat->List Tri):Prop where
 top:H ls = some (.lst (ad.map V.ref))
 row:∀ (m:Nat) a,ad[m]? = some a->H a = some (.lst ((cs m).map triV))
 tri:∀ (m:Nat) t,m < ad.length->t ∈ cs m->H t.p = some (.tup (triT t))
 nod:ad.Nodup
 out:ls ∉ ad
def Steps.same   (x:Steps H ls ad cs) (S:Same H H'):Steps H' ls ad cs:=
 ⟨S _ _ x.top,fun m a h=>S _ _ (x.row m a h),fun m t h h'=>S _ _ (x.tri m t h h'),x.nod,x.out⟩
def zht (rs:List Run) (hs:List Int) (k:Nat) (m:Nat) (t:Tri):Prop:=0 <= t.n/\t.n < k/\∃ r,rs[t.n.toNat]? = some r/\hs.contains r.hand = false/\((r.one = m/\t.e = r.oJ/\t.d = r.rise)\/(r.oJ = m/\t.e = r.one/\t.d = -r.rise))
def triC (t:Tri):Int × Int × Int:=(t.n,t.e,t.d)
noncomputable def stepsF (rs:List Run) (hs:List Int):Nat->Nat->List (Int × Int × Int)
 | 0,_=>[]
 | k + 1,m=>stepsF rs hs k m ++ (match rs[k]? with
  | none=>[]
  | some r=>if hs.contains r.hand = true then [] else (if m = r.one.toNat then [((k:Int),r.oJ,r.rise)] else []) ++ (if m = r.oJ.toNat then [((k:Int),r.one,-r.rise)] else []))
structure StepsOk (rs:List Run) (hs:List Int) (k:Nat) (cs:Nat->List Tri):Prop where
 sound:∀ m t,t ∈ cs m->zht rs hs k m t
 full:∀ (i:Nat) r,i < k->rs[i]? = some r->hs.contains r.hand = false->(∃ t ∈ cs r.one.toNat,t.e = r.oJ)/\∃ t ∈ cs r.oJ.toNat,t.e = r.one
 few:∀ m,(cs m).length <= 2 * k
 cont:∀ m,(cs m).map triC = stepsF rs hs k m
def addC (cs:Nat->List Tri) (m:Nat) (t:Tri):Nat->List Tri:=fun k=>if k = m then cs m ++ [t] else cs k
def mem_addC  : u ∈ addC cs m t k ↔ u ∈ cs k\/(k = m/\u = t):=by
 unfold addC
 by_cases e:k = m
 .subst e;rw [if_pos rfl,YAm,YAg];simp
 .rw [if_neg e];simp [e]
def ziu {ad:List Addr} (h:ad.Nodup) {i j:Nat} {x:Addr} (h1:ad[i]? = some x) (h2:ad[j]? = some x):i = j:=by
 obtain ⟨a1,e1⟩:=YAh.mp h1
 obtain ⟨a2,e2⟩:=YAh.mp h2
 rcases Nat.lt_trichotomy i j with q | q | q
 .exact absurd (e1.trans e2.symm) (YA1.mp h i j a1 a2 q)
 .exact q
 .exact absurd (e2.trans e1.symm) (YA1.mp h j i a2 a1 q)
def Steps.push {H:Hp} {ls:Addr} {ad:List Addr} {cs:Nat->List Tri} (x:Steps H ls ad cs) {m:Nat} {a:Addr} (hm:ad[m]? = some a) {t:Addr} (ht:H t = none) {n e d:Int} :
  Steps (upd (upd H t (.tup [.int n,.int e,.int d])) a (.lst ((cs m).map triV ++ [.ref t]))) ls ad (addC cs m ⟨t,n,e,d⟩):=by
 have ha:=x.row m a hm
 have nat:a ≠ t:=zad ha ht
 have hmem:a ∈ ad:=YAA hm
 have nls:ls ≠ a:=fun z=>x.out (z ▸ hmem)
 refine ⟨?_,fun k b hb=>?_,fun k u hk hu=>?_,x.nod,x.out⟩
 .rw [zae nls,zae (zad x.top ht)];exact x.top
 .by_cases ek:k = m
  .subst ek
   rw [hm] at hb;cases hb
   rw [zac];unfold addC;rw [if_pos rfl,YAv];rfl
  .have nb:b ≠ a:=fun z=>ek (ziu x.nod hb (by rw [z];exact hm))
   rw [zae nb,zae (zad (x.row k b hb) ht)]
   unfold addC;rw [if_neg ek];exact x.row k b hb
 .rcases mem_addC.mp hu with q | ⟨rfl,rfl⟩
  .have hq:=x.tri k u hk q
   have n1:u.p ≠ a:=fun z=>by rw [z,ha] at hq;cases hq
   rw [zae n1,zae (zad hq ht)];exact hq
  .show upd _ a _ t = _
   rw [zae nat.symm,zac];rfl
def StepsOk.up   (x:StepsOk rs hs k cs) (hr:rs[k]? = some r) (h:hs.contains r.hand = true):StepsOk rs hs (k + 1) cs:=
 ⟨fun m t ht=>let ⟨a,b,c⟩:=x.sound m t ht;⟨a,by omega,c⟩,fun i q hi hq hc=>by
  by_cases e:i = k
  .subst e;rw [hr] at hq;cases hq;rw [h] at hc;cases hc
  .exact x.full i q (by omega) hq hc,fun m=>by have:=x.few m;omega,fun m=>by
  show _ = stepsF rs hs k m ++ _
  rw [x.cont m,hr]
  simp only [h,YDO,YAP]⟩
def StepsOk.add   (x:StepsOk rs hs k cs) (hr:rs[k]? = some r) (h:hs.contains r.hand = false) (h1:0 <= r.one) (h2:0 <= r.oJ) :
  StepsOk rs hs (k + 1) (addC (addC cs r.one.toNat ⟨t,k,r.oJ,r.rise⟩) r.oJ.toNat ⟨u,k,r.one,-r.rise⟩):=by
 refine ⟨fun m q hq=>?_,fun i q hi hq hc=>?_,fun m=>?_,fun m=>?_⟩
 .rcases mem_addC.mp hq with hq | ⟨rfl,rfl⟩
  .rcases mem_addC.mp hq with hq | ⟨rfl,rfl⟩
   .obtain ⟨a,b,c⟩:=x.sound m q hq
    exact ⟨a,by omega,c⟩
   .exact ⟨by show (0:Int) <= (k:Int);omega,by show (k:Int) < ((k + 1:Nat):Int);omega,r,by show rs[((k:Int)).toNat]? = _;rw [YAE];exact hr,h,.inl ⟨by omega,rfl,rfl⟩⟩
  .exact ⟨by show (0:Int) <= (k:Int);omega,by show (k:Int) < ((k + 1:Nat):Int);omega,r,by show rs[((k:Int)).toNat]? = _;rw [YAE];exact hr,h,.inr ⟨by omega,rfl,rfl⟩⟩
 .by_cases e:i = k
  .subst e;rw [hr] at hq;cases hq
   exact ⟨⟨_,mem_addC.mpr (.inl (mem_addC.mpr (.inr ⟨rfl,rfl⟩))),rfl⟩,⟨_,mem_addC.mpr (.inr ⟨rfl,rfl⟩),rfl⟩⟩
  .obtain ⟨⟨a,a1,a2⟩,b,b1,b2⟩:=x.full i q (by omega) hq hc
   exact ⟨⟨a,mem_addC.mpr (.inl (mem_addC.mpr (.inl a1))),a2⟩,⟨b,mem_addC.mpr (.inl (mem_addC.mpr (.inl b1))),b2⟩⟩
 .have:=x.few m
  unfold addC
  split
  .rename_i e1
   rw [YAw]
   split
   .rename_i e2;subst e1;rw [<- e2] at *;rw [YAw];simp;omega
   .subst e1;simp;omega
  .split
   .rename_i e2;subst e2;rw [YAw];simp;omega
   .omega
 .show _ = stepsF rs hs k m ++ _
  rw [hr]
  simp only [h,YAK,YBn]
  unfold addC
  by_cases c2:m = r.oJ.toNat
  .subst c2
   rw [if_pos rfl,if_pos rfl]
   by_cases c1:r.oJ.toNat = r.one.toNat
   .rw [if_pos c1,if_pos c1,YAv,YAv,<- c1,x.cont,YAH];rfl
   .rw [if_neg c1,if_neg c1,YAv,x.cont];rfl
  .rw [if_neg c2,if_neg c2,YAP]
   by_cases c1:m = r.one.toNat
   .subst c1;rw [if_pos rfl,if_pos rfl,YAv,x.cont];rfl
   .rw [if_neg c1,if_neg c1,x.cont,YAP]
noncomputable def zf4 (K:oS):Sp:=fun vs H Q _=>∃ (n:Nat) (a s:Addr) (rs:List Run) (hs:List Int),vs = [.int n,.ref a,.ref s]/\SqL K H a (rs.map runV)/\Runs K H rs/\zaA n rs/\SqL K H s (hs.map V.int)/\n <= 1000/\rs.length <= 1000 /\
 ∀ (ls:Addr) (ad:List Addr) (cs:Nat->List Tri) H',Same H H'->ad.length = n->Steps H' ls ad cs->StepsOk rs hs rs.length cs->(∀ x ∈ ad,H x = none)->H ls = none->Q (.ref ls) H'
abbrev Nst:List Str:=["size","runs","struck","steps","number","one","other","rise","hand"]
def znm:(["mark"]:List Str).Nodup:=by decide +kernel
structure Nd where
 m:Int
 t:Addr
 h:Int
 lt:Addr
 line:List Int
def ndK (x:Nd):Key × V:=(Sum.inl x.m,.ref x.t)
def zau (ns:List Nd):List Int:=ns.map Nd.m
structure TreeOk (rs:List Run) (hs:List Int) (start:Int) (n:Nat) (ns:List Nd):Prop where
 nod:(zau ns).Nodup
 inm:∀ x ∈ ns,0 <= x.m/\x.m < n
 walk:∀ x ∈ ns,walkF rs start 0 x.line = some (x.m,x.h)
 runs:∀ x ∈ ns,∀ z ∈ x.line,0 <= z/\z < (rs.length:Int)/\hs.contains (runAt rs z).hand = false/\(runAt rs z).one ∈ zau ns/\(runAt rs z).oJ ∈ zau ns
 uniq:∀ x ∈ ns,∀ y ∈ ns,∀ (i j:Nat) z,x.line[i]? = some z->y.line[j]? = some z->x.line.take (i + 1) = y.line.take (j + 1)
 start:start ∈ zau ns
 few:∀ x ∈ ns,x.line.length < ns.length
 keep:∀ x ∈ ns,∀ z ∈ x.line,∃ u ∈ ns,∃ v ∈ ns,u.m = (runAt rs z).one/\v.m = (runAt rs z).oJ/\v.h - u.h = (runAt rs z).rise
theorem zfx:∀ {oP h:Int} {line:List Int} {e t z:Int},walkF rs oP h line = some (e,t)->walkF rs oP h (line ++ [z]) = walkF rs e t [z]
 | oP,h,[],e,t,z,q=>by
  have:(oP,h) = (e,t):=Option.some.inj q
  injection this with a b
  subst a b;rfl
 | oP,h,n :: rest,e,t,z,q=>by
  rw [YDJ]
  show (if 0 <= n/\n < (rs.length:Int) then _ else _) = _
  have q':(if 0 <= n/\n < (rs.length:Int) then (match za6 (runAt rs n) oP with | some (e,d)=>walkF rs e (h + d) rest | none=>none) else none) = some (e,t):=q
  by_cases c:0 <= n/\n < (rs.length:Int)
  .rw [if_pos c] at q' ⊢
   cases hs:za6 (runAt rs n) oP with
   | none=>rw [hs] at q';cases q'
   | some ed=>rw [hs] at q';exact zfx q'
  .rw [if_neg c] at q';cases q'
def mem_keys  : k ∈ zau ns ↔ ∃ x ∈ ns,x.m = k:=by unfold zau;exact YAB
def zbz (ns:List Nd) (x:Nd):zau (ns ++ [x]) = zau ns ++ [x.m]:=by unfold zau;rw [YAv];rfl
def TreeOk.add {rs:List Run} {hs:List Int} {start:Int} {n:Nat} {ns:List Nd} (X:TreeOk rs hs start n ns) (VM:zaA n rs) {p:Nd} (hp:p ∈ ns) {t:Tri} (hg:zht rs hs rs.length p.m.toNat t) (hn:t.e ∉ zau ns) {tt lt:Addr} :
  TreeOk rs hs start n (ns ++ [⟨t.e,tt,p.h + t.d,lt,p.line ++ [t.n]⟩]):=by
 obtain ⟨g0,g1,r,hr,hc,hg⟩:=hg
 have pm:=X.inm p hp
 have era:runAt rs t.n = r:=by
  have:=(zdD g0 g1).1
  rw [hr] at this;exact (Option.some.inj this).symm
 have hmr:r ∈ rs:=YAA hr
 have Vr:=VM r hmr
 have epm:((p.m.toNat:Nat):Int) = p.m:=by omega
 rw [epm] at hg
 have pk:p.m ∈ zau ns:=mem_keys.mpr ⟨p,hp,rfl⟩
 have hstep:za6 (runAt rs t.n) p.m = some (t.e,t.d):=by
  rw [era];unfold za6
  rcases hg with ⟨a,b,c⟩ | ⟨a,b,c⟩
  .rw [if_pos a.symm,b,c]
  .by_cases q:p.m = r.one
   .exact absurd (by rw [b,<- q];exact pk) hn
   .rw [if_neg q,if_pos a.symm,b,c]
 have ends:(r.one ∈ zau ns ++ [t.e])/\r.oJ ∈ zau ns ++ [t.e]:=by
  rcases hg with ⟨a,b,c⟩ | ⟨a,b,c⟩
  .exact ⟨YAx _ (a ▸ pk),YAq _ (by rw [b];exact YAi)⟩
  .exact ⟨YAq _ (by rw [b];exact YAi),YAx _ (a ▸ pk)⟩
 have hfresh:∀ x ∈ ns,∀ (i:Nat),x.line[i]? ≠ some t.n:=fun x hx i hz=>by
  obtain ⟨_,_,_,k1,k2⟩:=X.runs x hx t.n (YAA hz)
  rw [era] at k1 k2
  rcases hg with ⟨a,b,c⟩ | ⟨a,b,c⟩
  .exact hn (b ▸ k2)
  .exact hn (b ▸ k1)
 have few:=X.few p hp
 refine ⟨?_,fun x hx=>?_,fun x hx=>?_,fun x hx z hz=>?_,fun x hx y hy i j z hi hj=>?_,?_,fun x hx=>?_,fun x hx z hz=>?_⟩
 .rw [zbz];exact zgg X.nod hn
 .rcases YAm.mp hx with q | q
  .exact X.inm x q
  .rw [YAg.mp q]
   rcases hg with ⟨a,b,c⟩ | ⟨a,b,c⟩
   .show 0 <= t.e/\t.e < n;rw [b];exact Vr.2.2
   .show 0 <= t.e/\t.e < n;rw [b];exact ⟨Vr.1,Vr.2.1⟩
 .rcases YAm.mp hx with q | q
  .exact X.walk x q
  .rw [YAg.mp q]
   show walkF rs start 0 (p.line ++ [t.n]) = some (t.e,p.h + t.d)
   rw [zfx (X.walk p hp),zdo g0 g1 hstep]
   rfl
 .rw [zbz]
  have old:∀ x ∈ ns,∀ z ∈ x.line,0 <= z/\z < (rs.length:Int)/\hs.contains (runAt rs z).hand = false/\(runAt rs z).one ∈ zau ns ++ [t.e]/\(runAt rs z).oJ ∈ zau ns ++ [t.e]:=fun x q z hz=>by
   obtain ⟨a,b,c,d,e⟩:=X.runs x q z hz
   exact ⟨a,b,c,YAx _ d,YAx _ e⟩
  rcases YAm.mp hx with q | q
  .exact old x q z hz
  .rw [YAg.mp q] at hz
   rcases YAm.mp hz with hz | hz
   .exact old p hp z hz
   .rw [YAg.mp hz,era]
    exact ⟨g0,g1,hc,ends.1,ends.2⟩
 .have look:∀ (i:Nat) z,(p.line ++ [t.n])[i]? = some z->(i < p.line.length/\p.line[i]? = some z/\(p.line ++ [t.n]).take (i + 1) = p.line.take (i + 1))\/(i = p.line.length/\z = t.n):=fun i z hz=>by
   by_cases c:i < p.line.length
   .rw [YBF c] at hz
    exact .inl ⟨c,hz,by rw [List.take_append_of_le_length (by omega)]⟩
   .have hi:=(YAh.mp hz).1
    rw [YAw] at hi
    have hi':i < p.line.length + 1:=hi
    have ei:i = p.line.length:=by omega
    subst ei
    rw [YB1 (YAl _),Nat.sub_self] at hz
    exact .inr ⟨rfl,(Option.some.inj hz).symm⟩
  rcases YAm.mp hx with qx | qx <;> rcases YAm.mp hy with qy | qy
  .exact X.uniq x qx y qy i j z hi hj
  .rw [YAg.mp qy] at hj ⊢
   rcases look j z hj with ⟨c,h1,h2⟩ | ⟨c,h1⟩
   .show _ = (p.line ++ [t.n]).take (j + 1)
    rw [h2];exact X.uniq x qx p hp i j z hi h1
   .exact absurd (h1 ▸ hi) (hfresh x qx i)
  .rw [YAg.mp qx] at hi ⊢
   rcases look i z hi with ⟨c,h1,h2⟩ | ⟨c,h1⟩
   .show (p.line ++ [t.n]).take (i + 1) = _
    rw [h2];exact X.uniq p hp y qy i j z h1 hj
   .exact absurd (h1 ▸ hj) (hfresh y qy j)
  .rw [YAg.mp qx] at hi ⊢
   rw [YAg.mp qy] at hj ⊢
   show (p.line ++ [t.n]).take (i + 1) = (p.line ++ [t.n]).take (j + 1)
   rcases look i z hi with ⟨c,h1,h2⟩ | ⟨c,h1⟩ <;> rcases look j z hj with ⟨c',h1',h2'⟩ | ⟨c',h1'⟩
   .rw [h2,h2'];exact X.uniq p hp p hp i j z h1 h1'
   .exact absurd (h1' ▸ h1) (hfresh p hp i)
   .exact absurd (h1 ▸ h1') (hfresh p hp j)
   .rw [c,c']
 .rw [zbz];exact YAx _ X.start
 .rw [YAw]
  show x.line.length < ns.length + 1
  rcases YAm.mp hx with q | q
  .have:=X.few x q;omega
  .rw [YAg.mp q]
   show (p.line ++ [t.n]).length < _
   rw [YAw]
   show p.line.length + 1 < _
   omega
 .have old:∀ x ∈ ns,∀ z ∈ x.line,∃ u ∈ ns ++ [⟨t.e,tt,p.h + t.d,lt,p.line ++ [t.n]⟩],∃ v ∈ ns ++ [⟨t.e,tt,p.h + t.d,lt,p.line ++ [t.n]⟩],u.m = (runAt rs z).one/\v.m = (runAt rs z).oJ/\v.h - u.h = (runAt rs z).rise:=fun x q z hz=>by
   obtain ⟨u,hu,v,hv,e⟩:=X.keep x q z hz
   exact ⟨u,YAx _ hu,v,YAx _ hv,e⟩
  rcases YAm.mp hx with q | q
  .exact old x q z hz
  .rw [YAg.mp q] at hz
   rcases YAm.mp hz with hz | hz
   .exact old p hp z hz
   .rw [YAg.mp hz,era]
    rcases hg with ⟨a,b,c⟩ | ⟨a,b,c⟩
    .exact ⟨p,YAx _ hp,_,YAq _ YAi,a.symm,b,by show p.h + t.d - p.h = r.rise;omega⟩
    .exact ⟨_,YAq _ YAi,p,YAx _ hp,b,a.symm,by show p.h - (p.h + t.d) = r.rise;omega⟩
def TreeOk.len {rs:List Run} {hs:List Int} {start:Int} {n:Nat} {ns:List Nd} (X:TreeOk rs hs start n ns):ns.length <= n:=by
 have h:=zaQ (xs:=(List.range n).map Int.ofNat) X.nod fun k hk=>by
  obtain ⟨x,hx,rfl⟩:=mem_keys.mp hk
  have:=X.inm x hx
  refine YAB.mpr ⟨x.m.toNat,YAW.mpr (by omega),?_⟩
  show ((x.m.toNat:Nat):Int) = x.m
  omega
 unfold zau at h
 simpa using h
def Closed (cs:Nat->List Tri) (ns:List Nd) (m:Int):Prop:=∀ t ∈ cs m.toNat,t.e ∈ zau ns
def Closed.snoc   (h:Closed cs ns m):Closed cs (ns ++ [x]) m:=fun t ht=>by rw [zbz];exact YAx _ (h t ht)
def usable (hs:List Int) (rs:List Run):List Run:=rs.filter fun r=>!hs.contains r.hand
def zkv {rs:List Run} {hs:List Int} {start:Int} {n:Nat} {ns:List Nd} {cs:Nat->List Tri} (VM:zaA n rs) (X:TreeOk rs hs start n ns) (So:StepsOk rs hs rs.length cs) (hc:∀ x ∈ ns,Closed cs ns x.m) {j:Int} (c:Conn (usable hs rs) start j):j ∈ zau ns:=by
 induction c with
 | refl=>exact X.start
 | go r c m e ih=>
  obtain ⟨x,hx,ex⟩:=mem_keys.mp ih
  obtain ⟨mr,mc⟩:=YA3.mp m
  have mc':hs.contains r.hand = false:=by simpa using mc
  obtain ⟨i,hi⟩:=YA4 mr
  obtain ⟨⟨t1,a1,a2⟩,t2,b1,b2⟩:=So.full i r (YAh.mp hi).1 hi mc'
  have cl:=hc x hx
  rcases e with ⟨rfl,rfl⟩ | ⟨rfl,rfl⟩
  .rw [<- a2];exact cl t1 (by rw [ex];exact a1)
  .rw [<- b2];exact cl t2 (by rw [ex];exact b1)
theorem zfr  : ∀ {oP h:Int} {line:List Int} {e t:Int},walkF rs oP h line = some (e,t)->(∀ z ∈ line,hs.contains (runAt rs z).hand = false)->Conn (usable hs rs) oP e
 | oP,h,[],e,t,q,_=>by
  have:(oP,h) = (e,t):=Option.some.inj q
  injection this with a b
  subst a;exact .refl _
 | oP,h,n :: rest,e,t,q,hu=>by
  have hin:=zf2 q n YAi
  have q':(if 0 <= n/\n < (rs.length:Int) then (match za6 (runAt rs n) oP with | some (e,d)=>walkF rs e (h + d) rest | none=>none) else none) = some (e,t):=q
  rw [if_pos hin] at q'
  have mr:=(zdD hin.1 hin.2).2.2
  have mu:runAt rs n ∈ usable hs rs:=YA3.mpr ⟨mr,by rw [hu n YAi];rfl⟩
  cases hs':za6 (runAt rs n) oP with
  | none=>rw [hs'] at q';cases q'
  | some ed=>
   rw [hs'] at q'
   have ih:=zfr q' fun z hz=>hu z (YAn _ hz)
   refine Conn.trans ?_ ih
   unfold za6 at hs'
   by_cases c1:oP = (runAt rs n).one
   .rw [if_pos c1] at hs'
    cases hs'
    exact .go _ (.refl _) mu (.inl ⟨c1.symm,rfl⟩)
   .rw [if_neg c1] at hs'
    by_cases c2:oP = (runAt rs n).oJ
    .rw [if_pos c2] at hs'
     cases hs'
     exact .go _ (.refl _) mu (.inr ⟨c2.symm,rfl⟩)
    .rw [if_neg c2] at hs';cases hs'
def zkH {rs:List Run} {hs:List Int} {start:Int} {n:Nat} {ns:List Nd} {cs:Nat->List Tri} (VM:zaA n rs) (X:TreeOk rs hs start n ns) (So:StepsOk rs hs rs.length cs) (hc:∀ x ∈ ns,Closed cs ns x.m) (j:Int):j ∈ zau ns ↔ Conn (usable hs rs) start j:=by
 refine ⟨fun h=>?_,zkv VM X So hc⟩
 obtain ⟨x,hx,rfl⟩:=mem_keys.mp h
 exact zfr (X.walk x hx) fun z hz=>(X.runs x hx z hz).2.2.1
structure TreeH (K:oS) (H:Hp) (dt:Addr) (ns:List Nd):Prop where
 dict:H dt = some (.dK (ns.map ndK))
 node:∀ x ∈ ns,H x.t = some (.tup [.int x.h,.ref x.lt])/\SqT K H x.lt (x.line.map V.int)
def TreeH.same   (X:TreeH K H dt ns) (S:Same H H'):TreeH K H' dt ns:=
 ⟨S _ _ X.dict,fun x hx=>⟨S _ _ (X.node x hx).1,zbQ (tp:=true) S (X.node x hx).2⟩⟩
def zkR:HO->Prop
 | .tup _=>False
 | .frz _ _=>False
 | _=>True
def zfQ   (h:SqT K H a xs) (hd:H d = some o) (hn:zkR o):SqT K (upd H d o') a xs:=by
 rcases h with (h | ⟨ob,h⟩) | h
 .have:a ≠ d:=fun z=>by rw [z,hd] at h;cases h;exact hn
  exact .inl (.inl (by rw [zae this];exact h))
 .have:a ≠ d:=fun z=>by rw [z,hd] at h;cases h;exact hn
  exact .inl (.inr ⟨ob,by rw [zae this];exact h⟩)
 .exact .inr h
def zdF   (h:H a = some (.tup xs)) (hd:H d = some o) (hn:zkR o):upd H d o' a = some (.tup xs):=by
 have:a ≠ d:=fun z=>by rw [z,hd] at h;cases h;exact hn
 rw [zae this];exact h
theorem TreeH.upd   (X:TreeH K H dt ns) (hd:H d = some o) (hn:zkR o) (ne:dt ≠ d):TreeH K (L2.upd H d o') dt ns:=
 ⟨by rw [zae ne];exact X.dict,fun x hx=>⟨zdF (X.node x hx).1 hd hn,zfQ (X.node x hx).2 hd hn⟩⟩
def valV_none  : valV (ns.map ndK) (Sum.inl k) = none ↔ k ∉ zau ns:=by
 constructor
 .intro h hk
  obtain ⟨x,hx,rfl⟩:=mem_keys.mp hk
  exact zk3 h (YAB.mpr ⟨ndK x,YAO hx,rfl⟩)
 .intro h
  cases e:valV (ns.map ndK) (Sum.inl k) with
  | none=>rfl
  | some v=>
   obtain ⟨y,hy,ey⟩:=YAB.mp (zkd e)
   obtain ⟨x,hx,rfl⟩:=YAB.mp hy
   exact absurd (mem_keys.mpr ⟨x,hx,Sum.inl.inj ey⟩) h
def zeu (hn:(zau ns).Nodup) (hx:x ∈ ns):valV (ns.map ndK) (Sum.inl x.m) = some (.ref x.t):=by
 induction ns with
 | nil=>cases hx
 | cons y ns ih=>
  unfold zau at hn
  rw [YAf,YBb] at hn
  rw [YAf]
  rcases YAs.mp hx with rfl | q
  .exact zen (p:=ndK x) rfl
  .have:¬ (ndK y).1 = Sum.inl x.m:=fun z=>hn.1 (by rw [show y.m = x.m from Sum.inl.inj z];exact YAO q)
   rw [zej this]
   exact ih hn.2 q
structure TI (K:oS) (H0:Hp) (rs:List Run) (hs:List Int) (start:Int) (n:Nat) (dt ln lf:Addr) (nw:List Int) (c0:Nat) (H:Hp) (ns:List Nd) (fr:List Int):Prop where
 same:Same H0 H
 th:TreeH K H dt ns
 tok:TreeOk rs hs start n ns
 hln:H ln = some (.lst (nw.map V.int))
 hlf:H lf = some (.lst (fr.map V.int))
 frk:∀ z ∈ fr,z ∈ zau ns
 nwk:∀ z ∈ nw,z ∈ zau ns
 cnt:ns.length = c0 + fr.length
def TI.grow {K:oS} {H0:Hp} {rs:List Run} {hs:List Int} {start:Int} {n:Nat} {dt ln lf:Addr} {nw:List Int} {c0:Nat} {H H':Hp} {ns:List Nd} {fr:List Int} (X:TI K H0 rs hs start n dt ln lf nw c0 H ns fr) (S:Same H H'):TI K H0 rs hs start n dt ln lf nw c0 H' ns fr:=
 ⟨X.same.trans S,X.th.same S,X.tok,S _ _ X.hln,S _ _ X.hlf,X.frk,X.nwk,X.cnt⟩
theorem TI.add {K:oS} {H0:Hp} {rs:List Run} {hs:List Int} {start:Int} {n:Nat} {dt ln lf:Addr} {nw:List Int} {c0:Nat} {H:Hp} {ns:List Nd} {fr:List Int} (X:TI K H0 rs hs start n dt ln lf nw c0 H ns fr) (VM:zaA n rs) (fd:H0 dt = none) (fl:H0 lf = none) (nll:ln ≠ lf)
  {p:Nd} (hp:p ∈ ns) {t:Tri} (hg:zht rs hs rs.length p.m.toNat t) (hn:t.e ∉ zau ns) {tt lt:Addr} (htt:H tt = some (.tup [.int (p.h + t.d),.ref lt])) (hlt:SqT K H lt ((p.line ++ [t.n]).map V.int)) :
  TI K H0 rs hs start n dt ln lf nw c0 (upd (upd H dt (.dK (putK (ns.map ndK) (Sum.inl t.e) (.ref tt)))) lf (.lst (fr.map V.int ++ [.int t.e]))) (ns ++ [⟨t.e,tt,p.h + t.d,lt,p.line ++ [t.n]⟩]) (fr ++ [t.e]):=by
 have ndl:dt ≠ lf:=fun z=>by have:=X.th.dict;rw [z,X.hlf] at this;cases this
 have nln:ln ≠ dt:=fun z=>by have:=X.hln;rw [z,X.th.dict] at this;cases this
 have ep:putK (ns.map ndK) (Sum.inl t.e) (.ref tt) = (ns ++ [(⟨t.e,tt,p.h + t.d,lt,p.line ++ [t.n]⟩:Nd)]).map ndK:=by
  rw [zhZ _ (valV_none.mpr hn),YAv];rfl
 have hlf1:upd H dt (.dK (putK (ns.map ndK) (Sum.inl t.e) (.ref tt))) lf = some (.lst (fr.map V.int)):=by rw [zae ndl.symm];exact X.hlf
 refine ⟨fun c o e=>?_,⟨?_,fun x hx=>?_⟩,X.tok.add VM hp hg hn,?_,?_,fun z hz=>?_,fun z hz=>?_,?_⟩
 .rw [zae (zad e fl),zae (zad e fd)];exact X.same c o e
 .rw [zae ndl,zac,ep]
 .have hh:H x.t = some (.tup [.int x.h,.ref x.lt])/\SqT K H x.lt (x.line.map V.int):=by
   rcases YAm.mp hx with q | q
   .exact X.th.node x q
   .rw [YAg.mp q];exact ⟨htt,hlt⟩
  exact ⟨zdF (zdF hh.1 X.th.dict trivial) hlf1 trivial,zfQ (zfQ hh.2 X.th.dict trivial) hlf1 trivial⟩
 .rw [zae nll,zae nln];exact X.hln
 .rw [zac,YAv];rfl
 .rw [zbz]
  rcases YAm.mp hz with q | q
  .exact YAx _ (X.frk z q)
  .exact YAq _ (by rw [YAg.mp q];exact YAi)
 .rw [zbz];exact YAx _ (X.nwk z hz)
 .rw [YAw,YAw,X.cnt];show _ + 1 = _ + (_ + 1);omega
abbrev PN:=Int × Int × List Int
def za9 (x:Nd):PN:=(x.m,x.h,x.line)
def zbm (tr:List PN) (m:Int):PN:=(tr.find? fun p=>decide (p.1 = m)).getD (0,0,[])
def ex1 (p:PN) (st:List PN × List Int) (t:Int × Int × Int):List PN × List Int:=if t.2.1 ∈ st.1.map (·.1) then st else (st.1 ++ [(t.2.1,p.2.1 + t.2.2,p.2.2 ++ [t.1])],st.2 ++ [t.2.1])
def exM (S:Nat->List (Int × Int × Int)) (st:List PN × List Int) (m:Int):List PN × List Int:=(S m.toNat).foldl (ex1 (zbm st.1 m)) st
def exL (S:Nat->List (Int × Int × Int)) (tr:List PN) (nw:List Int):List PN × List Int:=nw.foldl (exM S) (tr,[])
def itT (S:Nat->List (Int × Int × Int)) (start:Int):Nat->List PN × List Int
 | 0=>([(start,0,[])],[start])
 | k + 1=>exL S (itT S start k).1 (itT S start k).2
def TreeIs (S:Nat->List (Int × Int × Int)) (start:Int) (tr:List PN):Prop:=∃ k,itT S start k = (tr,[])
theorem zfL {S:Nat->List (Int × Int × Int)} {start:Int} {k:Nat} {tr:List PN} (h:itT S start k = (tr,[])):∀ j,itT S start (k + j) = (tr,[])
 | 0=>h
 | j + 1=>by
  show exL S (itT S start (k + j)).1 (itT S start (k + j)).2 = _
  rw [zfL h j];rfl
def TreeIs.uniq {S:Nat->List (Int × Int × Int)} {start:Int} {a b:List PN} (x:TreeIs S start a) (y:TreeIs S start b):a = b:=by
 obtain ⟨i,hi⟩:=x
 obtain ⟨j,hj⟩:=y
 have h1:=zfL hi j
 have h2:=zfL hj i
 rw [Nat.add_comm] at h2
 rw [h1] at h2
 exact (Prod.mk.inj h2).1
def zdE {α β:Type} (f:β->α->β) (s:β) {xs:List α} {j:Nat} {x:α} (h:xs[j]? = some x):(xs.take (j + 1)).foldl f s = f ((xs.take j).foldl f s) x:=by
 rw [zbG h,List.foldl_append];rfl
def zbx (hn:(zau ns).Nodup) (hx:x ∈ ns):zbm (ns.map za9) x.m = za9 x:=by
 unfold zbm
 induction ns with
 | nil=>cases hx
 | cons y ns ih=>
  unfold zau at hn
  rw [YAf,YBb] at hn
  rw [YAf,YBw]
  rcases YAs.mp hx with rfl | q
  .simp [za9]
  .have:¬ (za9 y).1 = x.m:=fun z=>hn.1 (by rw [show y.m = x.m from z];exact YAO q)
   rw [show decide ((za9 y).1 = x.m) = false from YAY this]
   exact ih hn.2 q
def zgs (ns:List Nd):(ns.map za9).map (·.1) = zau ns:=by unfold zau;rw [YAF];rfl
noncomputable def zii (K:oS):Sp:=fun vs H Q _=>∃ (start:Int) (ls:Addr) (n:Nat) (ad:List Addr) (cs:Nat->List Tri) (rs:List Run) (hs:List Int),vs = [.int start,.ref ls]/\0 <= start/\start < n/\Steps H ls ad cs/\ad.length = n/\StepsOk rs hs rs.length cs/\zaA n rs/\n <= 1000/\rs.length <= 1000 /\
 ∀ (dt:Addr) (ns:List Nd) H',Same H H'->H dt = none->TreeH K H' dt ns->TreeOk rs hs start n ns->(∀ j,j ∈ zau ns ↔ Conn (usable hs rs) start j)->TreeIs (stepsF rs hs rs.length) start (ns.map za9)->Q (.ref dt) H'
abbrev Ntr:List Str:=["start","steps","tree","newest","fresh","mark","height","line","number","end","rise"]
noncomputable def SL (K:oS) (H:Hp) (n:Nat) (rs:List Run) (hs:List Int) (one oJ:Int) (v:V):Prop:=
 ∃ ns:List Nd,TreeOk rs hs one n ns/\TreeIs (stepsF rs hs rs.length) one (ns.map za9)/\(∀ j,j ∈ zau ns ↔ Conn (usable hs rs) one j)/\((v = .non/\oJ ∉ zau ns)\/∃ x ∈ ns,x.m = oJ/\v = .ref x.lt/\SqT K H x.lt (x.line.map V.int))
def zg9 (hn:(zau ns).Nodup) (hx:x ∈ ns) (e:x.m = k):za9 x = zbm (ns.map za9) k:=by rw [<- e,zbx hn hx]
theorem zh3 (S:Nat->List (Int × Int × Int)) (start:Int):∀ k,∃ rest,(itT S start k).1 = (start,0,[]) :: rest
 | 0=>⟨[],rfl⟩
 | k + 1=>by
  have one:∀ (p:PN) (ts:List (Int × Int × Int)) (st:List PN × List Int),(∃ rest,st.1 = (start,0,[]) :: rest)->∃ rest,(ts.foldl (ex1 p) st).1 = (start,0,[]) :: rest:=fun p ts=>by
   induction ts with
   | nil=>intro st h;exact h
   | cons t ts ih=>
    intro st h
    rw [YDP]
    refine ih _ ?_
    unfold ex1
    split
    .exact h
    .obtain ⟨rest,e⟩:=h
     exact ⟨rest ++ _,by show st.1 ++ _ = _;rw [e];rfl⟩
  have two:∀ (nw:List Int) (st:List PN × List Int),(∃ rest,st.1 = (start,0,[]) :: rest)->∃ rest,(nw.foldl (exM S) st).1 = (start,0,[]) :: rest:=fun nw=>by
   induction nw with
   | nil=>intro st h;exact h
   | cons m nw ih=>
    intro st h
    rw [YDP]
    exact ih _ (one _ _ _ h)
  exact two _ _ (zh3 S start k)
def TreeOk.lineNodup {rs:List Run} {hs:List Int} {start:Int} {n:Nat} {ns:List Nd} (X:TreeOk rs hs start n ns) {x:Nd} (hx:x ∈ ns):x.line.Nodup:=by
 refine YA1.mpr fun i j hi hj hij e=>?_
 have h:=X.uniq x hx x hx i j x.line[i] (YAd hi) (by rw [e];exact YAd hj)
 have:=congrArg List.length h
 rw [YBC,YBC] at this
 omega
noncomputable def zi2 (K:oS):Sp:=fun vs H Q _=>∃ (n:Nat) (a s:Addr) (rs:List Run) (hs:List Int) (one oJ:Int),vs = [.int n,.ref a,.ref s,.int one,.int oJ]/\SqL K H a (rs.map runV)/\Runs K H rs/\zaA n rs/\SqL K H s (hs.map V.int)/\0 <= one/\one < n/\n <= 1000/\rs.length <= 1000 /\
 ∀ v H',Same H H'->SL K H' n rs hs one oJ v->Q v H'
structure TR where
 d:Addr
 st:Int
 ns:List Nd
def trV (t:TR):V:=.ref t.d
structure TreeAt (K:oS) (H:Hp) (n:Nat) (rs:List Run) (hs:List Int) (t:TR):Prop where
 th:TreeH K H t.d t.ns
 tok:TreeOk rs hs t.st n t.ns
 keys:∀ j,j ∈ zau t.ns ↔ Conn (usable hs rs) t.st j
 is:TreeIs (stepsF rs hs rs.length) t.st (t.ns.map za9)
 b0:0 <= t.st
 b1:t.st < n
def Firsts (k:Nat) (rs:List Run) (sts:List Int):Prop:=sts.Pairwise (· < ·)/\∀ m,m ∈ sts ↔ (0 <= m/\m < k/\∀ j,0 <= j->j < m->¬ Conn rs j m)
theorem TreeAt.same    (x:TreeAt K H n rs hs t) (S:Same H H'):TreeAt K H' n rs hs t:=⟨x.th.same S,x.tok,x.keys,x.is,x.b0,x.b1⟩
theorem TreeAt.upd     (x:TreeAt K H n rs hs t) (hd:H d = some o) (hn:zkR o) (ne:t.d ≠ d):TreeAt K (L2.upd H d o') n rs hs t:=⟨x.th.upd hd hn ne,x.tok,x.keys,x.is,x.b0,x.b1⟩
def Firsts.no  (x:Firsts k rs sts) (h:∃ m:Int,0 <= m/\m < k/\Conn rs m k):Firsts (k + 1) rs sts:=by
 refine ⟨x.1,fun m=>(x.2 m).trans ⟨fun ⟨a,b,c⟩=>⟨a,by omega,c⟩,fun ⟨a,b,c⟩=>⟨a,?_,c⟩⟩⟩
 by_cases e:m = k
 .subst e
  obtain ⟨q,q0,q1,qc⟩:=h
  exact absurd qc (c q q0 q1)
 .omega
def Firsts.yes  (x:Firsts k rs sts) (h:¬ ∃ m:Int,0 <= m/\m < k/\Conn rs m k):Firsts (k + 1) rs (sts ++ [(k:Int)]):=by
 refine ⟨?_,fun m=>?_⟩
 .rw [YBN]
  refine ⟨x.1,by simp,fun a ha b hb=>?_⟩
  have:=(x.2 a).mp ha
  rw [YAg.mp hb]
  exact this.2.1
 .rw [YAm,YAg,x.2 m]
  constructor
  .rintro (⟨a,b,c⟩ | rfl)
   .exact ⟨a,by omega,c⟩
   .exact ⟨by omega,by omega,fun j j0 j1 c=>h ⟨j,j0,j1,c⟩⟩
  .rintro ⟨a,b,c⟩
   by_cases e:m = k
   .exact .inr e
   .exact .inl ⟨a,by omega,c⟩
noncomputable def zc4 (K:oS):Sp:=fun vs H Q _=>∃ (n:Nat) (a s:Addr) (rs:List Run) (hs:List Int),vs = [.int n,.ref a,.ref s]/\SqL K H a (rs.map runV)/\Runs K H rs/\zaA n rs/\SqL K H s (hs.map V.int)/\n <= 1000/\rs.length <= 1000 /\
 ∀ (lt:Addr) (ts:List TR) H',Same H H'->H lt = none->H' lt = some (.lst (ts.map trV))->(∀ t ∈ ts,TreeAt K H' n rs hs t)->Firsts n (usable hs rs) (ts.map TR.st)->ts.length <= n->(∀ t ∈ ts,H t.d = none)->(ts.map TR.d).Nodup->Q (.ref lt) H'
def zb4 (rs:List Run):usable [] rs = rs:=by unfold usable;exact YDc.mpr fun r _=>rfl
theorem zfU {rs:List Run} {f:Int->Int} (hf:∀ r ∈ rs,f r.oJ - f r.one = r.rise):∀ {oP h:Int} {line:List Int} {e t:Int},walkF rs oP h line = some (e,t)->t - h = f e - f oP
 | oP,h,[],e,t,q=>by
  have:(oP,h) = (e,t):=Option.some.inj q
  injection this with a b
  subst a b;omega
 | oP,h,n :: rest,e,t,q=>by
  have hin:=zf2 q n YAi
  have q':(if 0 <= n/\n < (rs.length:Int) then (match za6 (runAt rs n) oP with | some (e,d)=>walkF rs e (h + d) rest | none=>none) else none) = some (e,t):=q
  rw [if_pos hin] at q'
  have hr:=hf _ (zdD hin.1 hin.2).2.2
  cases hs':za6 (runAt rs n) oP with
  | none=>rw [hs'] at q';cases q'
  | some ed=>
   rw [hs'] at q'
   have ih:=zfU hf q'
   unfold za6 at hs'
   by_cases c1:oP = (runAt rs n).one
   .rw [if_pos c1] at hs'
    cases hs'
    rw [c1]
    show t - h = _
    have:t - (h + (runAt rs n).rise) = f e - f (runAt rs n).oJ:=ih
    omega
   .rw [if_neg c1] at hs'
    by_cases c2:oP = (runAt rs n).oJ
    .rw [if_pos c2] at hs'
     cases hs'
     rw [c2]
     have:t - (h + -(runAt rs n).rise) = f e - f (runAt rs n).one:=ih
     omega
    .rw [if_neg c2] at hs';cases hs'
def zjR    (X:TreeAt K H n rs hs t) (hx:x ∈ t.ns) (e:x.m = t.st):x.h = 0:=by
 obtain ⟨k,hk⟩:=X.is
 obtain ⟨rest,hr⟩:=zh3 (stepsF rs hs rs.length) t.st k
 rw [hk] at hr
 have hr':t.ns.map za9 = (t.st,0,[]) :: rest:=hr
 have e1:=zg9 X.tok.nod hx e
 rw [hr'] at e1
 have e2:zbm ((t.st,0,[]) :: rest) t.st = (t.st,0,[]):=by unfold zbm;rw [YBw];simp
 rw [e2] at e1
 unfold za9 at e1
 injection e1 with _ e1
 exact (Prod.mk.inj e1).1
def zfD  : ∀ (i:Nat) (j:Int),(i:Int) < k->Conn rs i j->∃ m:Int,0 <= m/\m <= i/\Conn rs m j/\∀ q,0 <= q->q < m->¬ Conn rs q m:=by
 intro i
 induction i using Nat.strongRecOn with
 | _ i ih=>
  intro j hi hc
  by_cases h:∃ q:Nat,q < i/\Conn rs q i
  .obtain ⟨q,hq,qc⟩:=h
   obtain ⟨m,m0,m1,mc,mf⟩:=ih q hq j (by omega) (qc.trans hc)
   exact ⟨m,m0,by omega,mc,mf⟩
  .refine ⟨i,by omega,by omega,hc,fun q q0 q1 qc=>h ⟨q.toNat,by omega,?_⟩⟩
   rw [YBg q0];exact qc
def zc1 {K:oS} {H:Hp} {n:Nat} {rs:List Run} {hs:List Int} {ts:List TR} (ht:∀ t ∈ ts,TreeAt K H n rs hs t) (hF:Firsts n (usable hs rs) (ts.map TR.st)) {i:Int} (h0:0 <= i) (h1:i < n):∃ t ∈ ts,∃ x ∈ t.ns,x.m = i:=by
 have hi:((i.toNat:Nat):Int) = i:=by omega
 obtain ⟨m,m0,m1,mc,mf⟩:=zfD (rs:=usable hs rs) (k:=n) i.toNat i (by omega) (by rw [hi];exact .refl _)
 have hm:=(hF.2 m).mpr ⟨m0,by omega,mf⟩
 obtain ⟨t,htm,e⟩:=YAB.mp hm
 have hk:=((ht t htm).keys i).mpr (by rw [e];exact mc)
 obtain ⟨x,hx,ex⟩:=mem_keys.mp hk
 exact ⟨t,htm,x,hx,ex⟩
def zkh {K:oS} {H:Hp} {n:Nat} {rs:List Run} {hs:List Int} {ts:List TR} (ht:∀ t ∈ ts,TreeAt K H n rs hs t) (hF:Firsts n (usable hs rs) (ts.map TR.st)) {t u:TR} (a:t ∈ ts) (b:u ∈ ts) {x y:Nd} (hx:x ∈ t.ns) (hy:y ∈ u.ns) (e:x.m = y.m):x.h = y.h:=by
 have T:=ht t a
 have U:=ht u b
 have c1:=(T.keys x.m).mp (mem_keys.mpr ⟨x,hx,rfl⟩)
 have c2:=(U.keys y.m).mp (mem_keys.mpr ⟨y,hy,rfl⟩)
 rw [e] at c1
 have c:=c1.trans c2.symm
 have f1:=(hF.2 t.st).mp (YAO a)
 have f2:=(hF.2 u.st).mp (YAO b)
 have es:t.st = u.st:=by
  rcases Int.lt_trichotomy t.st u.st with q | q | q
  .exact absurd c (f2.2.2 _ f1.1 q)
  .exact q
  .exact absurd c.symm (f1.2.2 _ f2.1 q)
 have ei:=T.is
 rw [es] at ei
 have en:=ei.uniq U.is
 have e1:za9 x = za9 y:=by rw [zg9 T.tok.nod hx e,zg9 U.tok.nod hy rfl,en]
 unfold za9 at e1
 injection e1 with _ e1
 exact (Prod.mk.inj e1).1
def zdU (n:Nat) (rs:List Run) (hts:List Int):Prop:=hts.length = n/\HtOk rs hts/\∀ m:Int,0 <= m->m < n->(∀ j,0 <= j->j < m->¬ Conn rs j m)->gI hts m = 0
noncomputable def znN (K:oS):Sp:=fun vs H Q _=>∃ (n:Nat) (a:Addr) (rs:List Run),vs = [.int n,.ref a]/\SqL K H a (rs.map runV)/\Runs K H rs/\zaA n rs/\n <= 1000/\rs.length <= 1000 /\
 (∀ H',Same H H'->zgL rs->Q .non H')/\∀ (l:Addr) (hts:List Int) H',Same H H'->H l = none->H' l = some (.lst (hts.map V.int))->zdU n rs hts->Q (.ref l) H'
def holds_iff  : (rs.map (zjP hts)).all id = true ↔ HtOk rs hts:=by
 rw [YB3]
 constructor
 .intro h r hr
  have:=h _ (YAO hr)
  exact YAV this
 .intro h b hb
  obtain ⟨r,hr,rfl⟩:=YAB.mp hb
  exact YAS (h r hr)
structure GR where
 a:Addr
 st:Int
 ms:List Int
def grV (g:GR):V:=.ref g.a
def zmB (n:Nat) (rs:List Run) (g:GR):Prop:=g.ms.Pairwise (· < ·)/\∀ j,j ∈ g.ms ↔ 0 <= j/\j < n/\Conn rs g.st j
structure GrpsAt (H:Hp) (l:Addr) (n:Nat) (rs:List Run) (gs:List GR):Prop where
 lst:H l = some (.lst (gs.map grV))
 rows:∀ g ∈ gs,H g.a = some (.lst (g.ms.map V.int))/\zmB n rs g
 firsts:Firsts n rs (gs.map GR.st)
def zlV (K:oS):Sp:=fun vs H Q _=>∃ (n:Nat) (a:Addr) (rs:List Run),vs = [.int n,.ref a]/\SqL K H a (rs.map runV)/\Runs K H rs/\zaA n rs/\n <= 60/\rs.length <= 1000 /\
 ∀ (l:Addr) (gs:List GR) H',Same H H'->H l = none->GrpsAt H' l n rs gs->(∀ g ∈ gs,H g.a = none)->Q (.ref l) H'
def zli:(["tree"]:List Str).Nodup:=by decide +kernel
def comm:List Int->List Int->Nat
 | a :: as,b :: bs=>if a = b then comm as bs + 1 else 0
 | _,_=>0
theorem zhc:∀ {A B:List Int} {k:Nat},k <= A.length->k <= B.length->A.take k = B.take k->(k = A.length\/k = B.length\/A[k]? ≠ B[k]?)->k = comm A B
 | [],B,k,h1,_,_,_=>by
  have:k = 0:=by simpa using h1
  subst this;cases B <;> rfl
 | a :: as,[],k,_,h2,_,_=>by
  have:k = 0:=by simpa using h2
  subst this;rfl
 | a :: as,b :: bs,0,_,_,_,h=>by
  have:a ≠ b:=by
   rcases h with h | h | h
   .simp at h
   .simp at h
   .intro z;exact h (by simp [z])
  unfold comm;rw [if_neg this]
 | a :: as,b :: bs,k + 1,h1,h2,h3,h=>by
  rw [YCo,YCo] at h3
  injection h3 with e1 e2
  unfold comm
  rw [if_pos e1,<- zhc (k:=k) (by simpa using h1) (by simpa using h2) e2 (by simpa using h)]
theorem zc8:∀ (A B:List Int),comm A B <= A.length/\comm A B <= B.length/\A.take (comm A B) = B.take (comm A B)/\(∀ a b,A[comm A B]? = some a->B[comm A B]? = some b->a ≠ b)
 | [],B=>by cases B <;> simp [comm]
 | a :: as,[]=>by simp [comm]
 | a :: as,b :: bs=>by
  unfold comm
  by_cases e:a = b
  .rw [if_pos e]
   obtain ⟨h1,h2,h3,h4⟩:=zc8 as bs
   refine ⟨by simpa using h1,by simpa using h2,by rw [YCo,YCo,e,h3],fun x y hx hy=>h4 x y (by simpa using hx) (by simpa using hy)⟩
  .rw [if_neg e]
   exact ⟨YAD _,YAD _,rfl,fun x y hx hy=>by simp at hx hy;rw [<- hx,<- hy];exact e⟩
def zaT (A B:List Int):List Int:=(A.drop (comm A B)).reverse ++ B.drop (comm A B)
theorem zeX:∀ {oP h:Int} {l1 l2:List Int} {e t:Int},walkF rs oP h l1 = some (e,t)->walkF rs oP h (l1 ++ l2) = walkF rs e t l2
 | oP,h,[],l2,e,t,q=>by
  have:(oP,h) = (e,t):=Option.some.inj q
  injection this with a b
  subst a b;rfl
 | oP,h,n :: rest,l2,e,t,q=>by
  rw [YDJ]
  show (if 0 <= n/\n < (rs.length:Int) then _ else _) = _
  have q':(if 0 <= n/\n < (rs.length:Int) then (match za6 (runAt rs n) oP with | some (e,d)=>walkF rs e (h + d) rest | none=>none) else none) = some (e,t):=q
  by_cases c:0 <= n/\n < (rs.length:Int)
  .rw [if_pos c] at q' ⊢
   cases hs:za6 (runAt rs n) oP with
   | none=>rw [hs] at q';cases q'
   | some ed=>rw [hs] at q';exact zeX q'
  .rw [if_neg c] at q';cases q'
theorem zeD:∀ {l1:List Int} {oP h:Int} {l2:List Int} {r:Int × Int},walkF rs oP h (l1 ++ l2) = some r->∃ e t,walkF rs oP h l1 = some (e,t)/\walkF rs e t l2 = some r
 | [],oP,h,l2,r,q=>⟨oP,h,rfl,q⟩
 | n :: rest,oP,h,l2,r,q=>by
  rw [YDJ] at q
  have q':(if 0 <= n/\n < (rs.length:Int) then (match za6 (runAt rs n) oP with | some (e,d)=>walkF rs e (h + d) (rest ++ l2) | none=>none) else none) = some r:=q
  by_cases c:0 <= n/\n < (rs.length:Int)
  .rw [if_pos c] at q'
   cases hs:za6 (runAt rs n) oP with
   | none=>rw [hs] at q';cases q'
   | some ed=>
    rw [hs] at q'
    obtain ⟨e,t,h1,h2⟩:=zeD q'
    exact ⟨e,t,by rw [zdo c.1 c.2 (show za6 (runAt rs n) oP = some (ed.1,ed.2) from hs)];exact h1,h2⟩
  .rw [if_neg c] at q';cases q'
theorem zeQ (d:Int):∀ {l:List Int} {oP h e t:Int},walkF rs oP h l = some (e,t)->walkF rs oP (h + d) l = some (e,t + d)
 | [],oP,h,e,t,q=>by
  have:(oP,h) = (e,t):=Option.some.inj q
  injection this with a b
  subst a b;rfl
 | n :: rest,oP,h,e,t,q=>by
  have q':(if 0 <= n/\n < (rs.length:Int) then (match za6 (runAt rs n) oP with | some (e,d)=>walkF rs e (h + d) rest | none=>none) else none) = some (e,t):=q
  by_cases c:0 <= n/\n < (rs.length:Int)
  .rw [if_pos c] at q'
   cases hs:za6 (runAt rs n) oP with
   | none=>rw [hs] at q';cases q'
   | some ed=>
    rw [hs] at q'
    rw [zdo c.1 c.2 (show za6 (runAt rs n) oP = some (ed.1,ed.2) from hs),show h + d + ed.2 = h + ed.2 + d by omega]
    exact zeQ d q'
  .rw [if_neg c] at q';cases q'
def ziJ (hu:r.one ≠ r.oJ) (h:za6 r oP = some (e,d)):za6 r e = some (oP,-d):=by
 unfold za6 at h ⊢
 by_cases c:oP = r.one
 .rw [if_pos c] at h
  injection h with h;injection h with h1 h2
  rw [<- h1,<- h2,if_neg (Ne.symm hu),if_pos rfl,c]
 .rw [if_neg c] at h
  by_cases c2:oP = r.oJ
  .rw [if_pos c2] at h
   injection h with h;injection h with h1 h2
   rw [<- h1,<- h2,if_pos rfl,c2,Int.neg_neg]
  .rw [if_neg c2] at h;cases h
theorem zgW (hu:∀ r ∈ rs,r.one ≠ r.oJ):∀ {l:List Int} {oP h e t:Int},walkF rs oP h l = some (e,t)->walkF rs e t l.reverse = some (oP,h)
 | [],oP,h,e,t,q=>by
  have:(oP,h) = (e,t):=Option.some.inj q
  injection this with a b
  subst a b;rfl
 | n :: rest,oP,h,e,t,q=>by
  have q':(if 0 <= n/\n < (rs.length:Int) then (match za6 (runAt rs n) oP with | some (e,d)=>walkF rs e (h + d) rest | none=>none) else none) = some (e,t):=q
  by_cases c:0 <= n/\n < (rs.length:Int)
  .rw [if_pos c] at q'
   cases hs:za6 (runAt rs n) oP with
   | none=>rw [hs] at q';cases q'
   | some ed=>
    rw [hs] at q'
    rw [YDx,zeX (zgW hu q'),zdo c.1 c.2 (ziJ (hu _ (zdD c.1 c.2).2.2) (show za6 (runAt rs n) oP = some (ed.1,ed.2) from hs))]
    show some (oP,h + ed.2 + -ed.2) = _
    rw [show h + ed.2 + -ed.2 = h by omega]
  .rw [if_neg c] at q';cases q'
def zhy {rs:List Run} (hu:∀ r ∈ rs,r.one ≠ r.oJ) {start:Int} {A B:List Int} {a ha b hb:Int} (h1:walkF rs start 0 A = some (a,ha)) (h2:walkF rs start 0 B = some (b,hb)):walkF rs a ha (zaT A B) = some (b,hb):=by
 obtain ⟨_,_,e,_⟩:=zc8 A B
 rw [<- YB6 (comm A B) A] at h1
 rw [<- YB6 (comm A B) B] at h2
 obtain ⟨p,hp,q1,q2⟩:=zeD h1
 obtain ⟨p',hp',q3,q4⟩:=zeD h2
 rw [<- e,q1] at q3
 injection q3 with q3;injection q3 with z1 z2
 subst z1 z2
 unfold zaT
 rw [zeX (zgW hu q2)]
 exact q4
def zfh  (h:z ∈ zaT A B):z ∈ A\/z ∈ B:=by
 unfold zaT at h
 rcases YAm.mp h with h | h
 .exact .inl (List.mem_of_mem_drop (YDI.mp h))
 .exact .inr (List.mem_of_mem_drop h)
def zfj (A B:List Int):(zaT A B).length <= A.length + B.length:=by
 unfold zaT
 rw [YAw,YCF,YCD,YCD];omega
def TreeOk.acrossNodup {rs:List Run} {hs:List Int} {start:Int} {n:Nat} {ns:List Nd} (X:TreeOk rs hs start n ns) {x y:Nd} (hx:x ∈ ns) (hy:y ∈ ns):(zaT x.line y.line).Nodup:=by
 obtain ⟨c1,c2,c3,c4⟩:=zc8 x.line y.line
 unfold zaT
 rw [YBU]
 refine ⟨List.pairwise_reverse.mpr (((X.lineNodup hx).sublist (List.drop_sublist _ _)).imp fun h=>Ne.symm h),(X.lineNodup hy).sublist (List.drop_sublist _ _),fun a ha b hb e=>?_⟩
 subst e
 obtain ⟨i,hi⟩:=YA4 (YDI.mp ha)
 obtain ⟨j,hj⟩:=YA4 hb
 rw [List.getElem?_drop] at hi hj
 have h:=X.uniq x hx y hy _ _ a hi hj
 have li:=(YAh.mp hi).1
 have lj:=(YAh.mp hj).1
 have hl:=congrArg List.length h
 rw [YBC,YBC] at hl
 have ij:i = j:=by omega
 subst ij
 have p1:x.line[comm x.line y.line]? = some (x.line[comm x.line y.line]'(by omega)):=YAd (by omega)
 have p2:y.line[comm x.line y.line]? = some (y.line[comm x.line y.line]'(by omega)):=YAd (by omega)
 refine c4 _ _ p1 p2 ?_
 have q1:(x.line.take (comm x.line y.line + i + 1))[comm x.line y.line]? = (y.line.take (comm x.line y.line + i + 1))[comm x.line y.line]?:=by rw [h]
 rw [YCh (by omega),YCh (by omega),p1,p2] at q1
 exact Option.some.inj q1
def zgb (K:oS):Sp:=fun vs H Q _=>∃ (a b:Addr) (A B:List Int),vs = [.ref a,.ref b]/\SqT K H a (A.map V.int)/\SqT K H b (B.map V.int)/\A.length <= 100/\B.length <= 100/\∀ p H',Same H H'->SqT K H' p ((zaT A B).map V.int)->Q (.ref p) H'
def zh1 {A:List Int} {k:Nat} (h:k <= A.length):cutV (A.map V.int) (some (k:Int)) none = (A.drop k).map V.int:=by
 unfold cutV
 rw [HT.sIx_nat,HT.sIx_none,YAc,Nat.min_eq_left h,List.map_drop]
 exact YCO (by simp)
def zkn {A B:List Int} {k:Nat} (h:A.take k = B.take k) (ha:k < A.length) (hb:k < B.length) (e:gI A k = gI B k):A.take (k + 1) = B.take (k + 1):=by
 have g:∀ L:List Int,k < L.length->L.take (k + 1) = L.take k ++ [gI L k]:=fun L hl=>by
  rw [YDA,YAd hl]
  unfold gI
  rw [YAE,YAC,YAd hl];rfl
 rw [g A ha,g B hb,h,e]
def ringF (cs:List PN) (hs:List Int):Nat->List Run->Option (Int × List Int)
 | _,[]=>none
 | i,r :: rest=>if hs.contains r.hand = false/\(zbm cs r.oJ).2.1 - (zbm cs r.one).2.1 ≠ r.rise then some (r.one,(i:Int) :: zaT (zbm cs r.oJ).2.2 (zbm cs r.one).2.2) else ringF cs hs (i + 1) rest
def zdQ {cs:List PN} {hs:List Int} {i:Nat} {r:Run} {rest:List Run}:ringF cs hs i (r :: rest) = if hs.contains r.hand = false/\(zbm cs r.oJ).2.1 - (zbm cs r.one).2.1 ≠ r.rise then some (r.one,(i:Int) :: zaT (zbm cs r.oJ).2.2 (zbm cs r.one).2.2) else ringF cs hs (i + 1) rest:=rfl
theorem zfp  : ∀ {l:List Run} {i:Nat} {m:Int} {line:List Int},ringF cs hs i l = some (m,line)->∃ (j:Nat) (r:Run),l[j]? = some r/\hs.contains r.hand = false/\(zbm cs r.oJ).2.1 - (zbm cs r.one).2.1 ≠ r.rise/\m = r.one/\line = ((i + j:Nat):Int) :: zaT (zbm cs r.oJ).2.2 (zbm cs r.one).2.2
 | [],i,m,line,h=>by cases h
 | r :: rest,i,m,line,h=>by
  unfold ringF at h
  by_cases c:hs.contains r.hand = false/\(zbm cs r.oJ).2.1 - (zbm cs r.one).2.1 ≠ r.rise
  .rw [if_pos c] at h
   injection h with h;injection h with h1 h2
   exact ⟨0,r,rfl,c.1,c.2,h1.symm,h2.symm⟩
  .rw [if_neg c] at h
   obtain ⟨j,r',a1,a2,a3,a4,a5⟩:=zfp h
   refine ⟨j + 1,r',by simpa using a1,a2,a3,a4,?_⟩
   rw [a5,show i + 1 + j = i + (j + 1) by omega]
theorem zfe  : ∀ {l:List Run} {i:Nat},ringF cs hs i l = none->∀ r ∈ l,hs.contains r.hand = false->(zbm cs r.oJ).2.1 - (zbm cs r.one).2.1 = r.rise
 | [],i,h,r,hr,_=>by cases hr
 | q :: rest,i,h,r,hr,hc=>by
  unfold ringF at h
  by_cases c:hs.contains q.hand = false/\(zbm cs q.oJ).2.1 - (zbm cs q.one).2.1 ≠ q.rise
  .rw [if_pos c] at h;cases h
  .rw [if_neg c] at h
   rcases YAs.mp hr with rfl | hr
   .by_cases e:(zbm cs r.oJ).2.1 - (zbm cs r.one).2.1 = r.rise
    .exact e
    .exact absurd ⟨hc,e⟩ c
   .exact zfe h r hr hc
def za8 (ts:List TR):List Nd:=ts.flatMap TR.ns
def zmt (K:oS) (H:Hp) (r:Option (Int × List Int)) (v:V):Prop:=match r with
 | none=>v = .non
 | some ml=>∃ p lt,v = .ref p/\H p = some (.tup [.int ml.1,.ref lt])/\SqT K H lt (ml.2.map V.int)
structure Reach (K:oS) (H:Hp) (n:Nat) (rs:List Run) (hs:List Int) (ts:List TR):Prop where
 trees:∀ t ∈ ts,TreeAt K H n rs hs t
 firsts:Firsts n (usable hs rs) (ts.map TR.st)
 nod:(zau (za8 ts)).Nodup
theorem Reach.same    (x:Reach K H n rs hs ts) (S:Same H H'):Reach K H' n rs hs ts:=⟨fun t ht=>(x.trees t ht).same S,x.firsts,x.nod⟩
def mem_reach  : x ∈ za8 ts ↔ ∃ t ∈ ts,x ∈ t.ns:=YB4
def zhn {K:oS} {H:Hp} {n:Nat} {rs:List Run} {hs:List Int} {ts:List TR} (ht:∀ t ∈ ts,TreeAt K H n rs hs t) (hF:Firsts n (usable hs rs) (ts.map TR.st)) {i j:Nat} {t u:TR} (hi:ts[i]? = some t) (hj:ts[j]? = some u) (ij:i < j) {k:Int} (h1:k ∈ zau t.ns) (h2:k ∈ zau u.ns):False:=by
 have c1:=((ht t (YAA hi)).keys k).mp h1
 have c2:=((ht u (YAA hj)).keys k).mp h2
 have li:=(YAh.mp hi).1
 have lj:=(YAh.mp hj).1
 have lt:=YA1.mp hF.1 i j (by rw [YAc];exact li) (by rw [YAc];exact lj) ij
 rw [YCE,YCE,(YAh.mp hi).2,(YAh.mp hj).2] at lt
 have hu:=(hF.2 u.st).mp (YAO (YAA hj))
 exact hu.2.2 t.st (ht t (YAA hi)).b0 lt (c1.trans c2.symm)
noncomputable def zoS (K:oS):Sp:=fun vs H Q _=>∃ (n:Nat) (a s:Addr) (rs:List Run) (hs:List Int),vs = [.int n,.ref a,.ref s]/\SqL K H a (rs.map runV)/\Runs K H rs/\zaA n rs/\SqL K H s (hs.map V.int)/\n <= 40/\rs.length <= 1000 /\
 ∀ (v:V) (ts:List TR) H',Same H H'->Reach K H' n rs hs ts->zmt K H' (ringF ((za8 ts).map za9) hs 0 rs) v->Q v H'
abbrev Nr:List Str:=["size","runs","struck","reached","tree","number","one","other","rise","hand","low","to_one","high","to_other"]
def zgn (hn:(zau ns).Nodup) (hx:x ∈ ns) (hu:u ∈ ns) (e:x.m = u.m):x.h = u.h:=by
 have a:=zbx hn hx
 have b:=zbx hn hu
 rw [e,b] at a
 unfold za9 at a
 injection a with _ a
 exact (Prod.mk.inj a).1.symm
def znK {K:oS} {H:Hp} {n:Nat} {rs:List Run} {hs:List Int} {ts:List TR} (X:Reach K H n rs hs ts) (VM:zaA n rs) (hn:n <= 40) (hu:∀ r ∈ rs,r.one ≠ r.oJ) {m:Int} {line:List Int} (h:ringF ((za8 ts).map za9) hs 0 rs = some (m,line)) :
  0 <= m/\m < n/\line ≠ []/\line.length <= 90/\line.Nodup/\(∀ z ∈ line,0 <= z/\z < (rs.length:Int)/\hs.contains (runAt rs z).hand = false)/\∃ t,walkF rs m 0 line = some (m,t)/\t ≠ 0:=by
 obtain ⟨j,r,hr,hc,hd,rfl,rfl⟩:=zfp h
 rw [Nat.zero_add]
 have hrm:=YAA hr
 have V0:=VM r hrm
 have hjl:j < rs.length:=(YAh.mp hr).1
 have era:runAt rs (j:Int) = r:=by
  have:=(zdD (rs:=rs) (i:=(j:Int)) (by omega) (by omega)).1
  rw [YAE,hr] at this;exact (Option.some.inj this).symm
 have hus:r ∈ usable hs rs:=by unfold usable;exact YA3.mpr ⟨hrm,by rw [hc];rfl⟩
 obtain ⟨t,ht,x,hx,ex⟩:=zc1 X.trees X.firsts V0.1 V0.2.1
 have Tt:=X.trees t ht
 have ho:r.oJ ∈ zau t.ns:=(Tt.keys _).mpr (((Tt.keys _).mp (mem_keys.mpr ⟨x,hx,ex⟩)).trans (Conn.edge hus))
 obtain ⟨y,hy,ey⟩:=mem_keys.mp ho
 have lx:=zbx X.nod (mem_reach.mpr ⟨t,ht,hx⟩)
 have ly:=zbx X.nod (mem_reach.mpr ⟨t,ht,hy⟩)
 rw [ex] at lx
 rw [ey] at ly
 rw [lx,ly] at hd ⊢
 have hd':y.h - x.h ≠ r.rise:=hd
 show 0 <= r.one/\r.one < (n:Int)/\(j:Int) :: zaT y.line x.line ≠ []/\((j:Int) :: zaT y.line x.line).length <= 90/\((j:Int) :: zaT y.line x.line).Nodup/\(∀ z ∈ (j:Int) :: zaT y.line x.line,_)/\∃ t,walkF rs r.one 0 ((j:Int) :: zaT y.line x.line) = some (r.one,t)/\t ≠ 0
 have few1:=Tt.tok.few x hx
 have few2:=Tt.tok.few y hy
 have tl:=Tt.tok.len
 have al:=zfj y.line x.line
 have nokeep:∀ q:Nd,q ∈ t.ns->(j:Int) ∉ q.line:=fun q hq hz=>by
  obtain ⟨u,hu1,v,hv1,e1,e2,e3⟩:=Tt.tok.keep q hq _ hz
  rw [era] at e1 e2 e3
  have h1:=zgn Tt.tok.nod hx hu1 (ex.trans e1.symm)
  have h2:=zgn Tt.tok.nod hy hv1 (ey.trans e2.symm)
  omega
 refine ⟨V0.1,V0.2.1,List.cons_ne_nil _ _,by rw [YA2];omega,YBb.mpr ⟨fun hz=>?_,Tt.tok.acrossNodup hy hx⟩,fun z hz=>?_,?_⟩
 .rcases zfh hz with q | q
  .exact nokeep y hy q
  .exact nokeep x hx q
 .rcases YAs.mp hz with rfl | hz
  .rw [era];exact ⟨by omega,by omega,hc⟩
  .rcases zfh hz with q | q
   .obtain ⟨a,b,c,_⟩:=Tt.tok.runs y hy z q;exact ⟨a,b,c⟩
   .obtain ⟨a,b,c,_⟩:=Tt.tok.runs x hx z q;exact ⟨a,b,c⟩
 .have st:za6 (runAt rs (j:Int)) r.one = some (r.oJ,r.rise):=by rw [era];unfold za6;rw [if_pos rfl]
  have w1:=zhy hu (Tt.tok.walk y hy) (Tt.tok.walk x hx)
  rw [ey,ex] at w1
  have w2:=zeQ (r.rise - y.h) w1
  refine ⟨x.h + (r.rise - y.h),?_,by omega⟩
  rw [zdo (by omega) (by omega) st,show (0:Int) + r.rise = y.h + (r.rise - y.h) by omega]
  exact w2
end Fen
namespace Fd
open PySem L2
def zbg  (h:F ds P) (k:∀ d,P d->Q d):up F ds Q:=⟨P,h,k⟩
def zmv (t:Tg) (C:WT) (E:WE) (Zc:Env) (x:D) (o:Option D):Prop:=∀ (oQ:D->Prop) (N:Prop),(match o with | some d=>oQ d | none=>N)->gD t x Zc fun Z2=>C Z2 fun b=>if b = true then E Z2 oQ else N
theorem zdb {α:Type}   (emb:α->D) (g:α->Option D):∀ (xs:List α) (acc:List D),(∀ x ∈ xs,zmv t C E Zc (emb x) (g x))->Q (acc ++ xs.filterMap g)->za7 t C E Zc Q (xs.map emb) acc
 | [],acc,_,q=>by simpa [za7] using q
 | x :: xs,acc,h,q=>by
  show gD t (emb x) Zc fun Z2=>C Z2 fun b=>if b = true then E Z2 fun d=>za7 t C E Zc Q (xs.map emb) (acc ++ [d]) else za7 t C E Zc Q (xs.map emb) acc
  refine h x YAi _ _ ?_
  cases e:g x with
  | none=>
   refine zdb emb g xs acc (fun y hy=>h y (YAn _ hy)) ?_
   rw [YBa,e] at q;exact q
  | some d=>
   refine zdb emb g xs (acc ++ [d]) (fun y hy=>h y (YAn _ hy)) ?_
   rw [YBa,e] at q
   rw [YAH];exact q
theorem zb2 {α β:Type}   (emb:α->D) (out:β->D) (R:α->β->Prop):∀ (xs:List α) (ys:List β),(∀ x ∈ xs,∀ oQ:D->Prop,(∀ y,R x y->oQ (out y))->gD t (emb x) Zc fun Z2=>C Z2 fun b=>b = true/\E Z2 oQ) ->
  zct C->(∀ zs:List β,zs.length = xs.length->(∀ z ∈ zs,∃ x ∈ xs,R x z)->Q ((ys ++ zs).map out))->za7 t C E Zc Q (xs.map emb) (ys.map out)
 | [],ys,_,_,q=>by simpa [za7] using q [] rfl (fun z h=>by cases h)
 | x :: xs,ys,h,mC,q=>by
  show gD t (emb x) Zc fun Z2=>C Z2 fun b=>if b = true then E Z2 fun d=>za7 t C E Zc Q (xs.map emb) (ys.map out ++ [d]) else za7 t C E Zc Q (xs.map emb) (ys.map out)
  refine zaW t (emb x) Zc (fun Z2 z=>mC Z2 _ _ (fun b z=>?_) z) (h x YAi (fun d=>za7 t C E Zc Q (xs.map emb) (ys.map out ++ [d])) fun y hy=>?_)
  .rw [z.1,if_pos rfl];exact z.2
  .have:=zb2 (t:=t) (C:=C) (E:=E) (Zc:=Zc) (Q:=Q) emb out R xs (ys ++ [y]) (fun x' hx'=>h x' (YAn _ hx')) mC (fun zs hl hz=>by
    have:=q (y :: zs) (by simp [hl]) (fun z hz'=>by
     rcases YAs.mp hz' with e | e
     .exact ⟨x,YAi,e ▸ hy⟩
     .obtain ⟨x',h1,h2⟩:=hz z e;exact ⟨x',YAn _ h1,h2⟩)
    simpa using this)
   simpa using this
def zbD:zct noIf:=fun Z Q Q' k q=>k _ q
theorem zaO  (I:List D->Env->Prop)
  (hs:∀ x rest Z (E':En),(∀ Z,I rest Z->E'.nx Z)->(∀ Z,I rest Z->E'.ct Z)->(∀ d,E.rt d->E'.rt d)->(∀ Z,E.nx Z->E'.bk Z)->I (x :: rest) Z->gD t x Z fun Z'=>B E' Z') (hd:∀ Z,I [] Z->E.nx Z) :
  ∀ (xs:List D) (Z:Env),I xs Z->zbv t B E xs Z
 | [],Z,h=>hd Z h
 | x :: xs,Z,h=>hs x xs Z { nx:=zbv t B E xs,ct:=zbv t B E xs,bk:=E.nx,rt:=E.rt } (zaO I hs hd xs) (zaO I hs hd xs) (fun d z=>z) (fun Z z=>z) h
theorem zeP {α:Type}   (emb:α->D) (g:α->Option Int):∀ (xs:List α) (acc:List Int),(∀ x ∈ xs,zmv t C E Zc (emb x) ((g x).map D.int))->(∀ ns:List Int,(∀ k,k ∈ ns ↔ k ∈ acc\/k ∈ xs.filterMap g)->Q ns)->zcD t C E Zc Q (xs.map emb) acc
 | [],acc,_,q=>by simpa [zcD] using q acc (fun k=>by simp)
 | x :: xs,acc,h,q=>by
  show gD t (emb x) Zc fun Z2=>C Z2 fun b=>if b = true then E Z2 fun d=>intD d fun k=>zcD t C E Zc Q (xs.map emb) (k :: acc) else zcD t C E Zc Q (xs.map emb) acc
  refine h x YAi _ _ ?_
  cases e:g x with
  | none=>
   refine zeP emb g xs acc (fun y hy=>h y (YAn _ hy)) fun ns hn=>q ns fun k=>?_
   rw [YBa,e];exact hn k
  | some d=>
   refine zeP emb g xs (d :: acc) (fun y hy=>h y (YAn _ hy)) fun ns hn=>q ns fun k=>?_
   rw [YBa,e,hn k,YAs,YAs]
   constructor
   .rintro ((h | h) | h)
    .exact .inr (.inl h)
    .exact .inl h
    .exact .inr (.inr h)
   .rintro (h | h | h)
    .exact .inl (.inr h)
    .exact .inl (.inl h)
    .exact .inr h
def zav (i:Int):D.old (.int i) = .int i:=by unfold D.old;rfl
def zda (a:Bool) (ns:List Int):D.old (.lst a (ns.map D.int)) = .lst false (ns.map D.int):=by
 unfold D.old;congr 1;rw [YAF];exact YA7 fun i _=>zav i
def zkr (ns:List Int):D.old (.tup (ns.map D.int)) = .tup (ns.map D.int):=by
 unfold D.old;congr 1;rw [YAF];exact YA7 fun i _=>zav i
abbrev Rn:=Fen.Run
def runD (r:Fen.Run):D:=.tup [.int r.one,.int r.oJ,.int r.rise,.int r.hand]
def znC (r:Rn):(runD r).old = runD r:=by unfold runD;simp [D.old]
def za2 (a:Bool) (rs:List Rn):D.old (.lst a (rs.map runD)) = .lst false (rs.map runD):=by
 unfold D.old;congr 1;rw [YAF];exact YA7 fun r _=>znC r
theorem zcM (x:Int):∀ hs:List Int,inB (.int x) (hs.map D.int) = hs.contains x
 | []=>rfl
 | y :: hs=>by
  have:=zcM x hs
  unfold inB at this ⊢
  rw [YAf,zee,YB5,this,List.contains_cons]
  congr 1
  show (y == x) = (x == y)
  exact Bool.beq_comm
theorem zic:∀ hs:List Int,zd7 (hs.map D.int) = true
 | []=>rfl
 | y :: hs=>by rw [YAf,zd7,zic hs];rfl
theorem zh5:∀ hs:List Int,PyData.depthAll (zee (hs.map D.int)) = 0
 | []=>rfl
 | y :: hs=>by rw [YAf,zee,PyData.depthAll,zh5 hs];rfl
def zcA (x:Int) (hs:List Int):inOk (.int x) (hs.map D.int):=⟨rfl,zic hs,by rw [zh5];exact YAZ (Nat.min_le_left _ _) (by decide)⟩
def zeg (x y:Int):eqOk (.int x) (.int y):=⟨rfl,rfl,by show min 0 0 <= 50;decide⟩
def zmp (x y:Int):eqB (.int x) (.int y) = decide (x = y):=by
 show (x == y) = _;by_cases h:x = y <;> simp [h]
def zaD (rs:List Rn) (hs:List Int):List Rn:=rs.filter fun r=>!hs.contains r.hand
def zat (rs:List Rn):List Int:=zbB (rs.map Fen.Run.hand)
def gI (hs:List Int) (i:Int):Int:=hs.getD i.toNat 0
def InM (n:Int) (rs:List Rn):Prop:=∀ r ∈ rs,0 <= r.one/\r.one < n/\0 <= r.oJ/\r.oJ < n
def zj5 (h:∀ k,k ∈ xs ↔ k ∈ ys):zbB xs = zbB ys:=zix (zbP _) (zbP _) fun k=>((za5 xs k).trans (h k)).trans (za5 ys k).symm
def zcJ (a:Bool) (rs:List Rn) (hl:rs.length < 64):za1 [.lst a (rs.map runD)] (· = .lst true ((zat rs).map D.int)):=by
 unfold za1 fnW zaP
 rw [YAf,za2]
 refine ⟨by simpa using hl,zeP runD (fun r=>some r.hand) rs [] (fun r hr oQ N y=>⟨rfl,y⟩) fun ns hn=>?_⟩
 show D.lst true ((zbB ns).map D.int) = _
 rw [zat,zj5 (ys:=rs.map Fen.Run.hand)]
 intro k
 rw [hn k,List.filterMap_eq_map']
 simp
def zep (a b:Bool) (rs:List Rn) (hs:List Int) (hl:rs.length <= 1000):zcz [.lst a (rs.map runD),.lst b (hs.map D.int)] (· = .lst true ((zaD rs hs).map runD)):=by
 unfold zcz fnW zaP
 rw [YAf,YAf,za2,zda]
 refine ⟨by simp;omega,zdb runD (fun r=>if hs.contains r.hand then none else some (runD r)) rs [] (fun r hr oQ N y=>⟨rfl,zcA _ _,?_⟩) ?_⟩
 .show if (if true = true then !inB (.int r.hand) (hs.map D.int) else _) = true then _ else _
  rw [if_pos rfl,zcM]
  revert y
  cases hs.contains r.hand with
  | true=>exact fun y=>y
  | false=>exact fun y=>⟨by show 4 <= 100000;decide,y⟩
 .show D.lst true _ = _
  congr 1
  unfold zaD
  rw [YBc]
  induction rs with
  | nil=>rfl
  | cons r rs ih=>
   rw [YBa,YBi]
   cases hs.contains r.hand with
   | true=>exact ih (by simp at hl;omega)
   | false=>simp only [Bool.not_false,YDO,YAf,YAK,YBn];rw [ih (by simp at hl;omega)]
def zdk {hs:List Int} {i:Int} (h0:0 <= i) (h1:i < hs.length):atI (hs.map D.int) i = some (.int (gI hs i)):=by
 unfold atI ixN gI
 have hn:i.toNat < hs.length:=by omega
 rw [if_pos h0,YAc,if_pos h1,YCY,YAk,YAd hn,YAC,YAd hn]
 rfl
def zcd {hs:List Int} {i:Int} {Q:D->Prop} (h0:0 <= i) (h1:i < hs.length) (q:Q (.int (gI hs i))):itD (hs.map D.int) (.int i) Q:=by
 show (match atI (hs.map D.int) i with | some d=>Q d | none=>False)
 rw [zdk h0 h1];exact q
def zlY {α:Type} (f:α->Bool) (xs:List α):(xs.map fun x=>D.bl (f x)) = (xs.map f).map D.bl:=by rw [YAF];rfl
def zlf {α:Type} {f:α->Bool} {xs:List α} {n:Bool} {Q:D->Prop} (q:Q (.bl (xs.all f))):allF [.lst n (xs.map fun x=>D.bl (f x))] Q:=
 ⟨xs.map f,zlY f xs,by rw [List.all_map];exact q⟩
def zlc {α:Type} {f:α->Bool} {xs:List α} {n:Bool} {Q:D->Prop} (q:Q (.bl (xs.any f))):anyF [.lst n (xs.map fun x=>D.bl (f x))] Q:=
 ⟨xs.map f,zlY f xs,by rw [YDS];exact q⟩
def ze2 {α β:Type} (f:α->β) (xs:List α):xs.filterMap (fun x=>some (f x)) = xs.map f:=by rw [List.filterMap_eq_map']
def zbV {α:Type}   (emb:α->D) (g:α->D) (xs:List α) (h:∀ x ∈ xs,zmv t C E Zc (emb x) (some (g x))) (q:Q (xs.map g)):za7 t C E Zc Q (xs.map emb) []:=
 zdb emb (fun x=>some (g x)) xs [] h (by rw [ze2];exact q)
def zeI (rs:List Rn) (hs:List Int):(zaD rs hs).length <= rs.length:=YB9 ..
def zkU  (h:InM n rs) (hs:List Int):InM n (zaD rs hs):=fun r hr=>h r (YA3.mp hr).1
def zlU (x y:D):D.old (.tup [x,y]) = .tup [x.old,y.old]:=by rw [D.old];rfl
def zhA:D.old .box = .box:=by rw [D.old]
def zaz  (h0:0 < m) (h1:m < 2 ^ 64) (k:∀ x:Int,0 <= x->x < m->Q (.int x)):up zah [.box,.int m] Q:=⟨Q,⟨⟨h0,h1⟩,k⟩,fun d z=>z⟩
def zg6 (m:Int) (n:Nat):rngL m (n + 1) = .int m :: rngL (m + 1) n:=by
 unfold rngL
 rw [YCN,YAf,YAF]
 congr 1
 .simp
 .refine YA7 fun k _=>?_
  simp only [Function.comp_apply,Nat.succ_eq_add_one]
  congr 1;omega
def zcN (n:Nat):rngL 0 n = (List.range n).map fun (k:Nat)=>D.int (k:Int):=by
 unfold rngL;refine YA7 fun k _=>?_;simp
def zaJ (m:Int) (n:Nat):(rngL m n).length = n:=by unfold rngL;simp
def zgR:zbc [.box] (fun d=>∃ x:Int,d = .int x/\0 <= x):=by
 unfold zbc fnW zaP
 rw [YAf,zhA]
 refine ⟨rfl,zaz (by decide) (by decide) fun x x0 x1=>?_⟩
 refine ⟨zeg _ _,ite2 (fun h=>?_) (fun h=>?_)⟩
 .exact ⟨rfl,zaz (by decide) (by decide) fun y y0 y1=>⟨y,rfl,y0⟩⟩
 refine ⟨zeg _ _,ite2 (fun h=>?_) (fun h=>?_)⟩
 .exact ⟨rfl,zaz (by decide) (by decide) fun y y0 y1=>⟨y,rfl,y0⟩⟩
 refine ⟨⟨by decide,by decide⟩,?_⟩
 refine zaO (fun _ Z=>∃ (z:Int) (s:Sl),Z = [.val .box,.val (.int x),.val (.int z),s]/\0 <= z) ?_ ?_ _ _ ⟨0,.un,rfl,Int.le_refl _⟩
 .rintro k rest Z E' hn hc hr hb ⟨z,s,rfl,z0⟩
  refine ⟨.inr ⟨by decide,by decide⟩,rfl,zaz (by decide) (by decide) fun y y0 y1=>hn _ ⟨z * 1000000 + y,.val k,rfl,by omega⟩⟩
 .rintro Z ⟨z,s,rfl,z0⟩
  exact ⟨z,rfl,z0⟩
def zeZ (r:Int):zaL [.box,.int r] (fun d=>∃ x:Int,d = .int x):=by
 unfold zaL fnW zaP
 rw [YAf,YAf,zhA,zav]
 refine ⟨rfl,zaz (by decide) (by decide) fun x x0 x1=>⟨rfl,zbg zgR fun d ⟨y,hd,y0⟩=>?_⟩⟩
 subst hd
 refine ⟨rfl,zbg zgR fun d ⟨z,hd,z0⟩=>?_⟩
 subst hd
 refine ⟨by show 5 <= 100000;decide,rfl,zaz (by decide) (by decide) fun w w0 w1=>?_⟩
 exact zcd (hs:=[1,-1,1 + x,y,-z]) w0 w1 ⟨_,rfl⟩
structure Wd (mm mh mr size:Int) (rs:List Rn) (hts fs:List Int):Prop where
 s1:1 <= size
 s2:size <= mm
 few:(rs.length:Int) <= mr
 marks:InM size rs
 apart:∀ r ∈ rs,r.one ≠ r.oJ
 hand:∀ r ∈ rs,0 <= r.hand/\r.hand < 10
 names:∃ nm:List Int,(nm.length:Int) <= mh/\∀ r ∈ rs,r.hand ∈ nm
 hl:(hts.length:Int) = size
 h0:∀ h ∈ hts,0 <= h
 up:fs.Pairwise (· < ·)
 fl:fs.length <= 3
 fr:∀ h ∈ fs,0 <= h/\h < 10
 truth:∀ r ∈ rs,r.hand ∉ fs->r.rise = gI hts r.oJ - gI hts r.one
theorem zdA:∀ ns:List Int,(zbB ns).length <= ns.length
 | []=>YAl _
 | x :: xs=>by
  have h:=zdA xs
  unfold zbB
  have:∀ ys:List Int,(insU x ys).length <= ys.length + 1:=fun ys=>by
   induction ys with
   | nil=>simp [insU]
   | cons y ys ih=>
    unfold insU
    split
    .simp
    .split
     .simp
     .simp;exact ih
  have:=this (zbB xs)
  simp;omega
def zgZ  (h0:0 <= i) (h1:i < hs.length):gI hs i ∈ hs:=by
 unfold gI
 have hn:i.toNat < hs.length:=by omega
 rw [YAC,YAd hn]
 exact YCs hn
def zkm (mm mh mr:Int) (a1:1 <= mm) (a2:mm <= 12) (b1:1 <= mh) (b2:mh <= 10) (c1:0 <= mr) (c2:mr <= 40) :
  zbw [.box,.int mm,.int mh,.int mr] (fun d=>∃ size rs hts fs,d = .tup [.int size,.lst true (rs.map runD),.lst true (hts.map D.int),.lst true (fs.map D.int)]/\Wd mm mh mr size rs hts fs):=by
 unfold zbw fnW zaP
 rw [YAf,YAf,YAf,YAf,zhA,zav,zav,zav]
 refine ⟨rfl,zaz (by omega) (by omega) fun x x0 x1=>?_⟩
 refine ⟨rfl,zaz (by omega) (by omega) fun y y0 y1=>?_⟩
 refine ⟨⟨by decide,by decide,by decide⟩,by show 3 <= 100000;decide,rfl,zaz (by decide) (by decide) fun z z0 z1=>?_⟩
 refine zcd (hs:=[4,1000,10 ^ 12]) z0 z1 ?_
 have hw:0 < gI [4,1000,10 ^ 12] z/\gI [4,1000,10 ^ 12] z < 2 ^ 64:=by
  have:=zgZ (hs:=[4,1000,10 ^ 12]) z0 z1
  simp only [YAs,YAT,YB7] at this
  rcases this with e | e | e <;> rw [e] <;> decide
 generalize gI [4,1000,10 ^ 12] z = wide at hw
 refine ⟨⟨by omega,by omega⟩,by rw [zaJ];omega,?_⟩
 rw [zcN]
 refine zb2 (fun (k:Nat)=>D.int (k:Int)) D.int (fun _ h=>0 <= h) _ [] (fun k hk oQ hy=>⟨rfl,rfl,zaz hw.1 hw.2 fun h h0 h1=>hy h h0⟩) zbD fun hts hhl hh0=>?_
 rw [YBe] at hhl
 rw [YBc]
 refine ⟨⟨by omega,by omega⟩,by rw [zaJ];omega,?_⟩
 rw [zcN]
 refine zb2 (fun (k:Nat)=>D.int (k:Int)) D.int (fun k h=>k < 10/\0 <= h/\h < 10\/10 <= k) _ [] (fun k hk oQ hy=>⟨rfl,rfl,zaz (by decide) (by decide) fun h h0 h1=>⟨zeg _ _,ite2 (fun _=>?_) (fun _=>?_)⟩⟩) zbD fun nms hnl hn0=>?_
 .refine ⟨.inl ⟨by decide,by decide⟩,by decide,hy _ ?_⟩
  by_cases hk10:k < 10
  .exact .inl ⟨hk10,by omega,by omega⟩
  .exact .inr (by omega)
 .refine hy _ ?_
  by_cases hk10:k < 10
  .exact .inl ⟨hk10,by omega,by omega⟩
  .exact .inr (by omega)
 rw [YBe] at hnl
 rw [YBc]
 have hnm:∀ h ∈ nms,0 <= h/\h < 10:=fun h hh=>by
  obtain ⟨k,hk,q⟩:=hn0 h hh
  have hk:=YAW.mp hk
  rcases q with q | q
  .exact q.2
  .omega
 refine ⟨rfl,zaz (by decide) (by decide) fun u u0 u1=>⟨⟨by omega,by omega⟩,by rw [zaJ];omega,?_⟩⟩
 rw [zcN]
 refine zb2 (fun (k:Nat)=>D.int (k:Int)) D.int (fun _ h=>h ∈ nms) _ [] (fun k hk oQ hy=>⟨rfl,rfl,zaz (by omega) (by omega) fun h h0 h1=>zcd (hs:=nms) h0 (by omega) (hy _ (zgZ h0 (by omega)))⟩) zbD fun fns hfl hf0=>?_
 rw [YBe] at hfl
 rw [YBc]
 refine ⟨fns,rfl,by omega,?_⟩
 have hf1:∀ h ∈ zbB fns,h ∈ nms:=fun h hh=>by
  obtain ⟨k,_,q⟩:=hf0 h ((za5 fns h).mp hh);exact q
 have hfl3:(zbB fns).length <= 3:=YAZ (zdA fns) (by omega)
 have hup:=zbP fns
 generalize hfs:zbB fns = fs at hf1 hfl3 hup
 refine ⟨rfl,zaz (by decide) (by decide) fun bad bad0 bad1=>?_⟩
 refine ⟨by show 0 <= 100000;decide,rfl,zaz (by omega) (by omega) fun v v0 v1=>?_⟩
 have hrun:∀ (b:Bool),CMul v (if b then 1 else 0):=fun b=>.inl ⟨by omega,by omega⟩
 refine ⟨hrun _,⟨by split <;> omega,by split <;> omega⟩,?_⟩
 refine zaO (fun rest Z=>∃ (rs:List Rn) (s12 s13 s14 s15 s16:Sl),Z = [.val .box,.val (.int mm),.val (.int mh),.val (.int mr),.val (.int (1 + x)),.val (.int (1 + y)),.val (.int wide),.val (.lst true (hts.map D.int)),.val (.lst true (nms.map D.int)),.val (.lst true (fs.map D.int)),.val (.int (1 + bad)),.own (rs.map runD),s12,s13,s14,s15,s16] /\
  (rs.length:Int) + rest.length <= mr/\(rest = []\/1 < 1 + x)/\InM (1 + x) rs/\(∀ r ∈ rs,r.one ≠ r.oJ)/\(∀ r ∈ rs,r.hand ∈ nms)/\∀ r ∈ rs,r.hand ∉ fs->r.rise = gI hts r.oJ - gI hts r.one) ?_ ?_ _ _ ?_
 .rintro k rest Z E' hn hc hr hb ⟨rs,s12,s13,s14,s15,s16,rfl,hlen,hx,hin,hap,hnms,htr⟩
  have hx:1 < 1 + x:=hx.elim (fun z=>by cases z) id
  refine ⟨rfl,zaz (by omega) (by omega) fun one o0 o1=>?_⟩
  refine ⟨rfl,zaz (by omega) (by omega) fun st t0 t1=>⟨by omega,?_⟩⟩
  have q0:0 <= (one + 1 + st) % (1 + x):=YBY _ (by omega)
  have q1:(one + 1 + st) % (1 + x) < 1 + x:=YBB _ (by omega)
  have qne:one ≠ (one + 1 + st) % (1 + x):=fun e=>by
   have e1:=Int.emod_emod_of_dvd (one + 1 + st) (Int.dvd_refl (1 + x))
   by_cases hlt:one + 1 + st < 1 + x
   .rw [Int.emod_eq_of_lt (by omega) hlt] at e;omega
   .have:(one + 1 + st) % (1 + x) = one + 1 + st - (1 + x):=by
     rw [<- Int.sub_emod_right,Int.emod_eq_of_lt (by omega) (by omega)]
    omega
  generalize (one + 1 + st) % (1 + x) = oJ at q0 q1 qne
  refine ⟨rfl,zaz (by omega) (by omega) fun hi h0 h1=>zcd (hs:=nms) h0 (by omega) ?_⟩
  have hm:=zgZ (hs:=nms) h0 (by omega)
  generalize gI nms hi = hand at hm
  refine zcd (hs:=hts) q0 (by omega) (zcd (hs:=hts) o0 (by omega) ?_)
  have app:∀ (rise:Int) (s16:Sl),(hand ∉ fs->rise = gI hts oJ - gI hts one)->s16 = .val (.int rise)->appW 11 (tupW (zab (vW 13) (zab (vW 14) (zab (vW 16) (zab (vW 15) nilA))))) E' [.val .box,.val (.int mm),.val (.int mh),.val (.int mr),.val (.int (1 + x)),.val (.int (1 + y)),.val (.int wide),.val (.lst true (hts.map D.int)),.val (.lst true (nms.map D.int)),.val (.lst true (fs.map D.int)),.val (.int (1 + bad)),.own (rs.map runD),.val k,.val (.int one),.val (.int oJ),.val (.int hand),s16]:=by
   intro rise s16 hrise hs16
   subst hs16
   have hl:rs.length < 100000:=by omega
   refine ⟨by show 4 <= 100000;decide,by simpa using hl,hn _ ⟨rs ++ [⟨0,one,oJ,rise,hand⟩],_,_,_,_,_,by rw [YAv];rfl,?_,.inr hx,?_,?_,?_,?_⟩⟩
   .rw [YA2] at hlen;rw [YAw];simp;omega
   .intro r hr
    rcases YAm.mp hr with e | e
    .exact hin r e
    .rw [YAg.mp e];exact ⟨o0,o1,q0,q1⟩
   .intro r hr
    rcases YAm.mp hr with e | e
    .exact hap r e
    .rw [YAg.mp e];exact qne
   .intro r hr
    rcases YAm.mp hr with e | e
    .exact hnms r e
    .rw [YAg.mp e];exact hm
   .intro r hr
    rcases YAm.mp hr with e | e
    .exact htr r e
    .rw [YAg.mp e];exact hrise
  refine ⟨zcA _ _,?_⟩
  show if (if false = true then !inB (.int hand) (fs.map D.int) else inB (.int hand) (fs.map D.int)) = true then _ else _
  rw [show (if false = true then !inB (.int hand) (fs.map D.int) else inB (.int hand) (fs.map D.int)) = fs.contains hand from zcM _ _]
  cases hc:fs.contains hand with
  | false=>exact app _ _ (fun _=>rfl) rfl
  | true=>
   have hmem:hand ∈ fs:=by simpa using hc
   refine ⟨rfl,zaz (by decide) (by decide) fun dr d0 d1=>ite2 (fun _=>?_) (fun _=>?_)⟩
   .refine ⟨rfl,zbg (zeZ _) fun d ⟨rise,hd⟩=>?_⟩
    subst hd
    exact app rise _ (fun z=>absurd hmem z) rfl
   .exact app _ _ (fun z=>absurd hmem z) rfl
 .rintro Z ⟨rs,s12,s13,s14,s15,s16,rfl,hlen,hx,hin,hap,hnms,htr⟩
  refine ⟨by show 4 <= 100000;decide,1 + x,rs,hts,fs,rfl,by omega,by omega,by simpa using hlen,hin,hap,fun r hr=>hnm _ (hnms r hr),⟨nms,by omega,hnms⟩,by omega,fun h hh=>?_,hup,hfl3,fun h hh=>hnm h (hf1 h hh),htr⟩
  obtain ⟨_,_,q⟩:=hh0 h hh;exact q
 .refine ⟨[],.un,.un,.un,.un,.un,by rw [<- hfs];rfl,?_,?_,(fun r h=>by cases h),(fun r h=>by cases h),(fun r h=>by cases h),(fun r h=>by cases h)⟩
  .rw [zaJ]
   show ((0:Nat):Int) + _ <= _
   split <;> omega
  .by_cases h:(1:Int) < 1 + x
   .exact .inr h
   .left
    rw [if_neg (by simpa using h)]
    simp [rngL]
end Fd
namespace Fen
open PySem L2
def Er (rs qs:List Run):Prop:=rs.map zbT = qs.map zbT
theorem Er.symm (h:Er rs qs):Er qs rs:=Eq.symm h
def Er.len (h:Er rs qs):rs.length = qs.length:=by have:=congrArg List.length h;simpa using this
def zbo (h:zbT r = zbT q):r.one = q.one/\r.oJ = q.oJ/\r.rise = q.rise/\r.hand = q.hand:=by
 unfold zbT at h
 simp only [Prod.mk.injEq] at h
 exact h
def Er.mem (h:Er rs qs) (hr:r ∈ rs):∃ q ∈ qs,zbT q = zbT r:=by
 have:zbT r ∈ qs.map zbT:=by rw [<- h];exact YAO hr
 obtain ⟨q,hq,e⟩:=YAB.mp this
 exact ⟨q,hq,e⟩
def Er.get {rs qs:List Run} (h:Er rs qs) {i:Nat} {r:Run} (hr:rs[i]? = some r):∃ q,qs[i]? = some q/\zbT q = zbT r:=by
 have e:(qs.map zbT)[i]? = some (zbT r):=by rw [<- h,YAk,hr];rfl
 rw [YAk] at e
 cases z:qs[i]? with
 | none=>rw [z] at e;cases e
 | some q=>rw [z] at e;exact ⟨q,rfl,Option.some.inj e⟩
def Er.conn (h:Er rs qs) (c:Conn rs i j):Conn qs i j:=by
 induction c with
 | refl=>exact .refl _
 | go r c m e ih=>
  obtain ⟨q,hq,eq⟩:=h.mem m
  obtain ⟨e1,e2,_,_⟩:=zbo eq
  exact .go q ih hq (by rw [e1,e2];exact e)
def Er.conn_iff (h:Er rs qs) (i j:Int):Conn rs i j ↔ Conn qs i j:=⟨h.conn,h.symm.conn⟩
def Er.htOk (h:Er rs qs) (x:HtOk rs hts):HtOk qs hts:=fun q hq=>by
 obtain ⟨r,hr,e⟩:=h.symm.mem hq
 obtain ⟨e1,e2,e3,_⟩:=zbo e
 have:=x r hr
 rw [e1,e2,e3] at this;exact this
def Er.noHts (h:Er rs qs) (x:zgL rs):zgL qs:=fun f hf=>x f fun r hr=>by
 obtain ⟨q,hq,e⟩:=h.mem hr
 obtain ⟨e1,e2,e3,_⟩:=zbo e
 rw [<- e1,<- e2,<- e3];exact hf q hq
def Er.inMarks (h:Er rs qs) (x:zaA n rs):zaA n qs:=fun q hq=>by
 obtain ⟨r,hr,e⟩:=h.symm.mem hq
 obtain ⟨e1,e2,_,_⟩:=zbo e
 rw [<- e1,<- e2];exact x r hr
def Er.flatOk (h:Er rs qs)  (x:zdU n rs hts):zdU n qs hts:=
 ⟨x.1,h.htOk x.2.1,fun m m0 m1 k=>x.2.2 m m0 m1 fun j j0 j1 c=>k j j0 j1 (h.conn c)⟩
def Er.cons {r q:Run} {rs qs:List Run} (h:Er (r :: rs) (q :: qs)):zbT r = zbT q/\Er rs qs:=by
 unfold Er at h
 rw [YAf,YAf] at h
 injection h with h1 h2
 exact ⟨h1,h2⟩
theorem Er.usable:∀ {rs qs:List Run} (hs:List Int),Er rs qs->Er (usable hs rs) (usable hs qs)
 | [],[],_,_=>rfl
 | [],_ :: _,_,h=>by cases h
 | _ :: _,[],_,h=>by cases h
 | r :: rs,q :: qs,hs,h=>by
  obtain ⟨h1,h2⟩:=h.cons
  have ih:=Er.usable hs h2
  unfold Fen.usable at ih ⊢
  obtain ⟨_,_,_,e⟩:=zbo h1
  rw [YBi,YBi,e]
  split
  .unfold Er;rw [YAf,YAf,h1,ih]
  .exact ih
theorem Er.runAt {rs qs:List Run} (h:Er rs qs) (i:Int):zbT (Fen.runAt rs i) = zbT (Fen.runAt qs i):=by
 unfold Fen.runAt
 rw [YAC,YAC]
 cases e:rs[i.toNat]? with
 | none=>
  have:qs[i.toNat]? = none:=by
   rw [YCc] at e ⊢;rw [<- h.len];exact e
  rw [this]
 | some r=>
  obtain ⟨q,e2,eq⟩:=h.get e
  rw [e2];exact eq.symm
def ziM (h:zbT r = zbT q) (m:Int):za6 r m = za6 q m:=by
 obtain ⟨e1,e2,e3,_⟩:=zbo h
 unfold za6;rw [e1,e2,e3]
theorem Er.walkF (h:Er rs qs):∀ (oP t:Int) (l:List Int),Fen.walkF rs oP t l = Fen.walkF qs oP t l
 | _,_,[]=>rfl
 | oP,t,n :: rest=>by
  unfold Fen.walkF
  rw [h.len,ziM (h.runAt n) oP]
  split
  .split
   .exact h.walkF _ _ rest
   .rfl
  .rfl
theorem Er.stepsF {rs qs:List Run} (h:Er rs qs) (hs:List Int):∀ (k m:Nat),Fen.stepsF rs hs k m = Fen.stepsF qs hs k m
 | 0,_=>rfl
 | k + 1,m=>by
  unfold Fen.stepsF
  rw [h.stepsF hs k m]
  cases e:rs[k]? with
  | none=>
   have:qs[k]? = none:=by rw [YCc] at e ⊢;rw [<- h.len];exact e
   rw [this]
  | some r=>
   obtain ⟨q,e2,eq⟩:=h.get e
   obtain ⟨e1,e3,e4,e5⟩:=zbo eq
   rw [e2]
   simp only [e1,e3,e4,e5]
def Er.treeOk {rs qs:List Run} (h:Er rs qs) {hs:List Int} {start:Int} {n:Nat} {ns:List Nd} (x:TreeOk rs hs start n ns):TreeOk qs hs start n ns where
 nod:=x.nod
 inm:=x.inm
 walk:=fun y hy=>by rw [<- h.walkF];exact x.walk y hy
 runs:=fun y hy z hz=>by
  obtain ⟨a,b,c,d,e⟩:=x.runs y hy z hz
  obtain ⟨e1,e2,_,e4⟩:=zbo (h.runAt z)
  rw [<- e4,<- e1,<- e2,<- h.len];exact ⟨a,b,c,d,e⟩
 uniq:=x.uniq
 start:=x.start
 few:=x.few
 keep:=fun y hy z hz=>by
  obtain ⟨u,hu,v,hv,a,b,c⟩:=x.keep y hy z hz
  obtain ⟨e1,e2,e3,_⟩:=zbo (h.runAt z)
  exact ⟨u,hu,v,hv,by rw [<- e1];exact a,by rw [<- e2];exact b,by rw [<- e3];exact c⟩
def Er.firsts (h:Er rs qs)  (x:Firsts n rs sts):Firsts n qs sts:=
 ⟨x.1,fun m=>(x.2 m).trans ⟨fun ⟨a,b,c⟩=>⟨a,b,fun j j0 j1 z=>c j j0 j1 (h.symm.conn z)⟩,fun ⟨a,b,c⟩=>⟨a,b,fun j j0 j1 z=>c j j0 j1 (h.conn z)⟩⟩⟩
theorem Er.ringF  : ∀ {rs qs:List Run} (i:Nat),Er rs qs->Fen.ringF cs hs i rs = Fen.ringF cs hs i qs
 | [],[],_,_=>rfl
 | [],_ :: _,_,h=>by cases h
 | _ :: _,[],_,h=>by cases h
 | r :: rs,q :: qs,i,h=>by
  obtain ⟨h1,h2⟩:=h.cons
  obtain ⟨e1,e2,e3,e4⟩:=zbo h1
  rw [zdQ,zdQ,e1,e2,e3,e4,Er.ringF (i + 1) h2]
def Er.treeAt (h:Er rs qs)   (x:TreeAt K H n rs hs t):TreeAt K H n qs hs t where
 th:=x.th
 tok:=h.treeOk x.tok
 keys:=fun j=>(x.keys j).trans ((h.usable hs).conn_iff _ _)
 is:=by
  have e:Fen.stepsF rs hs rs.length = Fen.stepsF qs hs qs.length:=by
   funext m;rw [h.stepsF hs,h.len]
  rw [<- e];exact x.is
 b0:=x.b0
 b1:=x.b1
def Er.reach (h:Er rs qs)   (x:Reach K H n rs hs ts):Reach K H n qs hs ts:=
 ⟨fun t ht=>h.treeAt (x.trees t ht),(h.usable hs).firsts x.firsts,x.nod⟩
noncomputable def LineIs (n:Nat) (rs:List Run) (hs:List Int) (one oJ:Int) (o:Option (List Int)):Prop:=
 ∃ ns:List Nd,TreeOk rs hs one n ns/\TreeIs (stepsF rs hs rs.length) one (ns.map za9)/\(∀ j,j ∈ zau ns ↔ Conn (usable hs rs) one j)/\((o = none/\oJ ∉ zau ns)\/∃ x ∈ ns,x.m = oJ/\o = some x.line)
def LineIs.none_iff   (h:LineIs n rs hs one oJ o):o = none ↔ ¬ Conn (usable hs rs) one oJ:=by
 obtain ⟨ns,a,b,c,d⟩:=h
 rcases d with ⟨rfl,k⟩ | ⟨x,hx,ex,rfl⟩
 .exact ⟨fun _ z=>k ((c oJ).mpr z),fun _=>rfl⟩
 .refine ⟨(fun z=>by cases z),fun z=>absurd ((c oJ).mp (ex ▸ YAO hx)) z⟩
theorem LineIs.some   (h:LineIs n rs hs one oJ (some l)) :
  (∃ t,walkF rs one 0 l = some (oJ,t))/\l.Nodup/\(∀ z ∈ l,0 <= z/\z < (rs.length:Int)/\hs.contains (runAt rs z).hand = false)/\l.length <= n:=by
 obtain ⟨ns,a,b,c,d⟩:=h
 rcases d with ⟨e,_⟩ | ⟨x,hx,ex,e⟩
 .cases e
 .cases e
  refine ⟨⟨x.h,by rw [<- ex];exact a.walk x hx⟩,a.lineNodup hx,fun z hz=>let ⟨p,q,r,_⟩:=a.runs x hx z hz;⟨p,q,r⟩,?_⟩
  have l1:=a.few x hx
  have l2:ns.length <= n:=by
   have hk:(zau ns).length = ns.length:=by unfold zau;simp
   have hin:∀ k ∈ zau ns,0 <= k/\k < n:=fun k hk=>by
    obtain ⟨y,hy,e⟩:=YAB.mp hk
    rw [<- e];exact a.inm y hy
   have hd:∀ k ∈ zau ns,k ∈ (List.range n).map Int.ofNat:=fun k hk=>by
    obtain ⟨k0,k1⟩:=hin k hk
    refine YAB.mpr ⟨k.toNat,YAW.mpr (by omega),?_⟩
    show ((k.toNat:Nat):Int) = k
    omega
   have:=zaQ (ks:=zau ns) (xs:=(List.range n).map Int.ofNat) a.nod hd
   rw [YAc,YBe] at this;omega
  omega
def RingIs (n:Nat) (rs:List Run) (hs:List Int) (o:Option (Int × List Int)):Prop:=∃ K H ts,Reach K H n rs hs ts/\o = ringF ((za8 ts).map za9) hs 0 rs
theorem RingIs.some   (h:RingIs n rs hs (some (m,line))) (VM:zaA n rs) (hn:n <= 40) (hu:∀ r ∈ rs,r.one ≠ r.oJ) :
  0 <= m/\m < n/\line ≠ []/\line.length <= 90/\line.Nodup/\(∀ z ∈ line,0 <= z/\z < (rs.length:Int)/\hs.contains (runAt rs z).hand = false)/\∃ t,walkF rs m 0 line = some (m,t)/\t ≠ 0:=by
 obtain ⟨K,H,ts,a,e⟩:=h
 exact znK a VM hn hu e.symm
def Er.ringIs   (h:Er rs qs) (x:RingIs n rs hs o):RingIs n qs hs o:=by
 obtain ⟨K,H,ts,a,rfl⟩:=x
 exact ⟨K,H,ts,h.reach a,Er.ringF 0 h⟩
def Er.lineIs   (h:Er rs qs) (x:LineIs n rs hs one oJ o):LineIs n qs hs one oJ o:=by
 obtain ⟨ns,a,b,c,d⟩:=x
 have e:Fen.stepsF rs hs rs.length = Fen.stepsF qs hs qs.length:=by
  funext m;rw [h.stepsF hs,h.len]
 exact ⟨ns,h.treeOk a,e ▸ b,fun j=>(c j).trans ((h.usable hs).conn_iff _ _),d⟩
def zib (n:Nat) (rs:List Run) (gs:List (List Int)):Prop:=∃ ds:List GR,(∀ g ∈ ds,zmB n rs g)/\Firsts n rs (ds.map GR.st)/\gs = ds.map GR.ms
def Er.grpsIs  (h:Er rs qs) (x:zib n rs gs):zib n qs gs:=by
 obtain ⟨ds,a,b,c⟩:=x
 exact ⟨ds,fun g hg=>⟨(a g hg).1,fun j=>((a g hg).2 j).trans ⟨fun ⟨p,q,r⟩=>⟨p,q,h.conn r⟩,fun ⟨p,q,r⟩=>⟨p,q,h.symm.conn r⟩⟩⟩,h.firsts b,c⟩
end Fen
namespace Fd
open PySem L2
def zoU:Option (List Int)->D
 | none=>.non
 | some l=>.tup (l.map D.int)
def zpc:Option (Int × List Int)->D
 | none=>.non
 | some ml=>.tup [.int ml.1,.tup (ml.2.map D.int)]
def zce:Fn:=fun ds Q=>∃ (n:Nat) (a b:Bool) (rs:List Rn) (hs:List Int) (one oJ:Int),ds = [.int n,.lst a (rs.map runD),.lst b (hs.map D.int),.int one,.int oJ]/\Fen.zaA n rs/\0 <= one/\one < n/\n <= 1000/\rs.length <= 1000/\∀ o,Fen.LineIs n rs hs one oJ o->Q (zoU o)
def zcg:Fn:=fun ds Q=>∃ (n:Nat) (a b:Bool) (rs:List Rn) (hs:List Int),ds = [.int n,.lst a (rs.map runD),.lst b (hs.map D.int)]/\Fen.zaA n rs/\n <= 40/\rs.length <= 1000/\∀ o,Fen.RingIs n rs hs o->Q (zpc o)
def zcW:Fn:=fun ds Q=>∃ (n:Nat) (a:Bool) (rs:List Rn),ds = [.int n,.lst a (rs.map runD)]/\Fen.zaA n rs/\n <= 1000/\rs.length <= 1000/\(Fen.zgL rs->Q .non)/\∀ hts,Fen.zdU n rs hts->Q (.lst true (hts.map D.int))
def zcR:Fn:=fun ds Q=>∃ (n:Nat) (a:Bool) (rs:List Rn),ds = [.int n,.lst a (rs.map runD)]/\Fen.zaA n rs/\n <= 60/\rs.length <= 1000/\∀ gs,Fen.zib n rs gs->Q (.lst true (gs.map fun g=>.lst true (g.map D.int)))
theorem zcu  : ∀ {rs:List Rn} {vs:List V},Reps c G (rs.map runD) vs->∃ rs':List Rn,vs = rs'.map Fen.runV/\Fen.Runs c.K G rs'/\Fen.Er rs' rs
 | [],vs,h=>by cases h;exact ⟨[],rfl,(fun r hr=>by cases hr),rfl⟩
 | r :: rs,vs,⟨v,ws,e,h1,h2⟩=>by
  obtain ⟨rs',e1,e2,e3⟩:=zcu h2
  obtain ⟨a,us,ea,ha,hu⟩:=h1
  obtain ⟨u1,u2,eu,i1,j1⟩:=hu
  obtain ⟨u3,u4,eu2,i2,j2⟩:=j1
  obtain ⟨u5,u6,eu3,i3,j3⟩:=j2
  obtain ⟨u7,u8,eu4,i4,j4⟩:=j3
  cases i1;cases i2;cases i3;cases i4;cases j4
  subst eu4 eu3 eu2 eu
  refine ⟨{ r with p:=a } :: rs',?_,?_,?_⟩
  .rw [e,ea,e1];rfl
  .intro q hq
   rcases YAs.mp hq with rfl | hq
   .exact ha
   .exact e2 q hq
  .show List.map _ _ = List.map _ _
   rw [YAf,YAf,show rs'.map Fen.zbT = rs.map Fen.zbT from e3];rfl
def zeb (G H':Hp) (nl:Addr->Prop) [DecidablePred nl]:Hp:=fun a=>match G a with
 | some o=>some o
 | none=>if nl a then H' a else match H' a with
  | some (.tup xs)=>some (.tup xs)
  | some (.frz o b)=>some (.frz o b)
  | _=>none
def zcE  [DecidablePred nl] (gh:Same G H) (bx:BoxD β H G) (S:Same H H') (hn:∀ a,nl a->H a = none):Stp β H G H' (zeb G H' nl) where
 bc:=fun cc p r d h=>⟨p,r,d,S _ _ h⟩
 gg:=fun a o e=>by unfold zeb;rw [e]
 gh:=fun a o e=>by
  unfold zeb at e
  cases z:G a with
  | some u=>rw [z] at e;cases e;exact S _ _ (gh _ _ z)
  | none=>
   rw [z] at e
   simp only at e
   split at e
   .exact e
   .split at e
    .cases e;assumption
    .cases e;assumption
    .cases e
 fr:=fun a o _ e=>S a o e
 nw:=fun a e=>by
  unfold zeb at e
  cases z:G a with
  | some u=>exact .inl (fun w=>by cases w)
  | none=>
   rw [z] at e
   simp only at e
   refine .inr ?_
   split at e
   .exact .inl (hn a (by assumption))
   .cases y:H a with
    | none=>exact .inl rfl
    | some o=>
     have:=S a o y
     rw [this] at e
     refine .inr ⟨o,rfl,?_⟩
     cases o <;> first | trivial | exact (e rfl)
 bx:=by
  obtain ⟨cc,p,r,d,ns,h,a,b,c,f,g,i⟩:=bx.ex
  refine ⟨⟨cc,p,r,d,ns,S _ _ h,a,b,c,f,by unfold zeb;rw [g],i⟩,?_⟩
  unfold zeb
  rw [bx.still]
  simp only
  rw [if_neg (fun z=>by rw [hn _ z] at h;cases h),S _ _ h]
  rfl
 b0:=fun z=>by obtain ⟨o,h⟩:=bx.at;rw [z] at h;cases h
def zeG  [DecidablePred nl]  (gh:Same G H') (h:SqT K H' a vs):SqT K (zeb G H' nl) a vs:=by
 rcases h with h | h
 .rcases h with h | ⟨o,h⟩
  .refine .inl (.inl ?_)
   unfold zeb
   cases z:G a with
   | some u=>simp only;rw [<- h,gh _ _ z]
   | none=>simp only;rw [h];split <;> rfl
  .refine .inl (.inr ⟨o,?_⟩)
   unfold zeb
   cases z:G a with
   | some u=>simp only;rw [<- h,gh _ _ z]
   | none=>simp only;rw [h];split <;> rfl
 .exact .inr h
def zey  [DecidablePred nl]  (gh:Same G H') (hn:nl a) (h:H' a = some o):zeb G H' nl a = some o:=by
 unfold zeb
 cases z:G a with
 | some u=>simp only;rw [<- h,gh _ _ z]
 | none=>simp only;rw [if_pos hn,h]
def zdO   (h:Rep c G (.lst n xs) v):∃ a vs,v = .ref a/\G a = some (.lst vs)/\Reps c G xs vs:=by
 obtain ⟨a,vs,h1,h2,_,h3⟩:=h;exact ⟨a,vs,h1,h2,h3⟩
def zgD {c:Bk} {G:Hp} {a:Addr} {ns:List Int} (h:SqT c.K G a (ns.map V.int)):Rep c G (.tup (ns.map D.int)) (.ref a):=⟨a,_,rfl,h,reps_ints.mpr rfl⟩
theorem zd0 {α β:Type} (p:α->Bool) (f:α->β):∀ xs:List α,xs.filterMap (fun x=>if p x = true then some (f x) else none) = (xs.filter p).map f
 | []=>rfl
 | x :: xs=>by
  rw [YBa,YBi,zd0 p f xs]
  cases p x <;> rfl
def zjs  (h0:0 <= i) (h1:i < hs.length) (q:Q i.toNat (Fen.gI hs i)):getI (hs.map D.int) (.int i) Q:=by
 show (match (hs.map D.int)[i.toNat]? with | some (.int a)=>0 <= i/\Q i.toNat a | _=>False)
 have hn:i.toNat < hs.length:=by omega
 have e:Fen.gI hs i = hs[i.toNat]:=by unfold Fen.gI;rw [YAC,YAd hn];rfl
 rw [YAk,YAd hn]
 rw [e] at q
 exact ⟨h0,q⟩
def zlW (hs:List Int) (m:Nat) (v:Int):(hs.map D.int).set m (.int v) = (hs.set m v).map D.int:=by rw [List.map_set]
def zbX  (h0:0 <= i) (h1:i < hs.length) (q:Q (.int (Fen.gI hs i))):itD (hs.map D.int) (.int i) Q:=zcd h0 h1 q
def znB {i:Nat} {I A:WE} {E:En} {Z:Env} {hs:List Int} {k b:Int} (h:Z[i]? = some (.own (hs.map D.int))) (hI:∀ Q:D->Prop,Q (.int k)->I Z Q) (hA:∀ Q:D->Prop,Q (.int b)->A Z Q) (k0:0 <= k) (k1:k < hs.length)
  (q:E.nx (Z.set i (.own ((hs.set k.toNat (Fen.gI hs k + b)).map D.int)))):zfk i I A E Z:=by
 unfold zfk
 rw [h]
 refine hI _ (zjs k0 k1 (hA _ ?_))
 show E.nx _
 rw [zlW];exact q
def zgN (rs:List Rn) (hs:List Int):zaD rs hs = Fen.usable hs rs:=by
 unfold zaD Fen.usable;rfl
noncomputable def zbn:Fn:=fnW 4 ((seqW (asgW (.nm 2) (valW (lstW (zab (valW (lstW nilA)) nilA))))
  (seqW (forW (zcq (vW 1)) (.nm 3) (asgW (.nm 2) (valW (zeO [none,none,some 0] (seqI (vW 2)) (.nm 0) (seqI (vW 2)) (.nm 1) (orT (notT (truW (vW 0))) (blW (binW ltD (ixvW 0 (unW negD (kW (.int 1)))) (vW 1)))) (binW addD (vW 0) (valW (lstW (zab (vW 1) nilA))))))))
  (retW (vW 2)))))
noncomputable def zaV:Fn:=fnW 7 ((seqW (asgW (.nm 3) (zaw 1 za1 (zab (vW 1) nilA)))
  (seqW (ownW 4 (lstW nilA))
  (seqW (forW (zcq (binW addD (cbW minF (zab (vW 2) (zab (zfa 3) nilA))) (kW (.int 1)))) (.nm 5) (forW (seqI (zaw 2 zbn (zab (vW 3) (zab (vW 5) nilA)))) (.nm 6) (ifS (blW (zkP (zaw 2 zcW (zab (vW 0) (zab (zaw 2 zcz (zab (vW 1) (zab (vW 6) nilA))) nilA))))) (appW 4 (vW 6)) nilS)))
  (frzW 4 (retW (vW 4)))))))
noncomputable def zcx:Fn:=fnW 7 ((seqW (asgW (.nm 3) (zaw 1 za1 (zab (vW 1) nilA)))
  (seqW (forW (zcq (binW addD (cbW minF (zab (vW 2) (zab (zfa 3) nilA))) (kW (.int 1)))) (.nm 4) (forW (seqI (zaw 2 zbn (zab (vW 3) (zab (vW 4) nilA)))) (.nm 5) (seqW (asgW (.nm 6) (zaw 2 zcW (zab (vW 0) (zab (zaw 2 zcz (zab (vW 1) (zab (vW 5) nilA))) nilA))))
  (ifS (blW (zkP (vW 6))) (retW (tupW (zab (vW 5) (zab (vW 6) nilA)))) nilS))))
  (retW (kW .non)))))
def zbd:Fn:=fnW 2 ((retW (zaw 1 za1 (zab (valW (zaI [none,some 0] (seqI (vW 1)) (.nm 0) noIf (ixvW 1 (vW 0)))) nilA))))
noncomputable def zay:Nat->Fn
 | 0=>fun _ _=>False
 | n + 1=>fnW 13 ((seqW (asgW (.nm 5) (kW (.str "ring")))
  (seqW (asgW (.nm 6) (zaw 3 zcg (zab (vW 0) (zab (vW 1) (zab (vW 3) nilA)))))
  (seqW (ifS (blW (isNW (vW 6))) (seqW (asgW (.nm 5) (kW (.str "line")))
  (seqW (asgW (.tp 2 (.cons (.nm 7) (.cons (.nm 8) .nil))) (vW 4))
  (asgW (.nm 6) (tupW (zab (vW 7) (zab (zaw 5 zce (zab (vW 0) (zab (vW 1) (zab (vW 3) (zab (vW 7) (zab (vW 8) nilA)))))) nilA)))))) nilS)
  (seqW (asgW (.tp 2 (.cons (.nm 9) (.cons (.nm 10) .nil))) (vW 6))
  (seqW (asgW (.nm 11) (ifW (blW (binW gtD (vW 2) (kW (.int 0)))) (zaw 2 zbd (zab (vW 1) (zab (vW 10) nilA))) (valW (lstW nilA))))
  (seqW (asgW (.nm 12) (valW (zaI [none,some 0,some 1,some 4,some 2,some 3] (seqI (vW 11)) (.nm 0) noIf (tupW (zab (vW 0) (zab (zaw 5 (zay n) (zab (vW 1) (zab (vW 2) (zab (binW subD (vW 4) (kW (.int 1))) (zab (binW addD (vW 5) (valW (lstW (zab (vW 0) nilA)))) (zab (vW 3) nilA)))))) nilA))))))
  (retW (tupW (zab (vW 5) (zab (vW 9) (zab (vW 10) (zab (cbW zdw (zab (vW 12) nilA)) nilA)))))))))))))
def zaY:Fn:=fnW 5 ((retW (zaw 5 (zay 6) (zab (vW 0) (zab (vW 1) (zab (vW 2) (zab (valW (lstW nilA)) (zab (tupW (zab (vW 3) (zab (vW 4) nilA))) nilA))))))))
def zbu:Fn:=fnW 3 ((seqW (ifS (blW (zkP (zaw 3 zcx (zab (vW 0) (zab (vW 1) (zab (vW 2) nilA)))))) (retW (kW .non)) nilS)
  (retW (zaw 5 zaY (zab (vW 0) (zab (vW 1) (zab (vW 2) (zab (kW (.int 0)) (zab (kW (.int 0)) nilA)))))))))
def lsD (l:List Int):D:=.lst true (l.map D.int)
def okN (l:List Int) (h:Int):Bool:=l.isEmpty || decide (l.getLastD 0 < h)
def nxt (oN l:List Int):List Int:=oN.filter (okN l)
def zaF (oN:List Int):Nat->List (List Int)
 | 0=>[[]]
 | k + 1=>(zaF oN k).flatMap fun l=>(nxt oN l).map fun h=>l ++ [h]
def wt (oN l:List Int):Nat:=2 ^ (nxt oN l).length
theorem zkA:∀ s:List Int,s.Pairwise (· < ·)->(s.map fun h=>2 ^ (s.filter fun x=>decide (h < x)).length).sum + 1 = 2 ^ s.length
 | [],_=>rfl
 | x :: s,h=>by
  obtain ⟨h1,h2⟩:=YBJ.mp h
  have e1:(x :: s).filter (fun y=>decide (x < y)) = s:=by
   rw [YBi,if_neg (by simp)]
   exact YDc.mpr fun y hy=>YAS (h1 y hy)
  have e2:s.map (fun h=>2 ^ ((x :: s).filter fun y=>decide (h < y)).length) = s.map (fun h=>2 ^ (s.filter fun y=>decide (h < y)).length):=YA7 fun y hy=>by
   rw [YBi,if_neg (by have:=h1 y hy;simp;omega)]
  rw [YAf,YC6,e1,e2,YA2,Nat.pow_succ]
  have:=zkA s h2
  omega
def snocs (l:List Int):l = []\/∃ m a,l = m ++ [a]:=(List.eq_nil_or_concat l).imp id fun ⟨m,a,e⟩=>⟨m,a,by rw [e,List.concat_eq_append]⟩
def zc6 (l:List Int) (h:Int):(l ++ [h]).getLastD 0 = h:=by simp
def zid (l:List Int) (h x:Int):okN (l ++ [h]) x = decide (h < x):=by
 unfold okN;rw [zc6];simp
def zjL  (h1:okN l h = true) (h2:h < x):okN l x = true:=by
 unfold okN at h1 ⊢
 rw [Bool.or_eq_true] at h1 ⊢
 rcases h1 with e | e
 .exact .inl e
 .exact .inr (YAS (Int.lt_trans (YAV e) h2))
def zla  (hh:h ∈ nxt oN l):nxt oN (l ++ [h]) = (nxt oN l).filter fun x=>decide (h < x):=by
 unfold nxt
 rw [List.filter_filter]
 refine List.filter_congr fun x _=>?_
 rw [zid]
 have ho:=(YA3.mp hh).2
 by_cases z:h < x
 .rw [YAS z,zjL ho z];rfl
 .rw [YAY z];rfl
def zoi (u:oN.Pairwise (· < ·)) (l:List Int):(nxt oN l).Pairwise (· < ·):=u.filter _
def zoV (u:oN.Pairwise (· < ·)) (l:List Int):(((nxt oN l).map fun h=>l ++ [h]).map (wt oN)).sum + 1 = wt oN l:=by
 rw [YAF]
 have:=zkA _ (zoi u l)
 unfold wt
 rw [<- this]
 congr 2
 refine YA7 fun h hh=>?_
 show 2 ^ (nxt oN (l ++ [h])).length = _
 rw [zla hh]
theorem zim {α β:Type} (f:α->List β) (w:β->Nat):∀ xs:List α,((xs.flatMap f).map w).sum = (xs.map fun x=>((f x).map w).sum).sum
 | []=>rfl
 | x :: xs=>by rw [YCl,YAv,List.sum_append,zim f w xs,YAf,YC6]
theorem zl1 {α:Type} {f g:α->Nat}:∀ {xs:List α},(∀ x ∈ xs,f x <= g x)->(xs.map f).sum <= (xs.map g).sum
 | [],_=>YAl _
 | x :: xs,h=>by
  rw [YAf,YAf,YC6,YC6]
  exact Nat.add_le_add (h x YAi) (zl1 fun y hy=>h y (YAn _ hy))
theorem zhP {oN:List Int} (u:oN.Pairwise (· < ·)):∀ k,((zaF oN k).map (wt oN)).sum <= 2 ^ oN.length
 | 0=>by
  have:nxt oN [] = oN:=YDc.mpr fun x _=>rfl
  show (2 ^ (nxt oN []).length) + 0 <= _
  rw [this];exact YAl _
 | k + 1=>by
  refine YAZ ?_ (zhP u k)
  show (((zaF oN k).flatMap fun l=>(nxt oN l).map fun h=>l ++ [h]).map (wt oN)).sum <= _
  rw [zim]
  exact zl1 (f:=fun l=>(((nxt oN l).map fun h=>l ++ [h]).map (wt oN)).sum) (g:=wt oN) fun l _=>by have:=zoV u l;show _ <= _;omega
theorem zfy {α:Type} {f:α->Nat}:∀ {xs:List α},(∀ x ∈ xs,1 <= f x)->xs.length <= (xs.map f).sum
 | [],_=>YAl _
 | x :: xs,h=>by
  rw [YAf,YC6,YA2]
  have:=h x YAi
  have:=zfy fun y hy=>h y (YAn x hy)
  omega
def zgQ {oN:List Int} (u:oN.Pairwise (· < ·)) (k:Nat):(zaF oN k).length <= 2 ^ oN.length:=
 YAZ (zfy fun l _=>Nat.one_le_two_pow) (zhP u k)
def up_snoc  : (l ++ [h]).Pairwise (· < ·) ↔ l.Pairwise (· < ·)/\okN l h = true:=by
 rcases snocs l with rfl | ⟨m,a,rfl⟩
 .simp [okN]
 .rw [YBN,zid,YCj]
  constructor
  .rintro ⟨h1,_,h3⟩
   exact ⟨h1,h3 a (by simp) h (by simp)⟩
  .rintro ⟨h1,h2⟩
   refine ⟨h1,List.pairwise_singleton _ _,fun x hx y hy=>?_⟩
   rw [YAg.mp hy]
   rcases YAm.mp hx with e | e
   .exact Int.lt_trans ((YBN.mp h1).2.2 x e a (by simp)) h2
   .rw [YAg.mp e];exact h2
theorem mem_lists:∀ {k:Nat} {l:List Int},l ∈ zaF oN k ↔ l.length = k/\l.Pairwise (· < ·)/\∀ h ∈ l,h ∈ oN
 | 0,l=>by
  unfold zaF
  constructor
  .intro h;rw [YAg.mp h];exact ⟨rfl,List.Pairwise.nil,fun h z=>by cases z⟩
  .rintro ⟨h,_⟩;rw [List.length_eq_zero_iff.mp h];exact YAg.mpr rfl
 | k + 1,l=>by
  unfold zaF
  rw [YB4]
  constructor
  .rintro ⟨m,hm,hl⟩
   obtain ⟨h,hh,rfl⟩:=YAB.mp hl
   obtain ⟨e1,e2,e3⟩:=mem_lists.mp hm
   obtain ⟨e4,e5⟩:=YA3.mp hh
   refine ⟨by simp [e1],up_snoc.mpr ⟨e2,e5⟩,fun x hx=>?_⟩
   rcases YAm.mp hx with e | e
   .exact e3 x e
   .rw [YAg.mp e];exact e4
  .rintro ⟨e1,e2,e3⟩
   rcases snocs l with rfl | ⟨m,a,rfl⟩
   .cases e1
   .obtain ⟨e4,e5⟩:=up_snoc.mp e2
    refine ⟨m,mem_lists.mpr ⟨by simpa using e1,e4,fun h hh=>e3 h (YAx _ hh)⟩,YAB.mpr ⟨a,YA3.mpr ⟨e3 a (by simp),e5⟩,rfl⟩⟩
theorem zgH {α:Type}    (M:Nat) (emb:α->D) (f:α->List D):∀ (xs:List α) (acc:List D),
  (∀ x ∈ xs,∀ (R:List D->Prop) (acc:List D),acc.length <= M->R (acc ++ f x)->gD t (emb x) Zc fun Z2=>I2 Z2 fun ys=>acc.length + ys.length <= 100000/\za7 t2 C E Z2 R ys acc) ->
  acc.length + (xs.flatMap f).length <= M->Q (acc ++ xs.flatMap f)->zcF t I2 t2 C E Zc Q (xs.map emb) acc
 | [],acc,_,_,q=>by simpa [zcF] using q
 | x :: xs,acc,h,hl,q=>by
  rw [YCl,YAw] at hl
  refine h x YAi _ acc (by omega) ?_
  refine zgH M emb f xs _ (fun y hy=>h y (YAn _ hy)) (by rw [YAw];omega) ?_
  rw [YCl] at q
  rw [YAH];exact q
def zlX  (h:l ≠ []) (q:Q (.int (l.getLastD 0))):itD (l.map D.int) (.int (-1)) Q:=by
 rcases snocs l with rfl | ⟨m,a,rfl⟩
 .exact absurd rfl h
 rw [zc6] at q
 show (match atI ((m ++ [a]).map D.int) (-1) with | some d=>Q d | none=>False)
 have e:atI ((m ++ [a]).map D.int) (-1) = some (.int a):=by
  unfold atI ixN
  rw [if_neg (by decide),if_pos (by simp;omega),YCY,YAk]
  have:(-1 + (((m ++ [a]).map D.int).length:Int)).toNat = m.length:=by simp;omega
  rw [this];simp
 rw [e];exact q
def zdW (a:Bool) (oN:List Int) (k:Nat) (u:oN.Pairwise (· < ·)) (hh:oN.length <= 10) (hk:k <= 1000):zbn [.lst a (oN.map D.int),.int k] (· = .lst true ((zaF oN k).map lsD)):=by
 unfold zbn fnW zaP
 rw [YAf,YAf,zda,zav]
 refine ⟨by show 0 <= 100000;decide,by show 1 <= 100000;decide,⟨by omega,by omega⟩,?_⟩
 rw [YAE]
 refine zaO (fun rest Z=>∃ (j:Nat) (s3:Sl),Z = [.val (.lst false (oN.map D.int)),.val (.int k),.val (.lst true ((zaF oN j).map lsD)),s3]/\j + rest.length = k) ?_ ?_ _ _ ⟨0,.un,rfl,by rw [zaJ];omega⟩
 .rintro x rest Z E' hn hc hr hb ⟨j,s3,rfl,hj⟩
  rw [YA2] at hj
  have hp:2 ^ oN.length <= 1024:=YAZ (Nat.pow_le_pow_right (by decide) hh) (by decide)
  have hl:=zgQ u (j + 1)
  show zcF _ _ _ _ _ _ _ ((zaF oN j).map lsD) []
  refine zgH 1024 lsD (fun l=>(nxt oN l).map fun h=>lsD (l ++ [h])) (zaF oN j) [] (fun l hl R acc ha q=>?_) ?_ ?_
  .obtain ⟨l1,_,_⟩:=mem_lists.mp hl
   refine ⟨by rw [YAc];omega,zdb D.int (fun h=>if okN l h = true then some (lsD (l ++ [h])) else none) oN acc (fun h hh' oQ N y=>?_) ?_⟩
   .have yes:okN l h = true->binW addD (vW 0) (valW (lstW (zab (vW 1) nilA))) [.val (lsD l),.val (.int h),.val (.lst false (oN.map D.int))] oQ:=fun e=>by
     rw [if_pos e] at y
     refine ⟨by show 1 <= 100000;decide,by simp;omega,?_⟩
     have y:oQ (lsD (l ++ [h])):=y
     unfold lsD at y;rw [YAv] at y;exact y
    cases l with
    | nil=>exact yes rfl
    | cons b m=>
     refine zlX (by simp) ?_
     show if decide ((b :: m).getLastD 0 < h) = true then _ else _
     have e:okN (b :: m) h = decide ((b :: m).getLastD 0 < h):=rfl
     rw [<- e]
     cases z:okN (b :: m) h with
     | true=>exact yes z
     | false=>rw [z] at y;exact y
   .rw [zd0];exact q
  .rw [YC9,Nat.zero_add]
   have:((zaF oN j).flatMap fun l=>(nxt oN l).map fun h=>lsD (l ++ [h])) = (zaF oN (j + 1)).map lsD:=by
    show _ = ((zaF oN j).flatMap fun l=>(nxt oN l).map fun h=>l ++ [h]).map lsD
    rw [YDK];congr 1;funext l;rw [YAF];rfl
   rw [this,YAc];omega
  .have:((zaF oN j).flatMap fun l=>(nxt oN l).map fun h=>lsD (l ++ [h])) = (zaF oN (j + 1)).map lsD:=by
    show _ = ((zaF oN j).flatMap fun l=>(nxt oN l).map fun h=>l ++ [h]).map lsD
    rw [YDK];congr 1;funext l;rw [YAF];rfl
   rw [YBc,this]
   exact hn _ ⟨j + 1,.val x,rfl,by omega⟩
 .rintro Z ⟨j,s3,rfl,hj⟩
  rw [YC9] at hj
  rw [<- hj];rfl
noncomputable def hasH (rs:List Rn):Bool:=@decide (¬ Fen.zgL rs) (Classical.propDecidable _)
def hasH_t:hasH rs = true ↔ ¬ Fen.zgL rs:=by unfold hasH;exact @decide_eq_true_iff _ (Classical.propDecidable _)
def hasH_f:hasH rs = false ↔ Fen.zgL rs:=by
 constructor
 .intro h
  by_cases z:Fen.zgL rs
  .exact z
  .rw [hasH_t.mpr z] at h;cases h
 .intro h
  cases e:hasH rs with
  | false=>rfl
  | true=>exact absurd h (hasH_t.mp e)
def zjW  (h:Fen.zdU n rs hts):hasH rs = true:=hasH_t.mpr fun no=>no (Fen.gI hts) h.2.1
def zeh   (hm:Fen.zaA n rs) (hn:n <= 1000) (hl:rs.length <= 1000) (h0:hasH rs = false->Q .non) (h1:∀ hts,hasH rs = true->Fen.zdU n rs hts->Q (.lst true (hts.map D.int))):up zcW [.int n,.lst a (rs.map runD)] Q:=
 ⟨Q,⟨n,a,rs,rfl,hm,hn,hl,fun no=>h0 (hasH_f.mpr no),fun hts fo=>h1 hts (zjW fo) fo⟩,fun d z=>z⟩
structure FirstR (rs:List Rn) (c:Nat) (l:List Int):Prop where
 yes:hasH (zaD rs l) = true
 ex:∃ j,j < c/\(∀ i,i < j->∀ m ∈ zaF (zat rs) i,hasH (zaD rs m) = false)/\∃ done oO,zaF (zat rs) j = done ++ l :: oO/\∀ m ∈ done,hasH (zaD rs m) = false
def zo6 (rs:List Rn) (c:Nat):Prop:=∀ i,i < c->∀ m ∈ zaF (zat rs) i,hasH (zaD rs m) = false
def cntR (oK:Int) (rs:List Rn):Nat:=((if ((zat rs).length:Int) < oK then ((zat rs).length:Int) else oK) + 1).toNat
structure Few (n:Nat) (rs:List Rn):Prop where
 marks:Fen.zaA n rs
 n1:n <= 40
 len:rs.length < 64
 oN:(zat rs).length <= 10
def Few.left  (F:Few n rs) (l:List Int):Fen.zaA n (zaD rs l):=zkU (n:=n) F.marks l
def zhr (a:Bool) (n:Nat) (rs:List Rn) (oK:Int) (F:Few n rs) (m0:0 <= oK) (m1:oK <= 1000) :
  zcx [.int n,.lst a (rs.map runD),.int oK] (fun d=>(d = .non/\zo6 rs (cntR oK rs))\/∃ l hts,d = .tup [lsD l,.lst true (hts.map D.int)]/\FirstR rs (cntR oK rs) l/\Fen.zdU n (zaD rs l) hts):=by
 have hh:=F.oN
 have hl:=F.len
 have hn:=F.n1
 unfold zcx fnW zaP
 rw [YAf,YAf,YAf,za2,zav,zav]
 refine ⟨rfl,zbg (zcJ _ rs hl) fun d hd=>?_⟩
 subst hd
 have eL:(((zat rs).map D.int).length:Int) = ((zat rs).length:Int):=by rw [YAc]
 have hup:=zbP (rs.map Fen.Run.hand)
 change (zat rs).Pairwise (· < ·) at hup
 show (_/\_)/\zbv _ _ _ (rngL 0 ((if (((zat rs).map D.int).length:Int) < oK then (((zat rs).map D.int).length:Int) else oK) + 1).toNat) _
 rw [eL]
 have hc:cntR oK rs <= 11/\(cntR oK rs:Int) = (if ((zat rs).length:Int) < oK then ((zat rs).length:Int) else oK) + 1:=by
  unfold cntR
  split <;> constructor <;> omega
 refine ⟨⟨by omega,by omega⟩,?_⟩
 change zbv _ _ _ (rngL 0 (cntR oK rs)) _
 generalize cntR oK rs = c at hc
 refine zaO (fun rest Z=>∃ (j:Nat) (s4 s5 s6:Sl),Z = [.val (.int n),.val (.lst false (rs.map runD)),.val (.int oK),.val (.lst true ((zat rs).map D.int)),s4,s5,s6]/\j <= c/\rest = rngL j (c - j)/\∀ i,i < j->∀ m ∈ zaF (zat rs) i,hasH (zaD rs m) = false) ?_ ?_ _ _
  ⟨0,.un,.un,.un,rfl,by omega,rfl,fun i hi=>by omega⟩
 .rintro x rest Z E' hn' hc' hr hb ⟨j,s4,s5,s6,rfl,hj,er,hno⟩
  have hj2:j < c:=by
   rcases Nat.lt_or_ge j c with h | h
   .exact h
   .rw [Nat.sub_eq_zero_of_le h] at er;cases er
  obtain ⟨m,hm2⟩:∃ m,c - j = m + 1:=⟨c - j - 1,by omega⟩
  rw [hm2,zg6] at er
  injection er with er4 er5
  subst er4
  have er6:rest = rngL ((j + 1:Nat):Int) (c - (j + 1)):=by rw [er5,show c - (j + 1) = m by omega];rfl
  refine ⟨rfl,zbg (zdW _ (zat rs) j hup hh (by omega)) fun d hd=>?_⟩
  subst hd
  show zbv _ _ _ ((zaF (zat rs) j).map lsD) _
  refine zaO (fun rest Z=>∃ (done oO:List (List Int)) (s5 s6:Sl),Z = [.val (.int n),.val (.lst false (rs.map runD)),.val (.int oK),.val (.lst true ((zat rs).map D.int)),.val (.int j),s5,s6]/\rest = oO.map lsD/\zaF (zat rs) j = done ++ oO/\∀ m ∈ done,hasH (zaD rs m) = false) ?_ ?_ _ _
   ⟨[],_,s5,s6,rfl,rfl,rfl,fun m h=>by cases h⟩
  .rintro x2 rest2 Z E2 hn2 hc2 hr2 hb2 ⟨done,oO,s5,s6,rfl,e1,e2,e3⟩
   cases oO with
   | nil=>cases e1
   | cons l oO=>
    rw [YAf] at e1
    injection e1 with e1 e4
    subst e1
    refine ⟨rfl,zbg (zep false true rs l (by omega)) fun d hd=>?_⟩
    subst hd
    have ll:=zeI rs l
    refine ⟨rfl,zeh (F.left l) (by omega) (by omega) (fun h0=>?_) fun hts h1 fo=>?_⟩
    .refine hn2 _ ⟨done ++ [l],oO,_,_,rfl,e4,by rw [e2,YAH];rfl,fun m hm=>?_⟩
     rcases YAm.mp hm with e | e
     .exact e3 m e
     .rw [YAg.mp e];exact h0
    .refine ⟨by show 2 <= 100000;decide,hr2 _ (hr _ (.inr ⟨l,hts,rfl,⟨h1,j,hj2,hno,done,oO,e2,e3⟩,fo⟩))⟩
  .rintro Z ⟨done,oO,s5,s6,rfl,e1,e2,e3⟩
   cases oO with
   | cons l oO=>cases e1
   | nil=>
    rw [YAP] at e2
    refine hn' _ ⟨j + 1,_,_,_,rfl,by omega,er6,fun i hi m hm=>?_⟩
    rcases Nat.lt_or_ge i j with h | h
    .exact hno i h m hm
    .have:i = j:=by omega
     subst this
     rw [e2] at hm;exact e3 m hm
 .rintro Z ⟨j,s4,s5,s6,rfl,hj,er,hno⟩
  have hj:j = c:=by
   have:=congrArg List.length er
   rw [zaJ] at this
   have:c - j = 0:=by simpa using this.symm
   omega
  subst hj
  exact .inl ⟨rfl,hno⟩
noncomputable def setsR (rs:List Rn) (c:Nat):List (List Int):=((List.range c).flatMap (zaF (zat rs))).filter fun l=>hasH (zaD rs l)
def zdS (rs:List Rn) (j:Nat):setsR rs (j + 1) = setsR rs j ++ (zaF (zat rs) j).filter fun l=>hasH (zaD rs l):=by
 unfold setsR
 rw [YCK,YDd,YCa];simp
theorem zdh (u:(zat rs).Pairwise (· < ·)) (hh:(zat rs).length <= 10):∀ c,(setsR rs c).length <= c * 1024
 | 0=>by simp [setsR]
 | c + 1=>by
  rw [zdS,YAw]
  have:=zdh u hh c
  have h1:=zgQ u c
  have h2:2 ^ (zat rs).length <= 1024:=YAZ (Nat.pow_le_pow_right (by decide) hh) (by decide)
  have h3:=YB9 (fun l=>hasH (zaD rs l)) (zaF (zat rs) c)
  omega
def zem (rs:List Rn):(zat rs).Pairwise (· < ·):=zbP _
def zcU (a:Bool) (n:Nat) (rs:List Rn) (oK:Int) (F:Few n rs) (m0:0 <= oK) (m1:oK <= 1000) :
  zaV [.int n,.lst a (rs.map runD),.int oK] (· = .lst true ((setsR rs (cntR oK rs)).map lsD)):=by
 have hh:=F.oN
 have hl:=F.len
 have hn:=F.n1
 have hup:=zem rs
 unfold zaV fnW zaP
 rw [YAf,YAf,YAf,za2,zav,zav]
 refine ⟨rfl,zbg (zcJ _ rs hl) fun d hd=>?_⟩
 subst hd
 have eL:(((zat rs).map D.int).length:Int) = ((zat rs).length:Int):=by rw [YAc]
 refine ⟨by show 0 <= 100000;decide,?_⟩
 show (_/\_)/\zbv _ _ _ (rngL 0 ((if (((zat rs).map D.int).length:Int) < oK then (((zat rs).map D.int).length:Int) else oK) + 1).toNat) _
 rw [eL]
 have hc:cntR oK rs <= 11/\(cntR oK rs:Int) = (if ((zat rs).length:Int) < oK then ((zat rs).length:Int) else oK) + 1:=by
  unfold cntR
  split <;> constructor <;> omega
 refine ⟨⟨by omega,by omega⟩,?_⟩
 change zbv _ _ _ (rngL 0 (cntR oK rs)) _
 generalize cntR oK rs = c at hc
 refine zaO (fun rest Z=>∃ (j:Nat) (s5 s6:Sl),Z = [.val (.int n),.val (.lst false (rs.map runD)),.val (.int oK),.val (.lst true ((zat rs).map D.int)),.own ((setsR rs j).map lsD),s5,s6]/\j <= c/\rest = rngL j (c - j)) ?_ ?_ _ _
  ⟨0,.un,.un,rfl,by omega,rfl⟩
 .rintro x rest Z E' hn' hc' hr hb ⟨j,s5,s6,rfl,hj,er⟩
  have hj2:j < c:=by
   rcases Nat.lt_or_ge j c with h | h
   .exact h
   .rw [Nat.sub_eq_zero_of_le h] at er;cases er
  obtain ⟨m,hm2⟩:∃ m,c - j = m + 1:=⟨c - j - 1,by omega⟩
  rw [hm2,zg6] at er
  injection er with er4 er5
  subst er4
  have er6:rest = rngL ((j + 1:Nat):Int) (c - (j + 1)):=by rw [er5,show c - (j + 1) = m by omega];rfl
  refine ⟨rfl,zbg (zdW _ (zat rs) j hup hh (by omega)) fun d hd=>?_⟩
  subst hd
  show zbv _ _ _ ((zaF (zat rs) j).map lsD) _
  have hz:=zdh hup hh (j + 1)
  rw [zdS,YAw] at hz
  refine zaO (fun rest Z=>∃ (done oO:List (List Int)) (s6:Sl),Z = [.val (.int n),.val (.lst false (rs.map runD)),.val (.int oK),.val (.lst true ((zat rs).map D.int)),.own ((setsR rs j ++ done.filter fun l=>hasH (zaD rs l)).map lsD),.val (.int j),s6]/\rest = oO.map lsD/\zaF (zat rs) j = done ++ oO) ?_ ?_ _ _
   ⟨[],_,s6,by rw [YDU,YAP];rfl,rfl,rfl⟩
  .rintro x2 rest2 Z E2 hn2 hc2 hr2 hb2 ⟨done,oO,s6,rfl,e1,e2⟩
   cases oO with
   | nil=>cases e1
   | cons l oO=>
    rw [YAf] at e1
    injection e1 with e1 e4
    subst e1
    refine ⟨rfl,zbg (zep false true rs l (by omega)) fun d hd=>?_⟩
    subst hd
    have ll:=zeI rs l
    refine ⟨rfl,zeh (F.left l) (by omega) (by omega) (fun h0=>?_) fun hts h1 fo=>?_⟩
    .refine hn2 _ ⟨done ++ [l],oO,.val (lsD l),?_,e4,by rw [e2,YAH];rfl⟩
     rw [YCa,YBi,if_neg (by rw [h0];decide),YDU,YAP];rfl
    .have hz2:(setsR rs j ++ done.filter fun l=>hasH (zaD rs l)).length < 100000:=by
      rw [e2,YCa,YAw] at hz
      rw [YAw]
      omega
     refine ⟨by rw [YAc];exact hz2,hn2 _ ⟨done ++ [l],oO,.val (lsD l),?_,e4,by rw [e2,YAH];rfl⟩⟩
     rw [YCa,YBi,if_pos h1,YDU,<- YAH];simp only [YAv];rfl
  .rintro Z ⟨done,oO,s6,rfl,e1,e2⟩
   cases oO with
   | cons l oO=>cases e1
   | nil=>
    rw [YAP] at e2
    refine hn' _ ⟨j + 1,.val (.int j),s6,?_,by omega,er6⟩
    rw [zdS,e2]
 .rintro Z ⟨j,s5,s6,rfl,hj,er⟩
  have hj:j = c:=by
   have:=congrArg List.length er
   rw [zaJ] at this
   have:c - j = 0:=by simpa using this.symm
   omega
  subst hj
  rfl
def zj7  (u:l.Pairwise (· < ·)) (hs:∀ h ∈ l,h ∈ zat rs) (hl:(l.length:Int) <= oK):∃ j,j < cntR oK rs/\l ∈ zaF (zat rs) j:=by
 refine ⟨l.length,?_,mem_lists.mpr ⟨rfl,u,hs⟩⟩
 have:l.length <= (zat rs).length:=L2.zaQ (zhW u) hs
 unfold cntR
 split <;> omega
def zj8  (W:Wd mm mh mr size rs hts fs):(zat rs).length <= 10:=by
 have:∀ h ∈ zat rs,h ∈ (List.range 10).map Int.ofNat:=fun h hh=>by
  obtain ⟨r,hr,rfl⟩:=YAB.mp ((za5 _ _).mp hh)
  obtain ⟨h0,h1⟩:=W.hand r hr
  exact YAB.mpr ⟨r.hand.toNat,YAW.mpr (by omega),by show ((r.hand.toNat:Nat):Int) = _;omega⟩
 have:=L2.zaQ (zhW (zem rs)) this
 simpa using this
def Wd.fewN {mm mh mr:Int} {n:Nat} {rs:List Rn} {hts fs:List Int} (W:Wd mm mh mr n rs hts fs) (h1:mm <= 40) (h2:mr < 64):Few n rs:=
 ⟨W.marks,by have:=W.s2;omega,by have:=W.few;omega,zj8 W⟩
def mem_sets {rs:List Rn} {c:Nat} {l:List Int}:l ∈ setsR rs c ↔ (∃ j,j < c/\l ∈ zaF (zat rs) j)/\hasH (zaD rs l) = true:=by
 unfold setsR
 rw [YA3,YB4]
 constructor
 .rintro ⟨⟨j,h1,h2⟩,h3⟩;exact ⟨⟨j,YAW.mp h1,h2⟩,h3⟩
 .rintro ⟨⟨j,h1,h2⟩,h3⟩;exact ⟨⟨j,YAW.mpr h1,h2⟩,h3⟩
noncomputable def zm5 (n:Nat):WS:=(seqW (asgW (.tp 2 (.cons (.nm 9) (.cons (.nm 10) .nil))) (vW 6))
  (seqW (asgW (.nm 11) (ifW (blW (binW gtD (vW 2) (kW (.int 0)))) (zaw 2 zbd (zab (vW 1) (zab (vW 10) nilA))) (valW (lstW nilA))))
  (seqW (asgW (.nm 12) (valW (zaI [none,some 0,some 1,some 4,some 2,some 3] (seqI (vW 11)) (.nm 0) noIf (tupW (zab (vW 0) (zab (zaw 5 (zay n) (zab (vW 1) (zab (vW 2) (zab (binW subD (vW 4) (kW (.int 1))) (zab (binW addD (vW 5) (valW (lstW (zab (vW 0) nilA)))) (zab (vW 3) nilA)))))) nilA))))))
  (retW (tupW (zab (vW 5) (zab (vW 9) (zab (vW 10) (zab (cbW zdw (zab (vW 12) nilA)) nilA)))))))))
def All2 {α:Type} (R:α->D->Prop):List α->List D->Prop
 | [],[]=>True
 | x :: xs,d :: ds=>R x d/\All2 R xs ds
 | _,_=>False
theorem zfl {α:Type}   (emb:α->D) (R:α->D->Prop):∀ (xs:List α) (acc:List D),(∀ x ∈ xs,∀ oQ:D->Prop,(∀ d,R x d->oQ d)->gD t (emb x) Zc fun Z2=>C Z2 fun b=>b = true/\E Z2 oQ) ->
  zct C->(∀ ds:List D,All2 R xs ds->Q (acc ++ ds))->za7 t C E Zc Q (xs.map emb) acc
 | [],acc,_,_,q=>by simpa [za7] using q [] trivial
 | x :: xs,acc,h,mC,q=>by
  show gD t (emb x) Zc fun Z2=>C Z2 fun b=>if b = true then E Z2 fun d=>za7 t C E Zc Q (xs.map emb) (acc ++ [d]) else za7 t C E Zc Q (xs.map emb) acc
  refine zaW t (emb x) Zc (fun Z2 z=>mC Z2 _ _ (fun b z=>?_) z) (h x YAi (fun d=>za7 t C E Zc Q (xs.map emb) (acc ++ [d])) fun d hd=>?_)
  .rw [z.1,if_pos rfl];exact z.2
  .refine zfl emb R xs (acc ++ [d]) (fun x' hx'=>h x' (YAn _ hx')) mC fun ds hds=>?_
   have:=q (d :: ds) ⟨hd,hds⟩
   rw [YAH];exact this
def zd3 (rs:List Rn) (line:List Int):List Int:=zat (line.map (Fen.runAt rs))
def headIs (n:Nat) (rs:List Rn) (one oJ:Int) (oM:List Int) (kind:Str) (mark:Int) (line:List Int):Prop:=
 (kind = "ring" /\ Fen.RingIs n rs oM (some (mark,line)))\/(kind = "line" /\ mark = one/\Fen.RingIs n rs oM none/\Fen.LineIs n rs oM one oJ (some line))
noncomputable def zbS (n:Nat) (rs:List Rn) (one oJ:Int):Nat->List Int->D->Prop
 | 0,oM,d=>∃ kind mark line,headIs n rs one oJ oM kind mark line/\d = .tup [.str kind,.int mark,.tup (line.map D.int),.tup []]
 | k + 1,oM,d=>∃ kind mark line ds,headIs n rs one oJ oM kind mark line/\All2 (fun h p=>∃ q,p = .tup [.int h,q]/\zbS n rs one oJ k (oM ++ [h]) q) (zd3 rs line) ds/\d = .tup [.str kind,.int mark,.tup (line.map D.int),.tup ds]
structure Few2 (n:Nat) (rs:List Rn):Prop extends Few n rs where
 apart:∀ r ∈ rs,r.one ≠ r.oJ
def zjx  (h:Fen.RingIs n rs hs none):hasH (zaD rs hs) = true:=by
 obtain ⟨K,H,ts,a,e⟩:=h
 have key:=Fen.zfe e.symm
 refine hasH_t.mpr fun no=>no (fun i=>(Fen.zbm ((Fen.za8 ts).map Fen.za9) i).2.1) fun r hr=>?_
 obtain ⟨h1,h2⟩:=YA3.mp hr
 exact key r h1 (by simpa using h2)
theorem headIs.line {n:Nat} {rs:List Rn} {one oJ:Int} {oM:List Int} {kind:Str} {mark:Int} {line:List Int} (F:Few2 n rs) (h:headIs n rs one oJ oM kind mark line) :
  line.Nodup/\(∀ z ∈ line,0 <= z/\z < (rs.length:Int)/\oM.contains (Fen.runAt rs z).hand = false):=by
 rcases h with ⟨_,h⟩ | ⟨_,_,_,h⟩
 .obtain ⟨_,_,_,_,a,b,_⟩:=h.some F.marks F.n1 F.apart
  exact ⟨a,b⟩
 .obtain ⟨_,a,b,_⟩:=h.some
  exact ⟨a,b⟩
def zlg {rs:List Rn} {line:List Int} (hl:rs.length < 64) (nd:line.Nodup) (hb:∀ z ∈ line,0 <= z/\z < (rs.length:Int)):line.length < 64:=by
 have:=L2.zaQ (xs:=(List.range rs.length).map Int.ofNat) nd fun z hz=>by
  obtain ⟨a,b⟩:=hb z hz
  exact YAB.mpr ⟨z.toNat,YAW.mpr (by omega),by show ((z.toNat:Nat):Int) = _;omega⟩
 rw [YAc,YBe] at this;omega
def zk6  (h0:0 <= z) (h1:z < (rs.length:Int)) (q:Q (runD (Fen.runAt rs z))):itD (rs.map runD) (.int z) Q:=by
 show (match atI (rs.map runD) z with | some d=>Q d | none=>False)
 have hn:z.toNat < rs.length:=by omega
 have e:Fen.runAt rs z = rs[z.toNat]:=by unfold Fen.runAt;rw [YAC,YAd hn];rfl
 unfold atI ixN
 rw [if_pos h0,YAc,if_pos h1,YCY,YAk,YAd hn]
 rw [e] at q;exact q
def ze1 (a:Bool) (rs:List Rn) (line:List Int) (hl:line.length < 64) (hb:∀ z ∈ line,0 <= z/\z < (rs.length:Int)):zbd [.lst a (rs.map runD),.tup (line.map D.int)] (· = .lst true ((zd3 rs line).map D.int)):=by
 unfold zbd fnW zaP
 rw [YAf,YAf,za2,zkr]
 refine ⟨by simp;omega,zbV D.int (fun z=>runD (Fen.runAt rs z)) line (fun z hz oQ N y=>zk6 (hb z hz).1 (hb z hz).2 y) ?_⟩
 rw [show (line.map fun z=>runD (Fen.runAt rs z)) = (line.map (Fen.runAt rs)).map runD by rw [YAF];rfl]
 refine ⟨rfl,zbg (zcJ _ (line.map (Fen.runAt rs)) (by simpa using hl)) fun d hd=>?_⟩
 subst hd;rfl
def zkY   (F:Few n rs) (k:∀ o,Fen.RingIs n rs hs o->Q (zpc o)):up zcg [.int n,.lst a (rs.map runD),.lst b (hs.map D.int)] Q:=
 ⟨Q,⟨n,a,b,rs,hs,rfl,F.marks,F.n1,by have:=F.len;omega,k⟩,fun d z=>z⟩
def zk7 {n:Nat} {a b:Bool} {rs:List Rn} {hs:List Int} {one oJ:Int} {Q:D->Prop} (F:Few n rs) (h0:0 <= one) (h1:one < n) (k:∀ o,Fen.LineIs n rs hs one oJ o->Q (zoU o)):up zce [.int n,.lst a (rs.map runD),.lst b (hs.map D.int),.int one,.int oJ] Q:=
 ⟨Q,⟨n,a,b,rs,hs,one,oJ,rfl,F.marks,h0,h1,by have:=F.n1;omega,by have:=F.len;omega,k⟩,fun d z=>z⟩
def GoodS (rs:List Rn) (one oJ:Int) (oM:List Int) (oK:Nat):Prop:=
 ∀ ext:List Int,ext.length <= oK->(∀ h ∈ ext,h ∈ zat rs)->hasH (zaD rs (oM ++ ext)) = true->Fen.Conn (zaD rs (oM ++ ext)) one oJ
def GoodS.next   (g:GoodS rs one oJ oM (k + 1)) (hh:h ∈ zat rs):GoodS rs one oJ (oM ++ [h]) k:=fun ext hl he=>by
 have:=g (h :: ext) (by rw [YA2];omega) (fun x hx=>(YAs.mp hx).elim (fun e=>e ▸ hh) (he x))
 rw [YAH];exact this
def ziT  (hb:∀ z ∈ line,0 <= z/\z < (rs.length:Int)) (hh:h ∈ zd3 rs line):h ∈ zat rs:=by
 obtain ⟨r,hr,rfl⟩:=YAB.mp ((za5 _ _).mp hh)
 obtain ⟨z,hz,rfl⟩:=YAB.mp hr
 obtain ⟨z0,z1⟩:=hb z hz
 have hn:z.toNat < rs.length:=by omega
 have e:Fen.runAt rs z = rs[z.toNat]:=by unfold Fen.runAt;rw [YAC,YAd hn];rfl
 rw [e]
 exact (za5 _ _).mpr (YAO (YCs hn))
def zhR {n:Nat} {rs:List Rn} {one oJ:Int} {N oK:Nat} {oM:List Int} {kind:Str} {mark:Int} {line:List Int} {s7 s8:Sl} {b:Bool} {nx bk ct:Env->Prop} (F:Few2 n rs) (hs:oM.length + oK <= 1000) (hd:headIs n rs one oJ oM kind mark line)
  (ih:∀ k,oK = k + 1->∀ h ∈ zd3 rs line,zay N [.int n,.lst false (rs.map runD),.int k,.lst true ((oM ++ [h]).map D.int),.tup [.int one,.int oJ]] (zbS n rs one oJ k (oM ++ [h]))) :
  zm5 N { nx:=nx,rt:=zbS n rs one oJ oK oM,bk:=bk,ct:=ct } [.val (.int n),.val (.lst false (rs.map runD)),.val (.int oK),.val (.lst b (oM.map D.int)),.val (.tup [.int one,.int oJ]),.val (.str kind),.val (.tup [.int mark,.tup (line.map D.int)]),s7,s8,.un,.un,.un,.un]:=by
 obtain ⟨nd,hb⟩:=hd.line F
 have hb':∀ z ∈ line,0 <= z/\z < (rs.length:Int):=fun z hz=>⟨(hb z hz).1,(hb z hz).2.1⟩
 have hll:=zlg F.len nd hb'
 refine ⟨rfl,?_⟩
 cases oK with
 | zero=>
  refine ⟨by show 0 <= 100000;decide,by show 0 <= 100000;decide,by show 4 <= 100000;decide,?_⟩
  exact ⟨kind,mark,line,hd,rfl⟩
 | succ k=>
  show if decide ((0:Int) < ((k + 1:Nat):Int)) = true then _ else _
  rw [YAS (by omega),if_pos rfl]
  refine ⟨rfl,zbg (ze1 false rs line hll hb') fun d hd'=>?_⟩
  subst hd'
  have lh:(zd3 rs line).length <= 64:=by
   have:=zdA ((line.map (Fen.runAt rs)).map Fen.Run.hand)
   rw [YAc,YAc] at this
   unfold zd3 zat;omega
  refine ⟨by rw [YAc];omega,zfl D.int (fun h p=>∃ q,p = .tup [.int h,q]/\zbS n rs one oJ k (oM ++ [h]) q) (zd3 rs line) [] (fun h hh oQ y=>?_) zbD fun ds hds=>?_⟩
  .refine ⟨rfl,by show 1 <= 100000;decide,by simp;omega,rfl,?_⟩
   have:=ih k rfl h hh
   rw [YAv] at this
   rw [show ((k + 1:Nat):Int) - 1 = (k:Int) by omega]
   refine zbg this fun q hq=>⟨by show 2 <= 100000;decide,y _ ⟨q,rfl,hq⟩⟩
  .rw [YBc]
   refine ⟨by show 4 <= 100000;decide,kind,mark,line,ds,hd,hds,rfl⟩
theorem zg4 (n:Nat) (rs:List Rn) (one oJ:Int) (F:Few2 n rs) (h0:0 <= one) (h1:one < n):∀ (oK:Nat) (N:Nat) (a b:Bool) (oM:List Int),oK < N->oM.length + oK <= 1000->GoodS rs one oJ oM oK ->
  zay N [.int n,.lst a (rs.map runD),.int oK,.lst b (oM.map D.int),.tup [.int one,.int oJ]] (zbS n rs one oJ oK oM)
 | oK,N + 1,a,b,oM,hN,hs,g=>by
  unfold zay fnW zaP
  rw [YAf,YAf,YAf,YAf,YAf,za2,zda,zlU,zav,zav,zav,zav]
  have ih:∀ {kind:Str} {mark:Int} {line:List Int},headIs n rs one oJ oM kind mark line->∀ k,oK = k + 1->∀ h ∈ zd3 rs line,zay N [.int n,.lst false (rs.map runD),.int k,.lst true ((oM ++ [h]).map D.int),.tup [.int one,.int oJ]] (zbS n rs one oJ k (oM ++ [h])):=fun hd k hk h hh=>by
   subst hk
   have hb:=(hd.line F).2
   exact zg4 n rs one oJ F h0 h1 k N false true (oM ++ [h]) (by omega) (by simp;omega) (g.next (ziT (fun z hz=>⟨(hb z hz).1,(hb z hz).2.1⟩) hh))
  refine ⟨rfl,zkY F.toFew fun o ho=>?_⟩
  cases o with
  | some ml=>
   have hd:headIs n rs one oJ oM "ring" ml.1 ml.2:=.inl ⟨rfl,ho⟩
   exact zhR F hs hd (ih hd)
  | none=>
   refine ⟨rfl,rfl,zk7 F.toFew h0 h1 fun o hl=>?_⟩
   have c:=g [] (YAD _) (fun h z=>by cases z)
   rw [YAP] at c
   have c:=c (zjx ho)
   cases o with
   | none=>exact absurd (zgN rs oM ▸ c) (hl.none_iff.mp rfl)
   | some line=>
    have hd:headIs n rs one oJ oM "line" one line:=.inr ⟨rfl,rfl,ho,hl⟩
    refine ⟨by show 2 <= 100000;decide,?_⟩
    exact zhR F hs hd (ih hd)
def zcX (a:Bool) (n:Nat) (rs:List Rn) (one oJ:Int) (oK:Nat) (F:Few2 n rs) (h0:0 <= one) (h1:one < n) (hm:oK <= 5) (g:GoodS rs one oJ [] oK):zaY [.int n,.lst a (rs.map runD),.int oK,.int one,.int oJ] (zbS n rs one oJ oK []):=by
 unfold zaY fnW zaP
 rw [YAf,YAf,YAf,YAf,YAf,za2,zav,zav,zav,zav]
 refine ⟨by show 0 <= 100000;decide,by show 2 <= 100000;decide,rfl,?_⟩
 exact zbg (zg4 n rs one oJ F h0 h1 oK 6 false true [] (by omega) (by simp;omega) g) fun d hd=>hd
def zdN (rs:List Rn) (l:List Int):zaD rs (zbB l) = zaD rs l:=by
 unfold zaD
 refine List.filter_congr fun r _=>?_
 congr 1
 rw [YCw,YBh,YBh]
 exact za5 l r.hand
def zjc  (hs:∀ h ∈ l,h ∈ zat rs) (hl:(l.length:Int) <= oK):∃ j,j < cntR oK rs/\zbB l ∈ zaF (zat rs) j:=
 zj7 (zbP l) (fun h hh=>hs h ((za5 l h).mp hh)) (by have:=zdA l;omega)
def ze9 (a:Bool) (n:Nat) (rs:List Rn) (oK:Nat) (F:Few2 n rs) (n0:0 < n) (hm:oK <= 5):zbu [.int n,.lst a (rs.map runD),.int oK] (fun d=>(d = .non/\∃ l,FirstR rs (cntR oK rs) l)\/(zo6 rs (cntR oK rs)/\zbS n rs 0 0 oK [] d)):=by
 unfold zbu fnW zaP
 rw [YAf,YAf,YAf,za2,zav,zav]
 refine ⟨rfl,zbg (zhr _ n rs oK F.toFew (by omega) (by omega)) fun d hd=>?_⟩
 rcases hd with ⟨rfl,no⟩ | ⟨l,hts,rfl,fi,fo⟩
 .refine ⟨rfl,zbg (zcX _ n rs 0 0 oK F (by omega) (by omega) hm ?_) fun d hd=>.inr ⟨no,hd⟩⟩
  intro ext hl he hy
  obtain ⟨j,hj,hm⟩:=zjc he (by omega:(ext.length:Int) <= oK)
  have:=no j hj _ hm
  rw [zdN] at this
  rw [YBc,this] at hy;cases hy
 .exact .inl ⟨rfl,l,fi⟩
def zdc:Fn:=fnW 7 ((seqW (ownW 4 (zfF (vW 2)))
  (seqW (forW (seqI (zaw 2 zcR (zab (vW 0) (zab (vW 1) nilA)))) (.nm 5) (ifS (blW (binW (inD false) (vW 3) (vW 5))) (forW (seqI (vW 5)) (.nm 6) (zfk 4 (vW 6) (kW (.int 1)))) nilS))
  (frzW 4 (retW (vW 4))))))
noncomputable def zaB:Fn:=fnW 8 ((seqW (ownW 4 (lstW nilA))
  (seqW (forW (seqI (zaw 3 zaV (zab (vW 0) (zab (vW 1) (zab (vW 2) nilA))))) (.nm 5) (seqW (asgW (.nm 6) (zaw 2 zcz (zab (vW 1) (zab (vW 5) nilA))))
  (seqW (asgW (.nm 7) (zaw 2 zcW (zab (vW 0) (zab (vW 6) nilA))))
  (seqW (appW 4 (tupW (zab (valW (zfF (vW 5))) (zab (vW 7) nilA))))
  (appW 4 (tupW (zab (valW (zfF (vW 5))) (zab (zaw 4 zdc (zab (vW 0) (zab (vW 6) (zab (vW 7) (zab (vW 3) nilA))))) nilA))))))))
  (frzW 4 (retW (vW 4))))))
def zaR:Fn:=fnW 3 ((retW (binW subD (ixvW 0 (vW 2)) (ixvW 0 (vW 1)))))
noncomputable def zd6:Fn:=fnW 11 ((seqW (asgW (.nm 5) (zaw 4 zaB (zab (vW 0) (zab (vW 1) (zab (vW 2) (zab (vW 4) nilA))))))
  (seqW (ifS (notT (truW (vW 5))) (retW (tupW (zab (kW (.str "none")) (zab (zaw 3 zbu (zab (vW 0) (zab (vW 1) (zab (vW 2) nilA)))) nilA)))) nilS)
  (seqW (asgW (.tp 2 (.cons (.nm 6) (.cons (.nm 7) .nil))) (ixvW 5 (kW (.int 0))))
  (seqW (asgW (.nm 8) (zaw 3 zaR (zab (vW 7) (zab (vW 3) (zab (vW 4) nilA)))))
  (seqW (forW (seqI (vW 5)) (.tp 2 (.cons (.nm 9) (.cons (.nm 10) .nil))) (ifS (blW (binW neD (zaw 3 zaR (zab (vW 10) (zab (vW 3) (zab (vW 4) nilA)))) (vW 8))) (retW (tupW (zab (kW (.str "open")) (zab (tupW (zab (vW 6) (zab (vW 7) nilA))) (zab (tupW (zab (vW 9) (zab (vW 10) nilA))) nilA))))) nilS))
  (retW (tupW (zab (kW (.str "sure")) (zab (vW 8) (zab (zaw 5 zaY (zab (vW 0) (zab (vW 1) (zab (vW 2) (zab (vW 3) (zab (vW 4) nilA)))))) nilA)))))))))))
structure LiftOk (n:Nat) (rs:List Rn) (mark:Int) (h h':List Int):Prop where
 len:h'.length = n
 yes:∀ i:Int,0 <= i->i < n->Fen.Conn rs mark i->Fen.gI h' i = Fen.gI h i + 1
 no:∀ i:Int,0 <= i->i < n->¬ Fen.Conn rs mark i->Fen.gI h' i = Fen.gI h i
def zfo   (hm:Fen.zaA n rs) (hn:n <= 60) (hl:rs.length <= 1000) (k:∀ gs,Fen.zib n rs gs->Q (.lst true (gs.map fun g=>.lst true (g.map D.int)))):up zcR [.int n,.lst a (rs.map runD)] Q:=
 ⟨Q,⟨n,a,rs,rfl,hm,hn,hl,k⟩,fun d z=>z⟩
def zi3 (a b:Bool) (n:Nat) (rs:List Rn) (h:List Int) (mark:Int) (hm:Fen.zaA n rs) (hn:n <= 60) (hl:rs.length <= 1000) (hh:h.length = n) (m0:0 <= mark) (m1:mark < n) :
  zdc [.int n,.lst a (rs.map runD),.lst b (h.map D.int),.int mark] (fun d=>∃ h',d = .lst true (h'.map D.int)/\LiftOk n rs mark h h'):=by
 unfold zdc fnW zaP
 rw [YAf,YAf,YAf,YAf,za2,zda,zav,zav]
 refine ⟨rfl,zfo hm hn hl fun gs ⟨ds,ok,fi,hg⟩=>?_⟩
 subst hg
 rw [YAF]
 show zbv _ _ _ (ds.map fun g=>D.lst true (g.ms.map D.int)) _
 -- one group holds the mark
 have one:∀ g ∈ ds,∀ g' ∈ ds,mark ∈ g.ms->mark ∈ g'.ms->g.st = g'.st:=fun g hg g' hg' e e'=>by
  obtain ⟨_,_,c1⟩:=((ok g hg).2 mark).mp e
  obtain ⟨_,_,c2⟩:=((ok g' hg').2 mark).mp e'
  have f1:=(fi.2 g.st).mp (YAO hg)
  have f2:=(fi.2 g'.st).mp (YAO hg')
  have c:=c1.trans c2.symm
  rcases Int.lt_trichotomy g.st g'.st with z | z | z
  .exact absurd c (f2.2.2 _ f1.1 z)
  .exact z
  .exact absurd c.symm (f1.2.2 _ f2.1 z)
 have nd:(ds.map Fen.GR.st).Nodup:=fi.1.imp fun h=>YDR h
 refine zaO (fun rest Z=>∃ (done oO:List Fen.GR) (h':List Int) (s5 s6:Sl),Z = [.val (.int n),.val (.lst false (rs.map runD)),.val (.lst false (h.map D.int)),.val (.int mark),.own (h'.map D.int),s5,s6]/\rest = oO.map (fun g=>D.lst true (g.ms.map D.int))/\ds = done ++ oO/\h'.length = n /\
  (∀ i:Int,0 <= i->i < n->(∃ g ∈ done,mark ∈ g.ms/\i ∈ g.ms)->Fen.gI h' i = Fen.gI h i + 1)/\∀ i:Int,0 <= i->i < n->(¬ ∃ g ∈ done,mark ∈ g.ms/\i ∈ g.ms)->Fen.gI h' i = Fen.gI h i) ?_ ?_ _ _
  ⟨[],ds,h,.un,.un,rfl,rfl,rfl,hh,(fun i _ _ ⟨g,z,_⟩=>by cases z),fun i _ _ _=>rfl⟩
 .rintro x rest Z E' hn' hc hr hb ⟨done,oO,h',s5,s6,rfl,e1,e2,hl',q1,q2⟩
  cases oO with
  | nil=>cases e1
  | cons g oO=>
   rw [YAf] at e1
   injection e1 with e1 e3
   subst e1
   have hgd:g ∈ ds:=by rw [e2];simp
   have esp:ds = (done ++ [g]) ++ oO:=by rw [e2,YAH];rfl
   refine ⟨zcA _ _,?_⟩
   show if (if false = true then !inB (.int mark) (g.ms.map D.int) else inB (.int mark) (g.ms.map D.int)) = true then _ else _
   rw [show (if false = true then !inB (.int mark) (g.ms.map D.int) else inB (.int mark) (g.ms.map D.int)) = g.ms.contains mark from zcM _ _]
   cases hcm:g.ms.contains mark with
   | false=>
    have hnot:mark ∉ g.ms:=fun z=>by rw [YBh.mpr z] at hcm;cases hcm
    refine hn' _ ⟨done ++ [g],oO,h',_,s6,rfl,e3,esp,hl',fun i i0 i1 ⟨g',hg',k1,k2⟩=>?_,fun i i0 i1 hno=>q2 i i0 i1 fun ⟨g',hg',k⟩=>hno ⟨g',YAx _ hg',k⟩⟩
    rcases YAm.mp hg' with e | e
    .exact q1 i i0 i1 ⟨g',e,k1,k2⟩
    .rw [YAg.mp e] at k1;exact absurd k1 hnot
   | true=>
    have hin:mark ∈ g.ms:=YBh.mp hcm
    have hdn:∀ i,¬ ∃ g' ∈ done,mark ∈ g'.ms/\i ∈ g'.ms:=fun i ⟨g',hg',k1,_⟩=>by
     have es:=one g' (by rw [e2];exact YAx _ hg') g hgd k1 hin
     rw [e2,YAv,YAf] at nd
     have:=(YBU.mp nd).2.2 g'.st (YAO hg') g.st YAi
     exact this es
    have gup:=(ok g hgd).1
    have gin:∀ j ∈ g.ms,0 <= j/\j < n:=fun j hj=>let ⟨a,b,_⟩:=((ok g hgd).2 j).mp hj;⟨a,b⟩
    show zbv _ _ _ (g.ms.map D.int) _
    refine zaO (fun rest Z=>∃ (dn td:List Int) (h2:List Int) (s6:Sl),Z = [.val (.int n),.val (.lst false (rs.map runD)),.val (.lst false (h.map D.int)),.val (.int mark),.own (h2.map D.int),.val (.lst true (g.ms.map D.int)),s6]/\rest = td.map D.int/\g.ms = dn ++ td/\h2.length = n /\
     (∀ i:Int,0 <= i->i < n->i ∈ dn->Fen.gI h2 i = Fen.gI h i + 1)/\∀ i:Int,0 <= i->i < n->i ∉ dn->Fen.gI h2 i = Fen.gI h i) ?_ ?_ _ _
     ⟨[],g.ms,h',s6,rfl,rfl,rfl,hl',(fun i _ _ z=>by cases z),fun i i0 i1 _=>q2 i i0 i1 (hdn i)⟩
    .rintro x2 rest2 Z E2 hn2 hc2 hr2 hb2 ⟨dn,td,h2,s6,rfl,f1,f2,hl2,p1,p2⟩
     cases td with
     | nil=>cases f1
     | cons j td=>
      rw [YAf] at f1
      injection f1 with f1 f3
      subst f1
      obtain ⟨j0,j1⟩:=gin j (by rw [f2];simp)
      have jn:j ∉ dn:=fun z=>by
       rw [f2] at gup
       exact absurd ((YBN.mp gup).2.2 j z j YAi) (Int.lt_irrefl _)
      unfold gD
      refine znB (hs:=h2) (k:=j) (b:=1) rfl (fun Q q=>q) (fun Q q=>q) j0 (by omega) ?_
      refine hn2 _ ⟨dn ++ [j],td,h2.set j.toNat (Fen.gI h2 j + 1),_,rfl,f3,by rw [f2,YAH];rfl,by simpa using hl2,fun i i0 i1 hi=>?_,fun i i0 i1 hi=>?_⟩
      .rw [Fen.ziv (by omega) i0]
       rcases YAm.mp hi with e | e
       .rw [if_neg (fun z:i = ((j.toNat:Nat):Int)=>jn ((show i = j by omega) ▸ e))]
        exact p1 i i0 i1 e
       .have:=YAg.mp e
        subst this
        rw [if_pos (by omega),p2 i i0 i1 jn]
      .rw [Fen.ziv (by omega) i0,if_neg (fun z:i = ((j.toNat:Nat):Int)=>hi (YAq _ (YAg.mpr (by omega))))]
       exact p2 i i0 i1 fun z=>hi (YAx _ z)
    .rintro Z ⟨dn,td,h2,s6,rfl,f1,f2,hl2,p1,p2⟩
     cases td with
     | cons j td=>cases f1
     | nil=>
      rw [YAP] at f2
      refine hn' _ ⟨done ++ [g],oO,h2,_,s6,rfl,e3,esp,hl2,fun i i0 i1 ⟨g',hg',k1,k2⟩=>?_,fun i i0 i1 hno=>p2 i i0 i1 fun z=>hno ⟨g,by simp,hin,by rw [f2];exact z⟩⟩
      rcases YAm.mp hg' with e | e
      .exact absurd ⟨g',e,k1,k2⟩ (hdn i)
      .rw [YAg.mp e,f2] at k2;exact p1 i i0 i1 k2
 .rintro Z ⟨done,oO,h',s5,s6,rfl,e1,e2,hl',q1,q2⟩
  cases oO with
  | cons g oO=>cases e1
  | nil=>
   rw [YAP] at e2
   subst e2
   obtain ⟨f,f0,f1,fc,ff⟩:=Fen.zfD (rs:=rs) (k:=n) mark.toNat mark (by omega) (by rw [show ((mark.toNat:Nat):Int) = mark by omega];exact .refl _)
   have fin:f ∈ ds.map Fen.GR.st:=(fi.2 f).mpr ⟨f0,by omega,ff⟩
   obtain ⟨g,hg,rfl⟩:=YAB.mp fin
   have gm:mark ∈ g.ms:=((ok g hg).2 mark).mpr ⟨m0,m1,fc⟩
   refine ⟨h',rfl,hl',fun i i0 i1 c=>q1 i i0 i1 ⟨g,hg,gm,((ok g hg).2 i).mpr ⟨i0,i1,fc.trans c⟩⟩,fun i i0 i1 c=>q2 i i0 i1 fun ⟨g',hg',k1,k2⟩=>c ?_⟩
   obtain ⟨_,_,c1⟩:=((ok g' hg').2 mark).mp k1
   obtain ⟨_,_,c2⟩:=((ok g' hg').2 i).mp k2
   exact c1.symm.trans c2
def zef (l h:List Int):D:=.tup [lsD l,.lst true (h.map D.int)]
structure Tri where
 l:List Int
 h:List Int
 h':List Int
def triD (t:Tri):List D:=[zef t.l t.h,zef t.l t.h']
structure TriOk (n:Nat) (rs:List Rn) (mark:Int) (t:Tri):Prop where
 flat:Fen.zdU n (zaD rs t.l) t.h
 lift:LiftOk n (zaD rs t.l) mark t.h t.h'
def zhO (a:Bool) (n:Nat) (rs:List Rn) (oK:Nat) (mark:Int) (F:Few n rs) (hm:oK <= 1000) (m0:0 <= mark) (m1:mark < n) :
  zaB [.int n,.lst a (rs.map runD),.int oK,.int mark] (fun d=>∃ ts:List Tri,d = .lst true (ts.flatMap triD)/\ts.map Tri.l = setsR rs (cntR oK rs)/\∀ t ∈ ts,TriOk n rs mark t):=by
 have hh:=F.oN
 have hl:=F.len
 have hn:=F.n1
 unfold zaB fnW zaP
 rw [YAf,YAf,YAf,YAf,za2,zav,zav,zav]
 refine ⟨by show 0 <= 100000;decide,rfl,zbg (zcU _ n rs oK F (by omega) (by omega)) fun d hd=>?_⟩
 subst hd
 have hz:=zdh (zem rs) hh (cntR oK rs)
 have hc:cntR oK rs <= 11:=by unfold cntR;split <;> omega
 have hy:∀ l ∈ setsR rs (cntR oK rs),hasH (zaD rs l) = true:=fun l hl=>(mem_sets.mp hl).2
 generalize setsR rs (cntR oK rs) = S at hz hy
 show zbv _ _ _ (S.map lsD) _
 refine zaO (fun rest Z=>∃ (ts:List Tri) (oO:List (List Int)) (s5 s6 s7:Sl),Z = [.val (.int n),.val (.lst false (rs.map runD)),.val (.int oK),.val (.int mark),.own (ts.flatMap triD),s5,s6,s7]/\rest = oO.map lsD/\S = ts.map Tri.l ++ oO/\∀ t ∈ ts,TriOk n rs mark t) ?_ ?_ _ _
  ⟨[],S,.un,.un,.un,rfl,rfl,rfl,fun t h=>by cases h⟩
 .rintro x rest Z E' hn' hc' hr hb ⟨ts,oO,s5,s6,s7,rfl,e1,e2,ok⟩
  cases oO with
  | nil=>cases e1
  | cons l oO=>
   rw [YAf] at e1
   injection e1 with e1 e3
   subst e1
   have hl1:hasH (zaD rs l) = true:=hy l (by rw [e2];simp)
   have ll:=zeI rs l
   have len2:∀ ts:List Tri,(ts.flatMap triD).length = 2 * ts.length:=fun ts=>by
    induction ts with
    | nil=>rfl
    | cons t ts ih=>rw [YCl,YAw,ih,YA2];show 2 + _ = _;omega
   have tl:ts.length < 12000:=by
    have:=congrArg List.length e2
    rw [YAw,YAc,YA2] at this
    omega
   refine ⟨rfl,zbg (zep false true rs l (by omega)) fun d hd=>?_⟩
   subst hd
   refine ⟨rfl,zeh (F.left l) (by omega) (by omega) (fun h0=>by rw [hl1] at h0;cases h0) fun h _ fo=>?_⟩
   refine ⟨by show 2 <= 100000;decide,by rw [len2];omega,?_⟩
   refine ⟨rfl,zbg (zi3 true true n (zaD rs l) h mark (F.left l) (by omega) (by omega) fo.1 m0 m1) fun d ⟨h',hd,lo⟩=>?_⟩
   subst hd
   refine ⟨by show 2 <= 100000;decide,by rw [YAw,len2];show _ + 1 < _;omega,?_⟩
   refine hn' _ ⟨ts ++ [⟨l,h,h'⟩],oO,.val (lsD l),.val (.lst true ((zaD rs l).map runD)),.val (.lst true (h.map D.int)),?_,e3,by rw [e2,YAv,YAH];rfl,fun t ht=>?_⟩
   .rw [YDd,YCl,List.flatMap_nil,YAP]
    show _ = [_,_,_,_,Sl.own (ts.flatMap triD ++ [zef l h,zef l h']),_,_,_]
    rw [show ts.flatMap triD ++ [zef l h,zef l h'] = (ts.flatMap triD ++ [zef l h]) ++ [zef l h'] by rw [YAH];rfl]
    rfl
   .rcases YAm.mp ht with e | e
    .exact ok t e
    .rw [YAg.mp e];exact ⟨fo,lo⟩
 .rintro Z ⟨ts,oO,s5,s6,s7,rfl,e1,e2,ok⟩
  cases oO with
  | cons l oO=>cases e1
  | nil=>
   rw [YAP] at e2
   exact ⟨ts,rfl,e2.symm,ok⟩
def zh2 (a:Bool) (h:List Int) (one oJ:Int) (o0:0 <= one) (o1:one < h.length) (p0:0 <= oJ) (p1:oJ < h.length):zaR [.lst a (h.map D.int),.int one,.int oJ] (· = .int (Fen.gI h oJ - Fen.gI h one)):=by
 unfold zaR fnW zaP
 rw [YAf,YAf,YAf,zda,zav,zav]
 exact zbX p0 p1 (zbX o0 o1 rfl)
structure Rdg (rs:List Rn) (c:Nat) (l:List Int) (f:Int->Int):Prop where
 mem:l ∈ setsR rs c
 fit:∀ r ∈ zaD rs l,f r.oJ - f r.one = r.rise
def znt   (hm:Fen.zaA n rs) (L:LiftOk n rs mark h h') (ht:Fen.HtOk rs h):Fen.HtOk rs h':=fun r hr=>by
 obtain ⟨a,b,c,d⟩:=hm r hr
 have:=ht r hr
 by_cases z:Fen.Conn rs mark r.one
 .rw [L.yes _ a b z,L.yes _ c d (z.trans (Fen.Conn.edge hr))];omega
 .rw [L.no _ a b z,L.no _ c d (fun y=>z (y.trans (Fen.Conn.edge' hr)))];exact this
structure ToldNone (n:Nat) (rs:List Rn) (oK:Nat) (d:D):Prop where
 emp:setsR rs (cntR oK rs) = []
 pap:∃ p,d = .tup [.str "none",p]/\zbS n rs 0 0 oK [] p
structure ToldSure (n:Nat) (rs:List Rn) (oK:Nat) (one oJ rise:Int) (d:D):Prop where
 some:setsR rs (cntR oK rs) ≠ []
 all:∀ l f,Rdg rs (cntR oK rs) l f->f oJ - f one = rise
 conn:∀ l ∈ setsR rs (cntR oK rs),Fen.Conn (zaD rs l) one oJ
 pap:∃ p,d = .tup [.str "sure",.int rise,p]/\zbS n rs one oJ oK [] p
structure RdOk (n:Nat) (rs:List Rn) (c:Nat) (l h:List Int):Prop where
 mem:l ∈ setsR rs c
 fit:Fen.HtOk (zaD rs l) h
 len:h.length = n
structure ToldOpen (n:Nat) (rs:List Rn) (oK:Nat) (one oJ:Int) (d:D):Prop where
 ex:∃ l h l' h',d = .tup [.str "open",zef l h,zef l' h']/\RdOk n rs (cntR oK rs) l h/\RdOk n rs (cntR oK rs) l' h'/\Fen.gI h' oJ - Fen.gI h' one ≠ Fen.gI h oJ - Fen.gI h one
def zmn (n:Nat) (rs:List Rn) (oK:Nat) (one oJ:Int) (d:D):Prop:=ToldNone n rs oK d\/(∃ rise,ToldSure n rs oK one oJ rise d)\/ToldOpen n rs oK one oJ d
def prD (p:List Int × List Int):D:=zef p.1 p.2
def zh0 (ts:List Tri):ts.flatMap triD = (ts.flatMap fun t=>[(t.l,t.h),(t.l,t.h')]).map prD:=by
 rw [YDK];rfl
def zek  (q:Q x):itD (x :: xs) (.int 0) Q:=by
 show (match atI (x :: xs) 0 with | some d=>Q d | none=>False)
 have e:atI (x :: xs) 0 = some x:=by unfold atI ixN;rw [if_pos (by decide),if_pos (by simp)];rfl
 rw [e];exact q
def ziB (a:Bool) (n:Nat) (rs:List Rn) (oK:Nat) (one oJ:Int) (F:Few2 n rs) (hm:oK <= 5) (o0:0 <= one) (o1:one < n) (p0:0 <= oJ) (p1:oJ < n) :
  zd6 [.int n,.lst a (rs.map runD),.int oK,.int one,.int oJ] (zmn n rs oK one oJ):=by
 unfold zd6 fnW zaP
 rw [YAf,YAf,YAf,YAf,YAf,za2,zav,zav,zav,zav]
 refine ⟨rfl,zbg (zhO _ n rs oK oJ F.toFew (by omega) p0 p1) fun d ⟨ts,hd,hts,ok⟩=>?_⟩
 subst hd
 cases ts with
 | nil=>
  refine ⟨rfl,zbg (ze9 _ n rs oK F (by omega) hm) fun d hd=>⟨by show 2 <= 100000;decide,?_⟩⟩
  have he:setsR rs (cntR oK rs) = []:=hts.symm
  rcases hd with ⟨_,l,fi⟩ | ⟨_,pa⟩
  .obtain ⟨j,hj,_,done,oO,e,_⟩:=fi.ex
   have:l ∈ setsR rs (cntR oK rs):=mem_sets.mpr ⟨⟨j,hj,by rw [e];simp⟩,fi.yes⟩
   rw [he] at this;cases this
  .exact .inl ⟨he,d,rfl,pa⟩
 | cons t ts=>
  have okR:∀ p ∈ (t :: ts).flatMap (fun t=>[(t.l,t.h),(t.l,t.h')]),RdOk n rs (cntR oK rs) p.1 p.2:=fun p hp=>by
   obtain ⟨u,hu,hp⟩:=YB4.mp hp
   have hu':=ok u hu
   have hmem:u.l ∈ setsR rs (cntR oK rs):=by rw [<- hts];exact YAO hu
   simp only [YAs,YAT,YB7] at hp
   rcases hp with rfl | rfl
   .exact ⟨hmem,hu'.flat.2.1,hu'.flat.1⟩
   .exact ⟨hmem,znt (F.left u.l) hu'.lift hu'.flat.2.1,hu'.lift.len⟩
  have th:=(ok t YAi).flat.1
  refine zek (x:=zef t.l t.h) ?_
  refine ⟨rfl,rfl,zbg (zh2 true t.h one oJ o0 (by omega) p0 (by omega)) fun d hd=>?_⟩
  subst hd
  show zbv _ _ _ ((t :: ts).flatMap triD) _
  rw [zh0]
  refine zaO (fun rest Z=>∃ (done oO:List (List Int × List Int)) (s9 s10:Sl),Z = [.val (.int n),.val (.lst false (rs.map runD)),.val (.int oK),.val (.int one),.val (.int oJ),.val (.lst true ((t :: ts).flatMap triD)),.val (lsD t.l),.val (.lst true (t.h.map D.int)),.val (.int (Fen.gI t.h oJ - Fen.gI t.h one)),s9,s10]/\rest = oO.map prD/\(t :: ts).flatMap (fun t=>[(t.l,t.h),(t.l,t.h')]) = done ++ oO /\
   ∀ p ∈ done,Fen.gI p.2 oJ - Fen.gI p.2 one = Fen.gI t.h oJ - Fen.gI t.h one) ?_ ?_ _ _ ⟨[],_,.un,.un,by rw [zh0];rfl,rfl,rfl,fun p h=>by cases h⟩
  .rintro x rest Z E' hn' hc hr hb ⟨done,oO,s9,s10,rfl,e1,e2,hal⟩
   cases oO with
   | nil=>cases e1
   | cons p oO=>
    rw [YAf] at e1
    injection e1 with e1 e3
    subst e1
    have hp:=okR p (by rw [e2];simp)
    have hpl:=hp.len
    refine ⟨rfl,rfl,zbg (zh2 true p.2 one oJ o0 (by omega) p0 (by omega)) fun d hd=>?_⟩
    subst hd
    refine ⟨zeg _ _,?_⟩
    rw [zmp]
    by_cases z:Fen.gI p.2 oJ - Fen.gI p.2 one = Fen.gI t.h oJ - Fen.gI t.h one
    .rw [YAS z]
     refine hn' _ ⟨done ++ [p],oO,.val (lsD p.1),.val (.lst true (p.2.map D.int)),rfl,e3,by rw [e2,YAH];rfl,fun q hq=>?_⟩
     rcases YAm.mp hq with e | e
     .exact hal q e
     .rw [YAg.mp e];exact z
    .rw [YAY z]
     refine ⟨by show 2 <= 100000;decide,by show 2 <= 100000;decide,by show 3 <= 100000;decide,hr _ (.inr (.inr ⟨t.l,t.h,p.1,p.2,rfl,okR (t.l,t.h) (by simp),hp,z⟩))⟩
  .rintro Z ⟨done,oO,s9,s10,rfl,e1,e2,hal⟩
   cases oO with
   | cons p oO=>cases e1
   | nil=>
    rw [YAP] at e2
    have hal2:∀ u ∈ t :: ts,Fen.gI u.h oJ - Fen.gI u.h one = Fen.gI t.h oJ - Fen.gI t.h one/\Fen.gI u.h' oJ - Fen.gI u.h' one = Fen.gI t.h oJ - Fen.gI t.h one:=fun u hu=>
     ⟨hal (u.l,u.h) (by rw [<- e2];exact YB4.mpr ⟨u,hu,by simp⟩),hal (u.l,u.h') (by rw [<- e2];exact YB4.mpr ⟨u,hu,by simp⟩)⟩
    have conn:∀ u ∈ t :: ts,Fen.Conn (zaD rs u.l) one oJ:=fun u hu=>by
     by_cases z:Fen.Conn (zaD rs u.l) oJ one
     .exact z.symm
     .have L:=(ok u hu).lift
      have q1:=L.no one o0 o1 z
      have q2:=L.yes oJ p0 p1 (.refl _)
      have q3:=hal2 u hu
      omega
    have conn2:∀ l ∈ setsR rs (cntR oK rs),Fen.Conn (zaD rs l) one oJ:=fun l hl=>by
     rw [<- hts] at hl
     obtain ⟨u,hu,rfl⟩:=YAB.mp hl
     exact conn u hu
    refine ⟨rfl,zbg (zcX _ n rs one oJ oK F o0 o1 hm ?_) fun d hd=>⟨by show 3 <= 100000;decide,.inr (.inl ⟨_,?_,?_,conn2,d,rfl,hd⟩)⟩⟩
    .intro ext hl he hy
     rw [YBc] at hy ⊢
     obtain ⟨j,hj,hm⟩:=zjc he (by omega:(ext.length:Int) <= oK)
     have:=conn2 (zbB ext) (mem_sets.mpr ⟨⟨j,hj,hm⟩,by rw [zdN];exact hy⟩)
     rw [zdN] at this;exact this
    .rw [<- hts];simp
    .intro l f R
     have hl:=R.mem
     rw [<- hts] at hl
     obtain ⟨u,hu,rfl⟩:=YAB.mp hl
     have:=Fen.zkM R.fit (ok u hu).flat.2.1 (conn u hu)
     have q:=(hal2 u hu).1
     omega
def ziq (a b:Str) (ha:PyData.canLay0 (.str a) = true) (hb:PyData.canLay0 (.str b) = true):eqOk (.str a) (.str b):=⟨by rw [layD];exact ha,by rw [layD];exact hb,by show min 0 0 <= 50;decide⟩
def okSS:eqOk (.str "sure") (.str "none")/\eqOk (.str "none") (.str "none")/\eqOk (.str "sure") (.str "sure")/\eqOk (.str "open") (.str "none")/\eqOk (.str "open") (.str "sure")/\eqOk (.str "none") (.str "sure"):=by
 refine ⟨?_,?_,?_,?_,?_,?_⟩ <;> exact ziq _ _ (by decide +kernel) (by decide +kernel)
def eqSS:eqB (.str "sure") (.str "none") = false/\eqB (.str "none") (.str "none") = true/\eqB (.str "sure") (.str "sure") = true/\eqB (.str "open") (.str "none") = false/\eqB (.str "open") (.str "sure") = false/\eqB (.str "none") (.str "sure") = false:=by
 refine ⟨?_,?_,?_,?_,?_,?_⟩ <;> decide +kernel
def Wd.few2 {mm mh mr:Int} {n:Nat} {rs:List Rn} {hts fs:List Int} (W:Wd mm mh mr n rs hts fs) (h1:mm <= 40) (h2:mr < 64):Few2 n rs:=⟨W.fewN h1 h2,W.apart⟩
end Fd
set_option maxHeartbeats 2000000
namespace Fd
open PySem L2
end Fd
set_option maxHeartbeats 2000000
namespace Fd
open PySem L2
section
variable {φ g g' b:Int->Int} {rs qs:List Rn}
end
end Fd
set_option maxHeartbeats 2000000
namespace Fd
open PySem L2
section
variable {n m:Nat} {one v:Int} {rs qs:List Rn} {ks ls:List Knd} {bl ms:List Int} {E:En} {s4 s5 s11 s12 s14 s15 s16 s17 s18 s20 s21:Sl}
variable {s19:Sl}
end
end Fd
namespace L2
open PySem PySem.Spec PyProof.Rows PySem.W
section
variable {N:Nat}
end
end L2
namespace HT
open PySem PyProof.Rows
section
open PySem.SeqAt
open PySem.AutoSeq1 (wpAny_loadPart')
open PySem.MeetsSeq PySem.MeetsSeq2 PySem.MeetsSeq3
end
section
variable {prog:Program} {w:World} {A:Around} {E:Value->Shared->Prop} {s:Shared}
end
end HT
namespace L2
open PySem PySem.Spec PyProof.Rows PySem.W
section
variable {prog:Program} {w:World} {A:Around} {E:Value->Shared->Prop} {s:Shared} {vs:List Value} {κ:SortKind}
end
end L2
namespace L2
open PySem PySem.Spec PyProof.Rows PySem.W HT
section
variable {prog:Program} {w:World} {A:Around} {s:Shared}
end
section
variable {X:Cx}
end
end L2
namespace Fd
open PySem L2
section
variable {X:Cx} {c:Bk}
end
end Fd
namespace L2
open PySem PySem.Spec PyProof.Rows
section
variable {X:Cx}
end
end L2
namespace Fd
open PySem L2
section
variable {X:Cx} {c:Bk}
end
section
variable {n:Nat} {rs:List Rn} {p:D} {m0:D} {s5 s6 s7 s10 s12:Sl} {one oJ rise more:Int} {E:En}
end
section
variable {X:Cx} {e ke:Expr} {pos pos' apos cpos:Pos}
end
section
variable {X:Cx} {e ke:Expr} {pos pos' apos cpos:Pos} {i n:Nat} {M:D->Bool} {rest:List Stmt}
end
section
variable {X:Cx} {c:Bk} {e te:Expr} {es:List Expr} {pos p p1 p2 p3 p4 p5:Pos} {i n:Nat} {M:D->Bool} {mst:Stmt} {rest:List Stmt}
end
def Rel.unset {c:Bk} {Z:Env} {Y:St} {H G:Hp} (r:Rel c Z Y H G) (i:Nat) (w:V):Rel c (Z.set i .un) (Y.set i (some w)) H G:=by
 refine ⟨by simp [r.len],r.stp,fun j s e=>?_,fun j k a xs ys e1 e2 e3 e4=>?_⟩
 .by_cases z:i = j
  .subst z
   have hi:i < Z.length:=by have:=(YAh.mp e).1;simpa using this
   rw [YAr hi] at e
   cases e
   trivial
  .rw [YAj z] at e ⊢
   exact r.slot j s e
 .have f:∀ (m:Nat) zs,(Z.set i .un)[m]? = some (.own zs)->i ≠ m/\Z[m]? = some (.own zs):=fun m zs e=>by
   by_cases z:i = m
   .subst z
    have hi:i < Z.length:=by have:=(YAh.mp e).1;simpa using this
    rw [YAr hi] at e;cases e
   .rw [YAj z] at e;exact ⟨z,e⟩
  obtain ⟨n1,f1⟩:=f j xs e1
  obtain ⟨n2,f2⟩:=f k ys e2
  rw [YAj n1] at e3
  rw [YAj n2] at e4
  exact r.dis j k a xs ys f1 f2 e3 e4
section
variable {X:Cx} {c:Bk} {e te:Expr} {es:List Expr} {pos p p1 p2 p3 p4 p5 q1 q2 q3 q4 q5:Pos} {i n:Nat} {M:D->Bool} {mst:Stmt} {rest:List Stmt}
end
end Fd
namespace L2
open PySem PySem.Spec PyProof.Rows
end L2
namespace Fd
open PySem L2
section
variable {X:Cx} {c:Bk} {e te ke:Expr} {es:List Expr} {pos pos2 pos3 apos apos2 cpos cpos2 p p1 p2 p3 p4 p5 q1 q2 q3 q4:Pos} {i n:Nat} {rest:List Stmt}
end
end Fd
namespace L2
open PySem PySem.Spec
abbrev PKy:=List (Int × Int)
def TwoAt (h:Heap) (x:Int × Int) (v:Value):Prop:=∃ b o n t u,v = .ref b/\h.get? b = some o/\o.cls = .type "tuple" /\ o.data = .seq #[.int x.1 t,.int x.2 u] n
def NKey (h:Heap) (ks:PKy) (a:Addr):Prop:=∃ o items n,h.get? a = some o/\o.cls = .type "tuple" /\ o.data = .seq items n/\Paired (TwoAt h) ks items.toList
def TwoAt.key {prog:Program} {w:World} {h:Heap} {x:Int × Int} {v:Value} (p:TwoAt h x v):∃ b,v = .ref b/\IsTupleKey (intKind prog w) h [x.1,x.2] b:=by
 obtain ⟨b,o,n,t,u,e,ho,hc,hd⟩:=p
 exact ⟨b,e,o,_,n,ho,hc,hd,.cons (YCR _ _ _ _) (.cons (YCR _ _ _ _) .nil)⟩
def TwoAt.inj {h:Heap} {x y:Int × Int} {v:Value} (p:TwoAt h x v) (q:TwoAt h y v):x = y:=by
 obtain ⟨b,o,n,t,u,rfl,ho,hc,hd⟩:=p
 obtain ⟨b',o',n',t',u',e,ho',hc',hd'⟩:=q
 cases e
 rw [ho] at ho';cases ho'
 rw [hd] at hd'
 injection hd' with h1 _
 have h1:=congrArg Array.toList h1
 simp at h1
 exact Prod.ext h1.1.1 h1.2.1
def ziY {α β:Type} {F:α->β->Prop} (k:∀ x y v,F x v->F y v->x = y) {xs:List α} {vs:List β} (p:Paired F xs vs):∀ {ys:List α},Paired F ys vs->xs = ys:=by
 induction p with
 | nil=>intro ys q;cases q;rfl
 | cons a _ ih=>
  intro ys q
  cases q with
  | cons c d=>rw [k _ _ _ a c,ih d]
theorem NKey.inj {h:Heap} {a:Addr} {x y:PKy} (p:NKey h x a) (q:NKey h y a):x = y:=by
 obtain ⟨o,it,n,ho,hc,hd,r⟩:=p
 obtain ⟨o',it',n',ho',hc',hd',r'⟩:=q
 rw [ho] at ho';cases ho'
 rw [hd] at hd'
 injection hd' with h1 _
 subst h1
 exact ziY (fun _ _ _ a b=>a.inj b) r r'
def zmG {h:Heap} {a d:Addr} {o o':Obj} {es ep it n} (h1:h.get? a = some o') (h2:o'.data = .seq it n) (ho:h.get? d = some o) (hd:o.data = .dict es ep):a ≠ d:=fun z=>by
 rw [z,ho] at h1;cases h1;rw [hd] at h2;cases h2
def NKey.keep {h h':Heap} {ks:PKy} {a:Addr} (p:NKey h ks a) (k:∀ b o it n,h.get? b = some o->o.data = .seq it n->h'.get? b = some o):NKey h' ks a:=by
 obtain ⟨o,it,n,ho,hc,hd,r⟩:=p
 exact ⟨o,it,n,k _ _ _ _ ho hd,hc,hd,Paired.imp' (fun x v ⟨b,o,n,t,u,e,ho,hc,hd⟩=>⟨b,o,n,t,u,e,k _ _ _ _ ho hd,hc,hd⟩) r⟩
def znI (prog:Program) (w:World) (ks:PKy):Int:=reduceHash (Builtin.Tuple.tupleHashOf (ks.map fun x=>tupleKeyHash (intKind prog w) [x.1,x.2]))
def pyK (ks:PKy):PyData:=.tuple (ks.map fun x=>.tuple [.int x.1,.int x.2])
def NKey.reads {h:Heap} {ks:PKy} {a:Addr} (p:NKey h ks a):∃ as,Reads h (.ref a) (pyK ks) as:=by
 obtain ⟨o,it,n,ho,hc,hd,r⟩:=p
 have go:∀ {ks:PKy} {vs:List Value},Paired (TwoAt h) ks vs->∃ as,ReadsAll h vs (ks.map fun x=>.tuple [.int x.1,.int x.2]) as:=by
  intro ks vs r
  induction r with
  | nil=>exact ⟨_,.nil⟩
  | cons q _ ih=>
   obtain ⟨as,ih⟩:=ih
   obtain ⟨b,o,n,t,u,rfl,ho,hc,hd⟩:=q
   exact ⟨_,.cons (.tuple ho hc hd (.cons (.int _ _) (.cons (.int _ _) .nil))) ih⟩
 obtain ⟨as,q⟩:=go r
 exact ⟨as,.tuple ho hc hd q⟩
def zoq:∀ x y:PKy,PyData.eqv (pyK x) (pyK y) = decide (x = y):=by
 have two:∀ x y:Int × Int,PyData.eqv (.tuple [.int x.1,.int x.2]) (.tuple [.int y.1,.int y.2]) = decide (x = y):=fun x y=>by
  obtain ⟨x1,x2⟩:=x
  obtain ⟨y1,y2⟩:=y
  simp only [PyData.eqv,PyData.eqvAll,Bool.and_true]
  by_cases h1:x1 = y1 <;> by_cases h2:x2 = y2 <;> simp [h1,h2]
 have all:∀ x y:PKy,PyData.eqvAll (x.map fun x=>PyData.tuple [.int x.1,.int x.2]) (y.map fun x=>PyData.tuple [.int x.1,.int x.2]) = decide (x = y):=by
  intro x
  induction x with
  | nil=>intro y;cases y <;> simp [PyData.eqvAll]
  | cons a x ih=>
   intro y
   cases y with
   | nil=>simp [PyData.eqvAll]
   | cons b y=>
    rw [YAf,YAf,PyData.eqvAll,two,ih]
    by_cases h1:a = b <;> by_cases h2:x = y <;> simp [h1,h2]
 intro x y
 unfold pyK
 rw [PyData.eqv]
 exact all x y
def zhJ (ks:PKy):(pyK ks).canLay0 = true/\(pyK ks).depth <= 2:=by
 unfold pyK
 constructor
 .rw [PyData.canLay0]
  induction ks with
  | nil=>rfl
  | cons x ks ih=>rw [YAf,PyData.canLayAll0,ih];rfl
 .rw [PyData.depth]
  have:PyData.depthAll (ks.map fun x=>PyData.tuple [.int x.1,.int x.2]) <= 1:=by
   induction ks with
   | nil=>exact YAD _
   | cons x ks ih=>
    rw [YAf,PyData.depthAll]
    have:(PyData.tuple [.int x.1,.int x.2]).depth = 1:=rfl
    omega
  omega
section
variable {prog:Program} {w:World} {A:Around} {E:Value->Shared->Prop} {s:Shared}
def NKey.ty {ks:PKy} {a:Addr} (p:NKey s.heap ks a):s.TypeIs (.ref a) "tuple" := let ⟨o,_,_,ho,hc,_⟩:=p;⟨o,ho,hc⟩
def znU {ks:PKy} {a:Addr} {Q:Int->Shared->Prop} (hu:A.units + 40 < cLine) (hk:NKey s.heap ks a) (q:Q (znI prog w ks) { s with toks:=s.toks + (3 * ks.length + 1) }):wpAny (model prog w) A (pyHash (.ref a)) Q E s:=by
 have ty:=hk.ty
 obtain ⟨o,it,n,ho,hc,hd,r⟩:=hk
 unfold pyHash pyHashByItsType
 refine YAa (wpAny_cRoomFor_or (.inr (by omega)) ?_)
 refine YAa (YBx ty YCS.lookup ?_)
 refine za0 (by simp) ?_
 refine YAa (YBx ty YCS.lookup ?_)
 refine YAa (wpAny_callSpecialIfBoundUnlessNone?_slot ty YCS (YAN YCS ty F.entry_tuple_hash ?_ (F.args_tuple_hash_1 _)))
 show wpAny _ _ (Builtin.Tuple.tupleItemsOf (.ref a) >>= _) _ _ s
 refine YAa (wpAny_tupleItemsOf ho hd (YAa ?_))
 rw [<- YDl]
 refine YDL _ (fun rest (b:Array Int) s'=>∃ did oO,ks = did ++ oO/\Paired (TwoAt s.heap) oO rest/\(b.toList = did.map fun x=>tupleKeyHash (intKind prog w) [x.1,x.2])/\s' = { s with toks:=s.toks + 3 * did.length }) _ ?_ ?_ _ _ ⟨[],ks,rfl,r,rfl,rfl⟩
 .rintro x rest b s' ⟨did,oO,rfl,l,e,rfl⟩
  cases l with
  | @cons k _ _ _ h1 l=>
   obtain ⟨c,rfl,tk⟩:=h1.key (prog:=prog) (w:=w)
   refine YAa (wpAny_pyHash_tuple (knd:=intKind prog w) (by show A.in1.units < _;have:A.in1.units = A.units + 1:=rfl;omega) tk ?_)
   exact YAb ⟨did ++ [k],_,by simp,l,by simp [e],by simp;omega⟩
 .rintro b s' ⟨did,oO,rfl,l,e,rfl⟩
  cases l
  rw [YAP] at q
  show wpAny _ _ (retInt (Builtin.Tuple.tupleHashOf b.toList)) _ _ _
  rw [e]
  refine wpAny_ret_mkInt ?_
  unfold znI reduceHash at q
  show wpAny _ _ (if _ = true then _ else _) Q E _
  split
  .rename_i hr
   rw [if_pos hr] at q
   exact YAb (by simpa [Nat.add_assoc] using q)
  .rename_i hr
   rw [if_neg hr] at q
   exact YAa (YBT (YAb (by simpa [Nat.add_assoc] using q)))
def zlq {x:Int × Int} {v:Value} {Q:Bool->Shared->Prop} (p:TwoAt s.heap x v) (q:Q true s):wpAny (model prog w) A (eqIsQuiet 7 v) Q E s:=by
 obtain ⟨b,o,n,t,u,rfl,ho,hc,hd⟩:=p
 have ty:s.TypeIs (.ref b) "tuple" := ⟨o,ho,hc⟩
 unfold eqIsQuiet
 refine YAa (YBx ty F.slot_tuple_eq.lookup ?_)
 refine YAa (YBD ty isSubtype_tuple_tuple ?_)
 refine za0 (by decide) (YAa (YCC ho hd (YAa ?_)))
 show wpAny _ _ (forIn #[Value.int x.1 t,Value.int x.2 u] _ _) _ _ s
 rw [<- YDl]
 refine YDL _ (fun rest r s'=>r.1 = none/\s' = s/\∀ v ∈ rest,carriedByValue v = true) _ ?_ ?_ _ _ ⟨rfl,rfl,fun v hv=>?_⟩
 .rintro v rest r s' ⟨hr,rfl,all⟩
  rw [eqIsQuiet_byValue _ (all v YAi)]
  exact YAa (YAb (za0 (by decide) (YAb ⟨rfl,rfl,fun u hu=>all u (YAn _ hu)⟩)))
 .rintro ⟨r1,r2⟩ s' ⟨hr,rfl,_⟩
  cases hr
  exact YAb q
 .rcases YAs.mp hv with rfl | hv
  .rfl
  .rw [YAg.mp hv];rfl
def zni {ks:PKy} {a:Addr} {Q:Bool->Shared->Prop} (p:NKey s.heap ks a) (q:Q true s):wpAny (model prog w) A (eqIsQuiet 8 (.ref a)) Q E s:=by
 have ty:=p.ty
 obtain ⟨o,it,n,ho,hc,hd,r⟩:=p
 unfold eqIsQuiet
 refine YAa (YBx ty F.slot_tuple_eq.lookup ?_)
 refine YAa (YBD ty isSubtype_tuple_tuple ?_)
 refine za0 (by decide) (YAa (YCC ho hd (YAa ?_)))
 show wpAny _ _ (forIn it _ _) _ _ s
 rw [<- YDl]
 refine YDL _ (fun rest r s'=>r.1 = none/\s' = s/\∃ ks,Paired (TwoAt s.heap) ks rest) _ ?_ ?_ _ _ ⟨rfl,rfl,ks,r⟩
 .rintro v rest r s' ⟨hr,rfl,ks,l⟩
  cases l with
  | cons h1 l=>exact YAa (zlq h1 (za0 (by decide) (YAb ⟨rfl,rfl,_,l⟩)))
 .rintro ⟨r1,r2⟩ s' ⟨hr,rfl,_⟩
  cases hr
  exact YAb q
end
noncomputable def zfG (prog:Program) (w:World):HeapKind prog w PKy where
 is:=NKey
 hash:=znI prog w
 draws:=fun ks=>3 * ks.length + 1
 room:=fun A=>A.units + 40 < cLine
 inj:=fun p q=>p.inj q
 keeps:=fun p ho hd sb=>p.keep fun b o it n h1 h2=>(sb.2 b (zmG h1 h2 ho hd)).trans h1
 pyHash:=fun hu hk q=>znU hu hk q
 eqBool:=fun {A E s x y a b Q} hu p q h=>by
  obtain ⟨as,ra⟩:=p.reads
  obtain ⟨bs,rb⟩:=q.reads
  have e:=zoq x y
  exact SeqAt.eqAt_reads _ _ A s _ _ as bs ra rb (zhJ x).1 (zhJ y).1 (by have:=(zhJ x).2;omega) prog w E Q (by rw [e];exact h)
 quiet:=fun p q=>zni p q
end L2
namespace L2
open PySem PySem.Spec PyProof.Rows
abbrev GX:=List (PKy × Addr × Addr)
def gEnt (x:PKy × Addr × Addr):PKy × Addr × Value:=(x.1,x.2.1,.ref x.2.2)
structure GdAt (P:Program) (w:World) (a:Addr) (xs:GX) (h:Heap):Prop where
 lo:(a == sysModules) = false
 ex:∃ o es ep,h.get? a = some o/\o.ExactDict/\o.data = .dict es ep/\es.toList = (xs.map gEnt).map (entryOfKey (zfG P w))
def GdO (P:Program) (w:World) (a:Addr) (xs:GX):HO:=.ext (GdAt P w a xs)
def GdAt.at_ {P:Program} {w:World} {a:Addr} {xs:GX} {h:Heap} (r:GdAt P w a xs h):∃ o,h.get? a = some o:=let ⟨o,_,_,e,_⟩:=r.ex;⟨o,e⟩
def zn4 {P:Program} {w:World} {H:Hp} {h:Heap} {a:Addr} {xs:GX} (r:GdAt P w a xs h):ObjOk P w H h a (GdO P w a xs):=
 ⟨r,r.at_,fun h1 h2 q k=>⟨q.lo,let ⟨o,es,ep,e,z⟩:=q.ex;⟨o,es,ep,k _ e,z⟩⟩⟩
def KeyV (K:oS) (H:Hp) (ks:PKy) (a:Addr):Prop:=∃ vs,SqT K H a vs/\Paired (fun (x:Int × Int) (u:V)=>∃ b,u = .ref b/\SqT K H b [.int x.1,.int x.2]) ks vs
section
variable {X:Cx} {O:List (Addr × Obj)} {Y:St} {H:Hp} {s:Shared}
def KeyV.at_ {ks:PKy} {a:Addr} (I:Inv X O Y H s) (k:KeyV X.K H ks a):NKey s.heap ks a:=by
 obtain ⟨vs,ht,p⟩:=k
 obtain ⟨its,rv,⟨o,ho,hc,n,hd⟩,hz⟩:=I.tuple ht
 refine ⟨o,its.toArray,n,ho,hc,hd,?_⟩
 show Paired _ ks its
 clear ht ho hd hz
 induction p generalizing its with
 | nil=>cases rv;exact .nil
 | cons q _ ih=>
  cases rv with
  | cons r1 r2=>
   refine .cons ?_ (ih _ r2)
   obtain ⟨b,rfl,hb⟩:=q
   cases r1
   obtain ⟨it2,rv2,⟨o2,ho2,hc2,n2,hd2⟩,_⟩:=I.tuple hb
   obtain ⟨v1,v2,rfl,e1,e2⟩:=znp rv2
   obtain ⟨t,rfl⟩:=e1
   obtain ⟨u,rfl⟩:=e2
   exact ⟨b,o2,n2,t,u,rfl,ho2,hc2,hd2⟩
def znA {pos:Pos}:PE X (.Dict [] [] pos) (fun _ H Q=>∀ p,H p = none->Q (.ref p) (upd H p (GdO X.prog X.w p []))):=fun O s Y H Q I h=>
 YDG ⟨.ref s.heap.objs.size,_,I.laid (a:=s.heap.objs.size) (o:=GdO X.prog X.w s.heap.objs.size []) (t':=s.toks) (fun _ _ q=>YAe _ q) (YAl _)
  (zn4 ⟨YCm.mpr (Ne.symm (YAt I.big)),_,#[],0,YAo _ rfl,⟨rfl,rfl,rfl⟩,rfl,rfl⟩),rfl,h _ (I.hok.fresh (YAl _))⟩
noncomputable def zjB (X:Cx):V->List V->Hp->VK->Prop:=fun x vs H Q=>∃ d kv l ks xs,x = .ref d/\vs = [.ref kv,.ref l]/\H d = some (GdO X.prog X.w d xs)/\xs.length < 1000/\(xs.map (·.1)).Nodup/\(∀ y ∈ xs,KeyV X.K H y.1 y.2.1)/\KeyV X.K H ks kv /\
 (∀ y ∈ xs,y.1 = ks->Q (.ref y.2.2) H)/\((∀ y ∈ xs,y.1 ≠ ks)->Q (.ref l) (upd H d (GdO X.prog X.w d (xs ++ [(ks,kv,l)]))))
def zjv (hu:X.A.units + 64 < cLine):MtR X "dict.setdefault" (zjB X):=by
 intro O s Y H x vs v us Q I rx rv h
 obtain ⟨d,kv,l,ks,xs,rfl,rfl,hd,hz,nd,hk,hkv,q1,q2⟩:=h
 cases rx
 obtain ⟨v1,v2,rfl,e1,e2⟩:=znp rv
 cases e1
 cases e2
 have gd:GdAt X.prog X.w d xs s.heap:=(I.hok d _ hd).1
 obtain ⟨lo,o,es,ep,ho,hx,hda,he⟩:=id gd
 have ty:s.TypeIs (.ref d) "dict" := ⟨o,ho,hx.1⟩
 have hkey:=hkv.at_ I
 have hnd:((xs.map gEnt).map (·.1)).Nodup:=by rw [YAF];exact nd
 have his:∀ y ∈ xs.map gEnt,NKey s.heap y.1 y.2.1:=fun y hy=>by
  obtain ⟨z,hz,rfl⟩:=YAB.mp hy
  exact (hk z hz).at_ I
 refine YAN F.slot_dict_setdefault ty F.entry_dict_setdefault ?_ (F.args_dict_setdefault_3 _ _ _)
 unfold Builtin.«dict.setdefault»
 refine YAa ?_
 unfold Builtin.Dict.keyAndDefault
 refine YAa (YCU ty (YAb ?_))
 show wpAny _ _ (if (d == sysModules) = true then _ else (dictSetDefault d (.ref kv) (.ref l) >>= _)) _ _ s
 refine za0 (by rw [lo];exact YAy) (YAa ?_)
 unfold dictSetDefault
 refine YAR (YAa ((zfG X.prog X.w).pyHash (show X.A.in1.units + 40 < cLine from by have:X.A.in1.units = X.A.units + 1:=rfl;omega) hkey (YAa ?_)))
 refine wpAny_dictFind_heap (knd:=zfG X.prog X.w) (s:={ s with toks:=s.toks + (3 * ks.length + 1) }) (show X.A.in1.units + 40 < cLine from by have:X.A.in1.units = X.A.units + 1:=rfl;omega) hkey ho hda he his hnd ?_ ?_
 .intro no
  have hne:∀ y ∈ xs,y.1 ≠ ks:=fun y hy e=>by
   obtain ⟨j,hj⟩:=YA4 hy
   exact no j (y.2.1,.ref y.2.2) (by rw [YAk,hj,<- e];rfl)
  refine YAa (YBT (YAa (wpAny_updateDictKeys (hz:=by have e:=size_of_entries he;rw [YAc] at e;rw [YAL];omega) (s:={ s with toks:=s.toks + (3 * ks.length + 1) }) ho hda (YAb (YAb ⟨_,rfl,?_⟩)))))
  refine ⟨.ref l,_,zfI (I.tok (s.toks + (3 * ks.length + 1))) (by rw [hd];trivial) (YBs ..) ⟨_,YAI _ ho (Obj.isFreed_of_dict (YC3 hda _))⟩ (zn4 ⟨lo,_,_,ep + 1,YAI _ ho (Obj.isFreed_of_dict (YC3 hda _)),hx.mapDictKeys _,YC3 hda _,?_⟩),rfl,q2 hne⟩
  rw [YAv,YAv,<- he,YDv];rfl
 .intro j p hj
  rw [YAk] at hj
  cases ej:xs[j]? with
  | none=>rw [ej] at hj;cases hj
  | some y=>
   rw [ej] at hj
   have e1:y.1 = ks:=by have:=Option.some.inj hj;exact congrArg (·.1) this
   refine YAa (YBV (s:={ s with toks:=s.toks + (3 * ks.length + 1) }) ho hda ?_)
   rw [entry_at he j,YAk,ej]
   exact YAa (YBT (YAb (YAb ⟨_,rfl,.ref y.2.2,H,I.tok _,rfl,q1 y (YAA ej) e1⟩)))
end
def EnAt (d:Addr) (es:Array DictEntry) (ep:Nat) (h:Heap):Prop:=∃ o,h.get? d = some o/\o.data = .dict es ep
def EnAt.keep {d:Addr} {es:Array DictEntry} {ep:Nat} {h h':Heap} (x:EnAt d es ep h) (k:∀ o,h.get? d = some o->h'.get? d = some o):EnAt d es ep h':=let ⟨o,e,z⟩:=x;⟨o,k _ e,z⟩
section
variable {prog:Program} {w:World} {A:Around} {E:Value->Shared->Prop} {s:Shared} {it d v:Addr} {i ep:Nat} {es:Array DictEntry}
def zhm:Builtin.Dict_items.ownsTuple "dict_valueiterator" = false:=by decide
def zlj {Q:Option Value->Shared->Prop} (hit:s.heap.IsValIter it d i es.size ep) (hm:EnAt d es ep s.heap) (hi:i < es.size)
  (q:∀ h',h'.IsValIter it d (i + 1) es.size ep->Heap.SameBut it s.heap h'->Q (some es[i].val) { s with heap:=h' }):wpAny (model prog w) A (pyNext (.ref it)) Q E s:=by
 obtain ⟨o,ho,hc,hd⟩:=id hit
 obtain ⟨od,h1,h2⟩:=hm
 unfold pyNext
 refine YAa (YCI (YA6 (name:=Str.ofString "__next__") hit.typeIs YBl (YAN YBl hit.typeIs F.entry_dict_valueiterator_next ?_ (F.args_dict_valueiterator_next_1 _))))
 refine YAa (YAb (YAa (YAa (YAa (YBL hit.typeIs (YAb (YAa (YCB ho hd ?_))))))))
 simp only [zhm,YAK,YBn]
 show wpAny _ _ (if (Value.ref d == Value.none) = true then _ else _) _ _ s
 refine za0 YAy (YAa (YAb (YAa (YBV h1 h2 ?_))))
 refine za0 (by simp) (YAa (YAb (YAa (YCx h1 h2 ?_))))
 refine za0 (by simp) (YAb ?_)
 simp only [show ¬ ((i:Int) < 0) from by omega,YBn,YAE,YAM hi]
 refine YAa (YAa (YBL hit.typeIs (YAb (YAa (YCV hit.typeIs ?_)))))
 show wpAny _ _ (setField (.ref it) 1 (rawInt ((i:Int) + 1)) >>= _) _ _ s
 refine YAa (YDp ho hd (by simp) ?_)
 have hit':(s.heap.update it (Obj.mapFields (·.setIfInBounds 1 (rawInt ((i:Int) + 1))))).IsValIter it d (i + 1) es.size ep:=
  ⟨_,YAI _ ho (Obj.isFreed_of_fields (YCL hd _)),(Obj.cls_mapFields ..).trans hc,by rw [YCL hd];simp [rawInt]⟩
 generalize s.heap.update it (Obj.mapFields (·.setIfInBounds 1 (rawInt ((i:Int) + 1)))) = h3,(YBs s.heap it (Obj.mapFields (·.setIfInBounds 1 (rawInt ((i:Int) + 1)))):Heap.SameBut it s.heap _) = sb at hit' ⊢
 refine YAa (YAR (YAa (YCV (s:={ s with heap:=h3 }) hit'.typeIs (YAa (YCV (s:={ s with heap:=h3 }) hit'.typeIs ?_)))))
 show wpAny _ _ (pure es[i].val) _ _ _
 exact YAb (YAb ⟨_,rfl,YAb (q _ hit' sb)⟩)
def zm2 {Q:Option Value->Shared->Prop} (hh:A.handled = none) (hit:s.heap.IsValIter it d es.size es.size ep) (hm:EnAt d es ep s.heap)
  (q:∀ h',Heap.ExtBut it s.heap h'->Q none { s with heap:=h' }):wpAny (model prog w) A (pyNext (.ref it)) Q E s:=by
 obtain ⟨o,ho,hc,hd⟩:=id hit
 obtain ⟨od,h1,h2⟩:=hm
 unfold pyNext
 refine YAa (YCI (YA6 (name:=Str.ofString "__next__") hit.typeIs YBl (YAN YBl hit.typeIs F.entry_dict_valueiterator_next ?_ (F.args_dict_valueiterator_next_1 _))))
 refine YAa (YAb (YAa (YAa (YAa (YBL hit.typeIs (YAb (YAa (YCB ho hd ?_))))))))
 simp only [zhm,YAK,YBn]
 show wpAny _ _ (if (Value.ref d == Value.none) = true then _ else _) _ _ s
 refine za0 YAy (YAa (YAb (YAa (YBV h1 h2 ?_))))
 refine za0 (by simp) (YAa (YAb (YAa (YCx h1 h2 ?_))))
 refine za0 (by simp) (YAb ?_)
 simp only [show ¬ ((es.size:Int) < 0) from by omega,YBn,YAE,Array.getElem?_eq_none (YAl _)]
 refine YAa (YAa (YBL hit.typeIs (YAb ?_)))
 show wpAny _ _ (setField (.ref it) 0 .none >>= _) _ _ s
 refine YAa (YDp ho hd (by simp) ?_)
 show wpAny _ _ (newExc (.type "StopIteration") [] >>= _) _ _ _
 refine YAa ?_
 simp only [newExc,newTuple]
 refine YAa (YAG ?_ (by size_fits))
 refine YAa (m:=firstArgMember _ _) (YDD (a:=Value.none) (by first | rfl | (simp only [firstArgMember];rfl)) ?_)
 refine YAG ?_ (by size_fits)
 simp only [raiseNew]
 refine YAa (wpAny_handled ?_)
 rw [show A.in1.handled = none from hh]
 refine YAa (YAb (wpAny_throw ?_))
 refine YAa (YBD (T := "StopIteration") (b:=true) ⟨_,YAo _ rfl,rfl⟩ YDY ?_)
 exact YAb (q _ (((YBs ..).extBut.push _).push _))
def zjK (hh:A.handled = none) (I d:Addr) (hne:d ≠ I) (es:Array DictEntry) (ep:Nat):Walks prog w A I [I,d] [I] es.size (fun i v=>(es.map (·.val))[i]? = some v) (fun i h=>h.IsValIter I d i es.size ep/\EnAt d es ep h) where
 sub:=fun b hb=>by simp at hb;simp [hb]
 frame:=fun _ _ _ st hk=>⟨st.1.at fun o e=>hk I (by simp) o e,st.2.keep fun o e=>hk d (by simp) o e⟩
 item:=fun i s Q E hi st q=>zlj st.1 st.2 hi fun h' a b=>q _ h' s.toks (by simp [hi]) ⟨a,st.2.keep fun o e=>b.extBut d o hne e⟩ fun b' o hb e=>b.extBut b' o (fun h=>hb (by simp [h])) e
 done:=fun s Q E st q=>zm2 hh st.1 st.2 fun h' a=>q h' s.toks fun b o hb e=>a b o (fun h=>hb (by simp [h])) e
 self:=fun _ _ _ _ st q=>wpAny_pyIter_valiter st.1 q
def zlp {Q:Value->Shared->Prop} (hv:s.heap.IsValuesView v d) (hm:EnAt d es ep s.heap)
  (q:Q (.ref s.heap.objs.size) { s with heap:=s.heap.push { cls:=.type "dict_valueiterator",data:=.fields #[.ref d,.int 0 0,.int es.size 0,.int ep 0] } }):wpAny (model prog w) A (pyIter (.ref v)) Q E s:=by
 obtain ⟨ov,h1,h2,h3⟩:=id hv
 obtain ⟨o,e1,e2⟩:=hm
 refine YCy hv.typeIs F.slot_dict_values_iter (YAN F.slot_dict_values_iter hv.typeIs F.entry_dict_values_iter ?_ (F.args_dict_values_iter_1 _))
 unfold Builtin.«dict_values.__iter__»
 refine YAa (YAb (YAa ?_))
 unfold Builtin.Dict_items.dictOf
 refine YAa (YCP h1 h3 (x:=.ref d) rfl (YAb (YAa ?_)))
 unfold Builtin.Dict_items.newIterator
 refine YAa (YBV e1 e2 (YAa (YCx e1 e2 ?_)))
 simp only [zhm,YAK,YBn]
 refine YAG (YAb ⟨_,rfl,"dict_valueiterator",_,⟨_,YAo _ rfl,rfl⟩,YBl.lookup,?_⟩)
 simpa [rawInt] using q
def zoD:splitId "dict_values.__len__" = some ("dict_values","__len__"):=by decide +kernel
def zoe:isSubtype (.type "dict_values") (.type "dict_values") = pure true:=by rw [YDW];kernel_rfl
def zhB {Q:Value->Shared->Prop} (hh:A.handled = none) (hv:s.heap.IsValuesView v d) (hm:EnAt d es ep s.heap) (hz:es.size <= 1000)
  (q:∀ h' tk c,(∀ b o,s.heap.get? b = some o->h'.get? b = some o)->h'.get? s.heap.objs.size = some { cls:=.type "list",dict:=none,data:=.seq (es.map (·.val)) c,slots:=#[] }->Q (.ref s.heap.objs.size) { s with heap:=h',toks:=tk }) :
  wpAny (model prog w) A (call (.type "list") [.ref v]) Q E s:=by
 refine callType_codes (Q₁:=fun obj s₁=>obj = .ref s.heap.objs.size/\s₁ = { s with heap:=s.heap.push { cls:=.type "list",data:=.seq #[] } }) F.called_list (F.typeCall_list_1 _) F.entry_list_init (code_list_new _ ⟨rfl,rfl⟩) fun obj s₁ h₁=>?_
 obtain ⟨rfl,rfl⟩:=h₁
 have hS:(s.heap.push { cls:=.type "list",data:=.seq #[] }).get? s.heap.objs.size = some { cls:=.type "list",data:=.seq #[] }:=YAo _ rfl
 have vlt:v < s.heap.objs.size:=let ⟨o,e,_⟩:=hv;YAp e
 have dlt:d < s.heap.objs.size:=let ⟨o,e,_⟩:=hm;YAp e
 have k1:∀ b o,s.heap.get? b = some o->(s.heap.push { cls:=.type "list",data:=.seq #[] }).get? b = some o:=fun b o e=>YAe _ e
 have z1:(s.heap.push { cls:=.type "list",data:=.seq #[] }).objs.size = s.heap.objs.size + 1:=YBm ..
 refine ⟨⟨_,hS,rfl⟩,F.args_list_init_2 _ _,?_⟩
 generalize s.heap.push { cls:=.type "list",data:=.seq #[] } = h1 at *
 show wpAny _ _ (do let old <- Builtin.List.listItems (.ref s.heap.objs.size);Builtin.List.listUpdate (.ref s.heap.objs.size) (fun _=>#[]);letGo old.toList.reverse;Builtin.List.listExtendWith (.ref s.heap.objs.size) (.ref v) .none) _ _ { s with heap:=h1 }
 refine YAa ?_
 unfold Builtin.List.listItems
 refine YAa (YCC hS rfl (YAb ?_))
 show wpAny _ _ (updateSeq s.heap.objs.size (fun _=>#[]) >>= fun _=>letGo (#[]:Array Value).toList.reverse >>= fun _=>Builtin.List.listExtendWith (.ref s.heap.objs.size) (.ref v) .none) _ _ { s with heap:=h1 }
 refine YAa (YBz (s:={ s with heap:=h1 }) hS rfl ?_)
 have hS2:=YAI (Obj.mapSeq (fun _=>(#[]:Array Value))) hS rfl
 have o2:∀ b o,b ≠ s.heap.objs.size->h1.get? b = some o->(h1.update s.heap.objs.size (Obj.mapSeq (fun _=>(#[]:Array Value)))).get? b = some o:=fun b o hb e=>(YAU _ _ (Ne.symm hb)).trans e
 have z2:(h1.update s.heap.objs.size (Obj.mapSeq (fun _=>(#[]:Array Value)))).objs.size = s.heap.objs.size + 1:=by rw [Heap.size_update];exact z1
 refine YAa (wpAny_letGo ?_)
 generalize h1.update s.heap.objs.size (Obj.mapSeq (fun _=>(#[]:Array Value))) = h2 at *
 have low:∀ b o,s.heap.get? b = some o->h2.get? b = some o:=fun b o e=>o2 b o (YAt (YAp e)) (k1 b o e)
 have hv2:h2.IsValuesView v d:=let ⟨o,e,z⟩:=hv;⟨o,low _ _ e,z⟩
 have hm2:EnAt d es ep h2:=hm.keep fun o e=>low _ _ e
 have ty:Shared.TypeIs { s with heap:=h2 } (.ref v) "dict_values" := hv2.typeIs
 unfold Builtin.List.listExtendWith
 refine YAa (YBG ty ?_)
 simp only [show Builtin.List.listSameRef (.ref s.heap.objs.size) (.ref v) = false by simp [Builtin.List.listSameRef,YA0 vlt],show (Value.type "dict_values" == Value.type "list") = false by decide,show (Value.type "dict_values" == Value.type "tuple") = false by decide,YC5,YAK,YBn]
 refine YAa (zlp (s:={ s with heap:=h2 }) hv2 hm2 ?_)
 rw [show ({ s with heap:=h2 }:Shared).heap.objs.size = s.heap.objs.size + 1 from z2]
 have hI:(h2.push { cls:=.type "dict_valueiterator",data:=.fields #[.ref d,.int 0 0,.int es.size 0,.int ep 0] }).IsValIter (s.heap.objs.size + 1) d 0 es.size ep:=⟨_,by rw [<- z2];exact YAo _ rfl,rfl,rfl⟩
 have k3:∀ b o,h2.get? b = some o->(h2.push { cls:=.type "dict_valueiterator",data:=.fields #[.ref d,.int 0 0,.int es.size 0,.int ep 0] }).get? b = some o:=fun b o e=>YAe _ e
 generalize h2.push { cls:=.type "dict_valueiterator",data:=.fields #[.ref d,.int 0 0,.int es.size 0,.int ep 0] } = h3 at *
 have ty3:Shared.TypeIs { s with heap:=h3 } (.ref v) "dict_values" := let ⟨o,e,z⟩:=hv2;⟨o,k3 _ _ e,z.1⟩
 refine YAa (YAR ?_)
 unfold Builtin.List.listLengthHint
 refine YAa (YBx ty3 PySem.F.slot_dict_values_len.lookup ?_)
 dsimp only
 rw [zoD]
 dsimp only
 refine YAa (YBD ty3 zoe ?_)
 refine za0 (by decide) (zdX (by decide +kernel) (YAa (YBG ty3 (YAb ?_))))
 refine zdX (by decide +kernel) (YAa (YBT (YAa ?_)))
 show wpAny _ _ (updateSeq s.heap.objs.size (·.push .none) >>= fun _=>updateSeq s.heap.objs.size (·.pop)) _ _ _
 have hS3:=k3 _ _ hS2
 refine YAa (YBz (s:={ s with heap:=h3 }) hS3 rfl ?_)
 have hS4:=YAI (Obj.mapSeq (·.push Value.none)) hS3 rfl
 refine YBz (hz:=by seq_fits) hS4 rfl ?_
 have hS5:=YAI (Obj.mapSeq (·.pop)) hS4 rfl
 have o4:∀ b o,b ≠ s.heap.objs.size->h3.get? b = some o->((h3.update s.heap.objs.size (Obj.mapSeq (·.push Value.none))).update s.heap.objs.size (Obj.mapSeq (·.pop))).get? b = some o:=fun b o hb e=>
  (YAU _ _ (Ne.symm hb)).trans ((YAU _ _ (Ne.symm hb)).trans e)
 have nS:s.heap.objs.size ∉ [s.heap.objs.size + 1,d]:=by
  simp only [YAs,YAT,YB7,not_or]
  exact ⟨YAt (YBp _),YA0 dlt⟩
 have W:=(zjK (prog:=prog) (w:=w) (A:=A.in1.in1) hh (s.heap.objs.size + 1) d (YAt (YA8 dlt)) es ep).toS
 refine YAb ⟨YCJ YCd _,YCA W (by rw [YAL];omega) _ nS _ es.size 0 _ _ _ rfl (YAD _) ⟨hI.at fun o e=>o4 _ _ (YA0 (YBp _)) e,(hm2.keep fun o e=>k3 _ _ e).keep fun o e=>o4 _ _ (YAt dlt) e⟩ hS5 (YD0 _) fun s' acc' c' hm' hS' hacc=>?_⟩
 have ev:acc' = es.map (·.val):=by
  apply Array.ext
  .rw [hacc.1,Array.size_map]
  .intro j j1 j2
   have:(es.map (·.val))[j]? = some acc'[j]:=hacc.2 j acc'[j] (by simp [j1])
   rw [YAM j2] at this
   exact (Option.some.inj this).symm
 subst ev
 obtain ⟨hh',g',d',tk',o'⟩:=s'
 have eg:g' = s.gens:=hm'.gens
 have ed:d' = s.drawn:=hm'.drawn
 have eo:o' = s.os:=hm'.os
 subst eg ed eo
 exact ⟨rfl,q hh' tk' c' (fun b o e=>hm'.heap b o (by
  have hb1:=YAp e
  simp only [YAs,YAT,YB7,not_or]
  exact ⟨YAt hb1,YAt (YA8 hb1)⟩) (o4 b o (YAt (YAp e)) (k3 b o (low b o e)))) hS'⟩
end
def VwO (p d:Addr):HO:=.ext fun h=>h.IsValuesView p d
section
variable {X:Cx} {o e e2:Expr} {to:TE} {t:TA} {apos cpos pos p:Pos}
def zie {O:List (Addr × Obj)} {Y:St} {H:Hp} {s:Shared} {d:Addr} {xs:GX} (I:Inv X O Y H s) (h:H d = some (GdO X.prog X.w d xs)):s.TypeIs (.ref d) "dict" /\ ∀ a,Value.ref d = .ref a->∃ ob,s.heap.get? a = some ob/\ob.dict = none:=by
 have gd:GdAt X.prog X.w d xs s.heap:=(I.hok d _ h).1
 obtain ⟨o,es,ep,ho,hx,_⟩:=gd.ex
 exact ⟨⟨o,ho,hx.1⟩,fun a e=>by cases e;exact ⟨o,ho,hx.2.1⟩⟩
def zjI (hu:X.A.units + 64 < cLine) (ho:PE X o to) (ha:PA X [e,e2] t) (hbase:attributeBase o "setdefault" X.env (eval o X.env) = eval o X.env:=by rfl)
  (hfew:((backTo cpos (starEach [e,e2] X.env)).all (fun x=>!x.1) && (backToKw cpos (keywordEach [] X.env)).all (fun x=>x.1.isSome)
   && decide (([e,e2]:List Expr).length + ([]:List Keyword).length + (if ([]:List Keyword).isEmpty then 0 else 1) < 30)) = true:=by rfl)
  (hline:(apos.endLine == cpos.line) = true:=by rfl) (hs:starEach [e,e2] X.env = (false,eval e X.env) :: starEach [e2] X.env:=by rfl) (hplain:(backTo cpos (starEach [e2] X.env)).any (·.1) = false:=by rfl) :
  PE X (.Call (.Attribute o "setdefault" apos) [e,e2] [] cpos) (fun Y H Q=>to Y H fun x H1=>(∃ d xs,x = .ref d/\H1 d = some (GdO X.prog X.w d xs))/\t Y H1 fun vs H2=>zjB X x vs H2 Q):=by
 intro O s Y H Q I h
 refine wpAny_Call_method_late hbase hfew hline rfl (thn (ho O s Y H _ I h) fun v s1 ⟨x,H1,I1,r1,⟨d,xs,ex,hd⟩,q1⟩=>?_)
 subst ex
 cases r1
 obtain ⟨h1,h2⟩:=zie I1 hd
 refine ⟨"dict","dict.setdefault",YBP,PySem.F.slot_dict_setdefault,PySem.F.type_dict_setdefault,h1,h2,?_⟩
 have hA:=ha cpos O s1 Y H1 _ I1 q1
 rw [hs] at hA ⊢
 refine YBZ (by show (false || (backTo cpos (starEach [e2] X.env)).any (·.1)) = false;rw [hplain] <;> rfl) (YCz ?_)
 exact thn hA fun us s2 ⟨vs,H2,I2,r2,q2⟩=>zjv hu O s2 Y H2 (.ref d) vs _ us Q I2 rfl r2 q2
def zjN (ho:PE X o to) (hbase:attributeBase o "values" X.env (eval o X.env) = eval o X.env:=by rfl) (hline:(apos.endLine == cpos.line) = true:=by rfl) :
  PE X (.Call (.Attribute o "values" apos) [] [] cpos) (fun Y H Q=>to Y H fun x H1=>∃ d xs,x = .ref d/\H1 d = some (GdO X.prog X.w d xs)/\∀ v,H1 v = none->Q (.ref v) (upd H1 v (VwO v d))):=by
 intro O s Y H Q I h
 refine wpAny_Call_method0_late hbase hline (thn (ho O s Y H _ I h) fun v s1 ⟨x,H1,I1,r1,d,xs,ex,hd,q1⟩=>?_)
 subst ex
 cases r1
 obtain ⟨h1,h2⟩:=zie I1 hd
 have gd:GdAt X.prog X.w d xs s1.heap:=(I1.hok d _ hd).1
 refine ⟨"dict","dict.values",YBP,PySem.F.slot_dict_values,PySem.F.type_dict_values,h1,h2,YBZ rfl (PySem.evalArgs_none (YAN F.slot_dict_values h1 F.entry_dict_values ?_ (F.args_dict_values_1 _)))⟩
 refine YAa ?_
 unfold Builtin.Dict.noArgs
 refine YAa (YCU h1 (YAb ?_))
 show wpAny _ _ (Builtin.Dict.showsAll d >>= _) _ _ s1
 unfold Builtin.Dict.showsAll
 refine YAa (za0 (by rw [gd.lo];exact YAy) (YAb (YAa (YAG (YAb ⟨_,rfl,?_⟩)))))
 refine ⟨.ref s1.heap.objs.size,_,I1.laid (a:=s1.heap.objs.size) (o:=VwO s1.heap.objs.size d) (t':=s1.toks) (fun _ _ q=>YAe _ q) (YAl _) ⟨?_,⟨_,YAo _ rfl⟩,fun a b x k=>let ⟨o,e,z⟩:=x;⟨o,k _ e,z⟩⟩,rfl,q1 _ (I1.hok.fresh (YAl _))⟩
 exact ⟨_,YAo _ rfl,rfl,rfl⟩
def ze8 (hc:X.calm = true):CallR X (.type "list") (fun vs H Q=>∃ p d xs,vs = [.ref p]/\H p = some (VwO p d)/\H d = some (GdO X.prog X.w d xs)/\xs.length <= 1000/\∀ l,H l = none->Q (.ref l) (upd H l (.lst (xs.map fun x=>.ref x.2.2)))):=by
 intro O s Y H vs us Q I r h
 obtain ⟨p,d,xs,rfl,hp,hd,hz,q⟩:=h
 obtain ⟨u,rfl,rx⟩:=zdv r
 cases rx
 have gd:GdAt X.prog X.w d xs s.heap:=(I.hok d _ hd).1
 have vw:s.heap.IsValuesView p d:=(I.hok p _ hp).1
 obtain ⟨lo,o,es,ep,ho,hx,hda,he⟩:=id gd
 have hsz:=size_of_entries he
 rw [YAc] at hsz
 refine zhB (I.ok.hd hc) vw ⟨o,ho,hda⟩ (by omega) fun h' tk c' k g=>?_
 refine ⟨.ref s.heap.objs.size,upd H s.heap.objs.size (.lst (xs.map fun x=>.ref x.2.2)),I.laid (t':=tk) k (YAl _) ⟨by rw [YAc,YAL];omega,xs.map fun x=>Value.ref x.2.2,c',?_,?_⟩,rfl,q _ (I.hok.fresh (YAl _))⟩
 .clear hz hsz he gd hd q hp vw k g
  induction xs with
  | nil=>exact .nil
  | cons x xs ih=>exact .cons rfl ih
 .rw [g]
  congr 2
  have e:(es.map (·.val)) = (xs.map fun x=>Value.ref x.2.2).toArray:=by
   apply Array.toList_inj.mp
   rw [Array.toList_map,he,YAF,YAF]
   rfl
  rw [e]
end
end L2
namespace Fd
open PySem L2
def keyD (ks:PKy):D:=.tup (ks.map fun p=>.tup [.int p.1,.int p.2])
abbrev Gs:=List (PKy × List D)
def putG (gs:Gs) (ks:PKy) (x:D):Gs:=if gs.any (fun g=>decide (g.1 = ks)) = true then gs.map fun g=>if g.1 = ks then (g.1,g.2 ++ [x]) else g else gs ++ [(ks,[x])]
noncomputable def grpL (ti ta tb:Nat) (A B:WE) (Q:D->Prop):List D->Env->Gs->Prop
 | [],_,gs=>Q (.lst true (gs.map fun g=>.lst true g.2))
 | x :: xs,Z,gs=>A (Z.set ti (.val x)) fun a=>B ((Z.set ti (.val x)).set ta (.val a)) fun b=>∃ ks,b = keyD ks/\grpL ti ta tb A B Q xs (((Z.set ti (.val x)).set ta (.val a)).set tb (.val b)) (putG gs ks x)
def grpW (td ti ta tb:Nat) (I:WL) (A B:WE):WS:=fun E Z=>(NoOwn Z/\td < Z.length/\ti < Z.length/\ta < Z.length/\tb < Z.length)/\I (Z.set td .un) fun xs=>xs.length <= 100/\grpL ti ta tb A B E.rt xs (Z.set td .un) []
theorem zgu {ti ta tb:Nat} {A B:WE} (mA:zbf A) (mB:zbf B) {Q Q':D->Prop} (k:∀ d,Q d->Q' d):∀ xs Z gs,grpL ti ta tb A B Q xs Z gs->grpL ti ta tb A B Q' xs Z gs
 | [],Z,gs,q=>k _ q
 | x :: xs,Z,gs,q=>mA _ _ _ (fun a z=>mB _ _ _ (fun b ⟨ks,e,y⟩=>⟨ks,e,zgu mA mB k xs _ _ y⟩) z) q
def NoOwn.unset {Z:Env} (h:NoOwn Z) (i:Nat):NoOwn (Z.set i .un):=fun j xs e=>by
 by_cases z:i = j
 .subst z
  by_cases hl:i < Z.length
  .rw [YAr hl] at e;cases e
  .rw [YB8 (by simpa using hl)] at e;cases e
 .rw [YAj z] at e;exact h j xs e
structure G1 (c:Bk) (H G:Hp) (g:PKy × List D) (x:PKy × Addr × Addr):Prop where
 key:x.1 = g.1
 kv:KeyV c.K G x.1 x.2.1
 ls:∃ vs,H x.2.2 = some (.lst vs)/\Reps c G g.2 vs
 gn:G x.2.2 = none
 h0:c.H0 x.2.2 = none
 nb:x.2.2 ≠ c.β
structure GD (X:Cx) (c:Bk) (H G:Hp) (d:Addr) (gs:Gs) (xs:GX):Prop where
 dict:H d = some (GdO X.prog X.w d xs)
 gn:G d = none
 h0:c.H0 d = none
 nb:d ≠ c.β
 all:Paired (G1 c H G) gs xs
 nl:(xs.map (·.2.2)).Nodup
 nk:(xs.map (·.1)).Nodup
def KeyV.mono {K:oS} {G G':Hp} {ks:PKy} {a:Addr} (s:Same G G') (k:KeyV K G ks a):KeyV K G' ks a:=by
 obtain ⟨vs,h,p⟩:=k
 exact ⟨vs,zaN s h,Paired.imp' (fun x u ⟨b,e,q⟩=>⟨b,e,zaN s q⟩) p⟩
def zmD {c:Bk} {G:Hp} {ks:PKy} {v:V} (h:Rep c G (keyD ks) v):∃ a,v = .ref a/\KeyV c.K G ks a:=by
 obtain ⟨a,vs,rfl,ha,hv⟩:=h
 refine ⟨a,rfl,vs,ha,?_⟩
 clear ha
 induction ks generalizing vs with
 | nil=>cases hv;exact .nil
 | cons x ks ih=>
  obtain ⟨v,ws,rfl,h1,h2⟩:=hv
  refine .cons ?_ (ih ws h2)
  obtain ⟨b,us,rfl,hb,hu⟩:=h1
  obtain ⟨u1,u2,rfl,e1,e2⟩:=zmN hu
  have e1:u1 = V.int x.1:=e1
  have e2:u2 = V.int x.2:=e2
  subst e1 e2
  exact ⟨b,rfl,hb⟩
def G1.step {c:Bk} {H G H' G':Hp} {g:PKy × List D} {x:PKy × Addr × Addr} (t:Stp c.β H G H' G') (p:G1 c H G g x):G1 c H' G' g x:=by
 obtain ⟨vs,h1,h2⟩:=p.ls
 exact ⟨p.key,KeyV.mono t.gg p.kv,⟨vs,t.fr _ _ p.nb h1,h2.mono t.gg⟩,t.still_none h1 p.gn,p.h0,p.nb⟩
theorem GD.step {X:Cx} {c:Bk} {H G H' G':Hp} {d:Addr} {gs:Gs} {xs:GX} (t:Stp c.β H G H' G') (p:GD X c H G d gs xs):GD X c H' G' d gs xs:=
 ⟨t.fr _ _ p.nb p.dict,t.still_none p.dict p.gn,p.h0,p.nb,Paired.imp' (fun _ _ q=>q.step t) p.all,p.nl,p.nk⟩
def G1.poke {c:Bk} {H G:Hp} {g:PKy × List D} {x:PKy × Addr × Addr} {l:Addr} {o:HO} (p:G1 c H G g x) (n:x.2.2 ≠ l):G1 c (upd H l o) G g x:=by
 obtain ⟨vs,h1,h2⟩:=p.ls
 exact ⟨p.key,p.kv,⟨vs,by rw [zae n];exact h1,h2⟩,p.gn,p.h0,p.nb⟩
theorem zbe {α β:Type} {F:α->β->Prop}:∀ {xs:List α} {ys:List β},Paired F xs ys->∀ y ∈ ys,∃ x ∈ xs,F x y
 | _,_,.cons a b,y,h=>by
  rcases YAs.mp h with rfl | h
  .exact ⟨_,YAi,a⟩
  .obtain ⟨x,hx,r⟩:=zbe b y h
   exact ⟨x,YAn _ hx,r⟩
def zmk {α:Type} {N:List α} (hN:N.Nodup) {i j:Nat} {x:α} (a:N[i]? = some x) (b:N[j]? = some x):i = j:=by
 obtain ⟨hi,ei⟩:=YAh.mp a
 obtain ⟨hj,ej⟩:=YAh.mp b
 exact (YCW hN).mp (ei.trans ej.symm)
def znG {X:Cx} {c:Bk} {H G:Hp} {d:Addr} {gs:Gs} {xs:GX} {y:PKy × Addr × Addr} {ks:PKy} {x:D} {v:V} {vs:List V} (p:GD X c H G d gs xs) (hy:y ∈ xs) (e:y.1 = ks) (hl:H y.2.2 = some (.lst vs)) (rx:Rep c G x v) :
  GD X c (upd H y.2.2 (.lst (vs ++ [v]))) G d (putG gs ks x) xs:=by
 have nd:d ≠ y.2.2:=fun z=>by have:=p.dict;rw [z,hl] at this;cases this
 have hany:gs.any (fun g=>decide (g.1 = ks)) = true:=by
  obtain ⟨g,hg,q⟩:=zbe p.all y hy
  exact YB2.mpr ⟨g,hg,YAS (q.key.symm.trans e)⟩
 refine ⟨by rw [zae nd];exact p.dict,p.gn,p.h0,p.nb,?_,p.nl,p.nk⟩
 unfold putG
 rw [if_pos hany]
 have go:∀ {gs:Gs} {xs:GX},Paired (G1 c H G) gs xs->(∀ z ∈ xs,z.1 = ks ↔ z.2.2 = y.2.2)->Paired (G1 c (upd H y.2.2 (.lst (vs ++ [v]))) G) (gs.map fun g=>if g.1 = ks then (g.1,g.2 ++ [x]) else g) xs:=by
  intro gs xs q k
  induction q with
  | nil=>exact .nil
  | @cons g z gs xs a _ ih=>
   refine .cons ?_ (ih fun z hz=>k z (YAn _ hz))
   have kz:=k z YAi
   show G1 c _ G (if g.1 = ks then (g.1,g.2 ++ [x]) else g) z
   by_cases e2:g.1 = ks
   .rw [if_pos e2]
    have ez:z.2.2 = y.2.2:=kz.mp (a.key.trans e2)
    obtain ⟨ws,h1,h2⟩:=a.ls
    rw [ez,hl] at h1
    cases h1
    exact ⟨a.key,a.kv,⟨vs ++ [v],by rw [ez,zac],h2.append (.one rx)⟩,a.gn,a.h0,a.nb⟩
   .rw [if_neg e2]
    exact a.poke fun ez=>e2 (a.key.symm.trans (kz.mpr ez))
 refine go p.all fun z hz=>⟨fun ek=>?_,fun el=>?_⟩
 .obtain ⟨i,hi⟩:=YA4 hz
  obtain ⟨j,hj⟩:=YA4 hy
  have h1:(xs.map (·.1))[i]? = some ks:=by rw [YAk,hi];exact congrArg some ek
  have h2:(xs.map (·.1))[j]? = some ks:=by rw [YAk,hj];exact congrArg some e
  have:=zmk p.nk h1 h2
  subst this
  rw [hi] at hj;cases hj;rfl
 .obtain ⟨i,hi⟩:=YA4 hz
  obtain ⟨j,hj⟩:=YA4 hy
  have h1:(xs.map (·.2.2))[i]? = some y.2.2:=by rw [YAk,hi];exact congrArg some el
  have h2:(xs.map (·.2.2))[j]? = some y.2.2:=by rw [YAk,hj];rfl
  have:=zmk p.nl h1 h2
  subst this
  rw [hi] at hj;cases hj;exact e
def zmP {X:Cx} {c:Bk} {H G:Hp} {d l kv:Addr} {gs:Gs} {xs:GX} {ks:PKy} {x:D} {v:V} (p:GD X c H G d gs xs) (no:∀ y ∈ xs,y.1 ≠ ks) (hl:H l = none) (h0:c.H0 l = none) (hb:l ≠ c.β) (gl:G l = none) (hk:KeyV c.K G ks kv) (rx:Rep c G x v) :
  GD X c (upd (upd (upd H l (.lst [])) d (GdO X.prog X.w d (xs ++ [(ks,kv,l)]))) l (.lst [v])) G d (putG gs ks x) (xs ++ [(ks,kv,l)]):=by
 have nd:d ≠ l:=zad p.dict hl
 have hany:¬ gs.any (fun g=>decide (g.1 = ks)) = true:=fun h=>by
  obtain ⟨g,hg,e⟩:=YB2.mp h
  have e:=YAV e
  have go:∀ {gs:Gs} {xs:GX},Paired (G1 c H G) gs xs->g ∈ gs->∃ y ∈ xs,y.1 = g.1:=by
   intro gs xs q hm
   induction q with
   | nil=>cases hm
   | cons a _ ih=>
    rcases YAs.mp hm with rfl | hm
    .exact ⟨_,YAi,a.key⟩
    .obtain ⟨y,hy,e⟩:=ih hm
     exact ⟨y,YAn _ hy,e⟩
  obtain ⟨y,hy,ey⟩:=go p.all hg
  exact no y hy (ey.trans e)
 have ln:∀ y ∈ xs,y.2.2 ≠ l:=fun y hy z=>by
  obtain ⟨g,_,q⟩:=zbe p.all y hy
  obtain ⟨vs,h1,_⟩:=q.ls
  rw [z,hl] at h1;cases h1
 refine ⟨by rw [zae nd,zac],p.gn,p.h0,p.nb,?_,?_,?_⟩
 .unfold putG
  rw [if_neg hany]
  have go:∀ {gs:Gs} {zs:GX},Paired (G1 c H G) gs zs->(∀ z ∈ zs,z ∈ xs)->Paired (G1 c (upd (upd (upd H l (.lst [])) d (GdO X.prog X.w d (xs ++ [(ks,kv,l)]))) l (.lst [v])) G) (gs ++ [(ks,[x])]) (zs ++ [(ks,kv,l)]):=by
   intro gs zs q k
   induction q with
   | nil=>exact .cons ⟨rfl,hk,⟨[v],zac,.one rx⟩,gl,h0,hb⟩ .nil
   | @cons g z gs zs a _ ih=>
    refine .cons ?_ (ih fun z hz=>k z (YAn _ hz))
    have n1:=ln z (k z YAi)
    refine ((a.poke n1).poke ?_).poke n1
    obtain ⟨vs,h1,_⟩:=a.ls
    exact fun e=>by have:=p.dict;rw [<- e,h1] at this;cases this
  exact go p.all fun z hz=>hz
 .rw [YAv]
  refine YBU.mpr ⟨p.nl,by simp,fun a ha b hb' e=>?_⟩
  obtain ⟨y,hy,rfl⟩:=YAB.mp ha
  have:b = l:=by simpa using hb'
  exact ln y hy (e.trans this)
 .rw [YAv]
  refine YBU.mpr ⟨p.nk,by simp,fun a ha b hb' e=>?_⟩
  obtain ⟨y,hy,rfl⟩:=YAB.mp ha
  have:b = ks:=by simpa using hb'
  exact no y hy (e.trans this)
theorem zgy {c:Bk} {H:Hp}:∀ {gs:Gs} {xs:GX} {G:Hp},Stp c.β c.H0 c.G0 H G->Paired (G1 c H G) gs xs->(xs.map (·.2.2)).Nodup->∃ G',Same G G'/\Stp c.β c.H0 c.G0 H G'/\Reps c G' (gs.map fun g=>.lst true g.2) (xs.map fun x=>.ref x.2.2)/\∀ a,a ∉ xs.map (·.2.2)->G' a = G a
 | _,_,G,t,.nil,_=>⟨G,Same.refl _,t,rfl,fun _ _=>rfl⟩
 | _,_,G,t,@Paired.cons _ _ _ g x gs xs a b,nd=>by
  rw [YAf,YBb] at nd
  obtain ⟨G1,s1,t1,r1,k1⟩:=zgy t b nd.2
  obtain ⟨vs,h1,h2⟩:=a.ls
  have gx:G1 x.2.2 = none:=by rw [k1 _ nd.1];exact a.gn
  have s2:Same G1 (upd G1 x.2.2 (.lst vs)):=zbq gx
  refine ⟨upd G1 x.2.2 (.lst vs),s1.trans s2,t1.still h1 a.h0 a.nb gx,⟨.ref x.2.2,_,rfl,⟨x.2.2,vs,rfl,zac,fun _=>a.h0,h2.mono (s1.trans s2)⟩,r1.mono s2⟩,fun b hb=>?_⟩
  rw [YAf,YAs,not_or] at hb
  rw [zae hb.1];exact k1 b hb.2
def zhY {gs:Gs} {ks:PKy} {x:D} {n:Nat} (h:∀ g ∈ gs,g.2.length <= n):∀ g ∈ putG gs ks x,g.2.length <= n + 1:=fun g hg=>by
 unfold putG at hg
 split at hg
 .obtain ⟨g',hg',rfl⟩:=YAB.mp hg
  have:=h g' hg'
  split
  .simp;omega
  .omega
 .rcases YAm.mp hg with z | z
  .have:=h g z;omega
  .rw [YAg.mp z];simp
section
variable {X:Cx} {c:Bk} {iter e1 e2:Expr} {xd xi xa xb:Str} {I:WL} {A B:WE} {p1 p2 p3 q1 q2 r1 r2 r3 r4 s1 s2 s3 s4 s5 s6 s7 s8 s9 u1 u2 u3 u4 u5 u6:Pos}
abbrev NV (X:Cx) (i:Nat) (x:Str):Prop:=X.N[i]? = some x/\Vis X.env.scope x/\(Loc X.env.scope x/\(X.fn x = true\/X.env.scope.names.lookup x = some .local))/\(x == ("__debug__" : Str)) = false/\(x == ("__classdict__" : Str)) = false
def NV.pe {i:Nat} {x:Str} {pos:Pos} (h:NV X i x):PE X (.Name x pos) (tVar i):=zdl h.1 h.2.1 h.2.2.2.1 h.2.2.2.2
def zpE (td ti ta tb:Nat) (hI:DI X c (.Name xi q1) iter I) (hA:DE X c e1 A) (hB:DE X c e2 B) (vd:NV X td xd:=by exact ⟨rfl,by first | exact Or.inl rfl | exact Or.inr (Or.inl rfl),by first | exact ⟨Or.inl rfl,.inr rfl⟩ | exact ⟨Or.inr rfl,.inl rfl⟩,by decide,by decide⟩) (vi:NV X ti xi:=by exact ⟨rfl,by first | exact Or.inl rfl | exact Or.inr (Or.inl rfl),by first | exact ⟨Or.inl rfl,.inr rfl⟩ | exact ⟨Or.inr rfl,.inl rfl⟩,by decide,by decide⟩) (va:NV X ta xa:=by exact ⟨rfl,by first | exact Or.inl rfl | exact Or.inr (Or.inl rfl),by first | exact ⟨Or.inl rfl,.inr rfl⟩ | exact ⟨Or.inr rfl,.inl rfl⟩,by decide,by decide⟩) (vb:NV X tb xb:=by exact ⟨rfl,by first | exact Or.inl rfl | exact Or.inr (Or.inl rfl),by first | exact ⟨Or.inl rfl,.inr rfl⟩ | exact ⟨Or.inr rfl,.inl rfl⟩,by decide,by decide⟩)
  (ne:td ≠ ti/\td ≠ ta/\td ≠ tb/\ti ≠ ta/\ti ≠ tb/\ta ≠ tb:=by decide) (hg:Gl X "list" := by rfl) (hK:c.K = X.K:=by rfl) (hc:X.calm = true:=by rfl)
  (w1:swapsWith (.Dict [] [] p2) (some (.Name xd p1)) p3.line X.env = pure false:=by rfl) (w2:swapsWith e1 (some (.Name xa r1)) r2.line X.env = pure false:=by rfl) (w3:swapsWith e2 (some (.Name xb r3)) r4.line X.env = pure false:=by rfl)
  (w4:swapsWith (.Call (.Attribute (.Call (.Attribute (.Name xd s1) "setdefault" s2) [.Name xb s3,.List [] s4] [] s5) "append" s6) [.Name xi s7] [] s8) none s9.line X.env = pure false:=by rfl)
  (b1:attributeBase (.Name xd s1) "setdefault" X.env (eval (.Name xd s1) X.env) = eval (.Name xd s1) X.env:=by rfl) (b2:attributeBase (.Name xd u2) "values" X.env (eval (.Name xd u2) X.env) = eval (.Name xd u2) X.env:=by rfl)
  (b3:attributeBase (.Call (.Attribute (.Name xd s1) "setdefault" s2) [.Name xb s3,.List [] s4] [] s5) "append" X.env (eval (.Call (.Attribute (.Name xd s1) "setdefault" s2) [.Name xb s3,.List [] s4] [] s5) X.env) = eval (.Call (.Attribute (.Name xd s1) "setdefault" s2) [.Name xb s3,.List [] s4] [] s5) X.env:=by rfl)
  (l1:(s2.endLine == s5.line) = true:=by rfl) (l2:(s6.endLine == s8.line) = true:=by rfl) (l3:(u3.endLine == u4.line) = true:=by rfl)
  (hs:∀ x,foldedSetIterable iter X.env x = pure x:=by intro _;rfl) (hp:PassesOwn (model X.prog X.w) X.A X.env X.xe:=by exact YBd) (hN:X.N.Nodup:=by decreasing_trivial) (hm:X.mg "list" = none:=by decreasing_trivial) (hu:X.A.units + 64 < cLine:=by decreasing_trivial) :
  DSs X c [.Assign [.Name xd p1] (.Dict [] [] p2) p3,
   .For (.Name xi q1) iter [.Assign [.Name xa r1] e1 r2,.Assign [.Name xb r3] e2 r4,.Expr (.Call (.Attribute (.Call (.Attribute (.Name xd s1) "setdefault" s2) [.Name xb s3,.List [] s4] [] s5) "append" s6) [.Name xi s7] [] s8) s9] [] q2,
   .Return (some (.Call (.Name "list" u1) [.Call (.Attribute (.Name xd u2) "values" u3) [] [] u4] [] u5)) u6] (grpW td ti ta tb I A B) where
 mono:=fun E E' Z l ⟨no,q⟩=>⟨no,hI.mono _ _ _ (fun xs z=>⟨z.1,zgu hA.mono hB.mono l.rt xs _ _ z.2⟩) q⟩
 pss:=zdG (zai (zaM hN vd.1 vd.2.2.1.1 znA w1 vd.2.2.1.2) (zai (zbO hp hc hI.pi (zas hN vi.1 vi.2.2.1.1 vi.2.2.1.2) (zai (zaM hN va.1 va.2.2.1.1 hA.pe w2 va.2.2.1.2) (zai (zaM hN vb.1 vb.2.2.1.1 hB.pe w3 vb.2.2.1.2)
   (zap (zcG (ziK YBA YBt YBu zbs (zjI hu vd.pe (zaf vb.pe (zaf (zcS pa_nil) pa_nil rfl) rfl) b1 rfl l1 rfl rfl) (zaf vi.pe pa_nil rfl) b3 rfl l2 rfl rfl) w4)))) hs)
   (zap (za3 (zb5 (ze8 hc) hg hm YB0 (zaf (zjN vd.pe b2 l3) pa_nil rfl) (by decide) (by decide) rfl rfl))))) fun D Y H ⟨Z,G,r,⟨no,ld,li,la,lb⟩,q⟩=>by
  obtain ⟨n1,n2,n3,n4,n5,n6⟩:=ne
  intro d hd
  have t0:Stp c.β H G (upd H d (GdO X.prog X.w d [])) G:=Stp.own r.gh r.bx hd
  have r0:=(r.step t0).unset td (.ref d)
  refine ⟨Z.set td .un,G,r0,hI.mono _ _ _ (fun xs ⟨hz,z⟩ J H1 G1 t1 it=>?_) q⟩
  have gd0:GD X c (upd H d (GdO X.prog X.w d [])) G d [] []:=⟨zac,zar r.gh hd,r.new0 hd,r.neβ hd,.nil,YCb,YCb⟩
  refine ⟨fun i m Y' H'=>m = xs.length - i/\i <= xs.length/\∃ Z' G' gs gx,Rel c Z' Y' H' G'/\NoOwn Z'/\Z'.length = Z.length/\Y'[td]? = some (some (.ref d))/\Same G1 G'/\GD X c H' G' d gs gx/\gx.length <= i/\(∀ g ∈ gs,g.2.length <= i)/\grpL ti ta tb A B (ends c G D).rt (xs.drop i) Z' gs,
   ⟨xs.length,rfl,YAD _,_,G1,[],[],r0.step t1,no.unset td,by simp,by rw [YAr (by rw [<- r.len];exact ld)],Same.refl _,gd0.step t1,YAl _,(fun g h=>by cases h),z⟩,?_⟩
  rintro i m Y' H' ⟨rfl,hi,Z',G',gs,gx,r',no',le',hd',s',gd',gl,gm,q'⟩
  have ok:=it i H' G' s' r'.gh r'.bx (fun a z=>r'.new0 z)
  by_cases hlt:i < xs.length
  .refine .inr ?_
   rw [YAJ hlt] at q'
   obtain ⟨go,yl⟩:=ok.2 xs[i] (YAd hlt)
   refine ⟨go,fun Y2 H2=>∃ Z' G' gs gx,Rel c Z' Y2 H2 G'/\NoOwn Z'/\Z'.length = Z.length/\Y2[td]? = some (some (.ref d))/\Same G1 G'/\GD X c H2 G' d gs gx/\gx.length <= i + 1/\(∀ g ∈ gs,g.2.length <= i + 1)/\grpL ti ta tb A B (ends c G D).rt (xs.drop (i + 1)) Z' gs,
    fun Y2 H2 h=>⟨xs.length - (i + 1),by omega,rfl,by omega,h⟩,fun x H3 y=>?_⟩
   obtain ⟨G3,t3,e3⟩:=yl x H3 y
   have r4:=(r'.step t3).put (i:=ti) e3
   refine ⟨_,G3,r4,hA.mono _ _ _ (fun a qa va' H4 G4 t4 ea=>?_) q'⟩
   have r5:=(r4.step t4).put (i:=ta) ea
   refine ⟨_,G4,r5,hB.mono _ _ _ (fun b ⟨ks,eb,qb⟩ vb' H5 G5 t5 ebr=>?_) qa⟩
   subst eb
   obtain ⟨kv,rfl,hk⟩:=zmD ebr
   have r6:=(r5.step t5).put (i:=tb) ebr
   have lens:Y'.length = Z.length:=by rw [<- r'.len];exact le'
   have no6:=((no'.set ti xs[i]).set ta a).set tb (keyD ks)
   have sd:(((Y'.set ti (some x)).set ta (some va')).set tb (some (.ref kv)))[td]? = some (some (.ref d)):=by
    rw [YAj (Ne.symm n3),YAj (Ne.symm n2),YAj (Ne.symm n1)];exact hd'
   have si:(((Y'.set ti (some x)).set ta (some va')).set tb (some (.ref kv)))[ti]? = some (some x):=by
    rw [YAj (Ne.symm n5),YAj (Ne.symm n4),YAr (by rw [lens];exact li)]
   have sb:(((Y'.set ti (some x)).set ta (some va')).set tb (some (.ref kv)))[tb]? = some (some (.ref kv)):=by
    rw [YAr (by simp [lens];exact lb)]
   have gd5:=((gd'.step t3).step t4).step t5
   have rx:Rep c G5 xs[i] x:=(e3.mono t4.gg).mono t5.gg
   have gg:Same G1 G5:=((s'.trans t3.gg).trans t4.gg).trans t5.gg
   have le6:((((Z'.set ti (.val xs[i])).set ta (.val a)).set tb (.val (keyD ks))).length) = Z.length:=by simp [le']
   refine ⟨.ref d,sd,⟨d,gx,rfl,gd5.dict⟩,.ref kv,sb,by show 0 <= sizeLine;exact YAD _,fun l0 hl0=>?_⟩
   have t6:Stp c.β H5 G5 (upd H5 l0 (.lst [])) G5:=Stp.own r6.gh r6.bx hl0
   have gd6:=gd5.step t6
   have sg:Same G5 (upd H5 l0 (.lst [])):=t6.gh
   refine ⟨d,kv,l0,ks,gx,rfl,rfl,gd6.dict,by omega,gd6.nk,fun y hy=>?_,hK ▸ KeyV.mono sg hk,fun y hy ey=>?_,fun hno=>?_⟩
   .obtain ⟨g,_,g1⟩:=zbe gd6.all y hy
    exact hK ▸ KeyV.mono sg g1.kv
   .obtain ⟨g,hgm,g1⟩:=zbe gd6.all y hy
    obtain ⟨vs,h1,h2⟩:=g1.ls
    have hvl:vs.length <= i:=by rw [<- h2.length];exact gm g hgm
    refine ⟨.inl ⟨rfl,vs,SqL.of h1⟩,x,si,y.2.2,vs,x,rfl,rfl,h1,by rw [YAL];omega,?_⟩
    have st:Stp c.β c.H0 c.G0 (upd (upd H5 l0 (.lst [])) y.2.2 (.lst (vs ++ [x]))) G5:=(r6.step t6).stp.wr g1.h0 g1.gn g1.nb
    exact ⟨_,G5,_,gx,r6.move no6 (Same.refl _) st,no6,le6,sd,gg,znG gd6 hy ey h1 rx,YDz gl,zhY gm,qb⟩
   .have n0:d ≠ l0:=zad gd5.dict hl0
    refine ⟨.inl ⟨rfl,[],SqL.of (by rw [zae n0.symm,zac])⟩,x,si,l0,[],x,rfl,rfl,by rw [zae n0.symm,zac],by show 0 < sizeLine;rw [YAL];omega,?_⟩
    have g0:G5 l0 = none:=zar r6.gh hl0
    have h0:c.H0 l0 = none:=r6.new0 hl0
    have nb:l0 ≠ c.β:=r6.neβ hl0
    have st:Stp c.β c.H0 c.G0 (upd (upd (upd H5 l0 (.lst [])) d (GdO X.prog X.w d (gx ++ [(ks,kv,l0)]))) l0 (.lst ([] ++ [x]))) G5:=((r6.step t6).stp.wr gd6.h0 gd6.gn gd6.nb).wr h0 g0 nb
    exact ⟨_,G5,_,_,r6.move no6 (Same.refl _) st,no6,le6,sd,gg,zmP gd5 hno hl0 h0 nb g0 hk rx,by simp;omega,zhY gm,qb⟩
  .have e:i = xs.length:=by omega
   subst e
   rw [YBq] at q'
   refine .inl ⟨ok.1 rfl,.ref d,hd',d,gx,rfl,gd'.dict,fun v hv=>?_⟩
   have t2:Stp c.β H' G' (upd H' v (VwO v d)) G':=Stp.own r'.gh r'.bx hv
   refine ⟨v,d,gx,rfl,zac,(gd'.step t2).dict,by omega,fun l hl=>?_⟩
   have r2':=r'.step t2
   have t3:Stp c.β (upd H' v (VwO v d)) G' (upd (upd H' v (VwO v d)) l (.lst (gx.map fun x=>.ref x.2.2))) G':=Stp.own r2'.gh r2'.bx hl
   have gd3:=(gd'.step t2).step t3
   obtain ⟨G2,s2,t4,rs,k4⟩:=zgy (r2'.step t3).stp gd3.all gd3.nl
   have hG:G2 l = none:=by
    rw [k4 l fun hm=>?_]
    .exact zar r2'.gh hl
    .obtain ⟨y,hy,ey⟩:=YAB.mp hm
     obtain ⟨g,_,g1⟩:=zbe (gd'.step t2).all y hy
     obtain ⟨vs,h1,_⟩:=g1.ls
     rw [ey,hl] at h1;cases h1
   exact q' (.ref l) _ _ (t4.still zac (r2'.new0 hl) (r2'.neβ hl) hG) ⟨l,_,rfl,zac,fun _=>r2'.new0 hl,rs.mono (zbq hG)⟩
end
section
variable {X:Cx} {c:Bk} {e te:Expr} {es:List Expr} {pos pos2 pos3 apos apos2 cpos cpos2 p p1 p2 p3 p4 p5 q1 q2 q3 q4 q5 q6 q7 q8 q9:Pos} {i n:Nat} {rest:List Stmt}
end
noncomputable def zds:Fn:=fnW 6 ((seqW (asgW (.nm 2) (zaw 2 zcW (zab (vW 0) (zab (vW 1) nilA))))
  (seqW (ownW 3 (zaI [none] (zcq (vW 0)) (.nm 0) noIf (tupW (zab (vW 0) (zab (kW (.int 0)) nilA)))))
  (seqW (forW (seqI (zaw 2 zcR (zab (vW 0) (zab (vW 1) nilA)))) (.nm 4) (forW (seqI (vW 4)) (.nm 5) (putW 3 (vW 5) (tupW (zab (ixvW 4 (kW (.int 0))) (zab (ixvW 2 (vW 5)) nilA))))))
  (frzW 3 (retW (vW 3)))))))
noncomputable def zbk:Fn:=fnW 8 ((seqW (asgW (.nm 3) (valW (zaI [none,some 0,some 1] (seqI (zaw 3 zaV (zab (vW 0) (zab (vW 1) (zab (vW 2) nilA))))) (.nm 0) noIf (zaw 2 zds (zab (vW 1) (zab (zaw 2 zcz (zab (vW 2) (zab (vW 0) nilA))) nilA))))))
  (seqW (ifS (notT (truW (vW 3))) (retW (kW .non)) nilS)
  (grpW 4 5 6 7 (zcq (vW 0)) (binW ixD (binW ixD (ixvW 3 (kW (.int 0))) (vW 5)) (kW (.int 1))) (cbW zdw (zab (valW (zaI [none,none,some 6] (seqI (valW (zaI [none,some 5] (seqI (vW 3)) (.nm 0) noIf (ixvW 0 (vW 1))))) (.tp 2 (.cons (.nm 0) (.cons (.nm 1) .nil))) noIf (tupW (zab (vW 0) (zab (binW subD (vW 1) (vW 2)) nilA))))) nilA))))))
def prI (p:Int × Int):D:=.tup [.int p.1,.int p.2]
def pA (tab:List (Int × Int)) (i:Int):Int × Int:=tab.getD i.toNat (0,0)
def zmg {tab:List (Int × Int)} {k i:Int} {v:Int × Int} (k0:0 <= k) (k1:k < tab.length) (i0:0 <= i):pA (tab.set k.toNat v) i = if i = k then v else pA tab i:=by
 unfold pA
 rw [YAC,YAC]
 by_cases e:i = k
 .subst e
  rw [if_pos rfl,YAr (by omega)];rfl
 .rw [if_neg e,YAj (by omega)]
def ziD {α:Type} (emb:α->D) {xs:List α} {i:Int} {z:α} {Q:D->Prop} (h0:0 <= i) (h1:i < xs.length) (q:Q (emb (xs.getD i.toNat z))):itD (xs.map emb) (.int i) Q:=by
 show (match atI (xs.map emb) i with | some d=>Q d | none=>False)
 have hn:i.toNat < xs.length:=by omega
 unfold atI ixN
 rw [if_pos h0,if_pos (by rw [YAc];exact h1),YCY,YAk,YAd hn]
 rw [YAC,YAd hn] at q
 exact q
def zob {i:Nat} {I A:WE} {E:En} {Z:Env} {xs:List D} (h:Z[i]? = some (.own xs)) (q:A Z fun d=>I Z fun k=>ixS xs k fun m=>E.nx (Z.set i (.own (xs.set m d)))):putW i I A E Z:=by
 unfold putW;rw [h];exact q
def zoL {xs:List D} {k:Int} {Q:Nat->Prop} (k0:0 <= k) (k1:k < xs.length) (q:Q k.toNat):ixS xs (.int k) Q:=by
 show (match ixN xs.length k with | some m=>Q m | none=>False)
 unfold ixN
 rw [if_pos k0,if_pos k1];exact q
structure PlOk (n:Nat) (rs:List Rn) (tab:List (Int × Int)):Prop where
 len:tab.length = n
 ht:∃ hts,Fen.HtOk rs hts/\∀ i:Int,0 <= i->i < n->(pA tab i).2 = Fen.gI hts i
 low:∀ i j:Int,0 <= i->i < n->0 <= j->j < n->((pA tab i).1 = (pA tab j).1 ↔ Fen.Conn rs i j)
def ziN (a:Bool) (n:Nat) (rs:List Rn) (hm:Fen.zaA n rs) (hn:n <= 60) (hl:rs.length <= 1000) (yes:hasH rs = true):zds [.int n,.lst a (rs.map runD)] (fun d=>∃ tab,d = .lst true (tab.map prI)/\PlOk n rs tab):=by
 unfold zds fnW zaP
 rw [YAf,YAf,za2,zav]
 refine ⟨rfl,zeh hm (by omega) hl (fun z=>by rw [yes] at z;cases z) fun hts _ fo=>?_⟩
 refine ⟨⟨by omega,by omega⟩,by unfold rngL;rw [YAc,YBe];omega,?_⟩
 show za7 _ _ _ _ _ ((List.range ((n:Int)).toNat).map fun k:Nat=>D.int (0 + (k:Int))) []
 rw [YAE]
 refine zbV (fun k:Nat=>D.int (0 + (k:Int))) (fun k=>prI ((k:Int),0)) (List.range n) (fun k hk oQ N y=>⟨by show 2 <= 100000;decide,?_⟩) ?_
 .have e:(0:Int) + (k:Int) = k:=by omega
  show oQ (.tup [.int (0 + (k:Int)),.int 0])
  rw [e];exact y
 refine ⟨rfl,zfo hm hn hl fun gs ⟨ds,ok,fi,hg⟩=>?_⟩
 subst hg
 rw [YAF]
 show zbv _ _ _ (ds.map fun g=>D.lst true (g.ms.map D.int)) _
 have gin:∀ g ∈ ds,∀ j ∈ g.ms,0 <= j/\j < n:=fun g hg j hj=>let ⟨a,b,_⟩:=((ok g hg).2 j).mp hj;⟨a,b⟩
 have hfl:=fo.1
 -- two groups with a mark in common are one
 have one:∀ g ∈ ds,∀ g' ∈ ds,∀ m,m ∈ g.ms->m ∈ g'.ms->g.ms = g'.ms:=fun g hg g' hg' m e e'=>by
  obtain ⟨_,_,c1⟩:=((ok g hg).2 m).mp e
  obtain ⟨_,_,c2⟩:=((ok g' hg').2 m).mp e'
  have c:=c1.trans c2.symm
  refine zix (ok g hg).1 (ok g' hg').1 fun k=>?_
  rw [(ok g hg).2 k,(ok g' hg').2 k]
  exact ⟨fun ⟨a,b,d⟩=>⟨a,b,c.symm.trans d⟩,fun ⟨a,b,d⟩=>⟨a,b,c.trans d⟩⟩
 refine zaO (fun rest Z=>∃ (done oO:List Fen.GR) (tab:List (Int × Int)) (s4 s5:Sl),Z = [.val (.int n),.val (.lst false (rs.map runD)),.val (.lst true (hts.map D.int)),.own (tab.map prI),s4,s5]/\rest = oO.map (fun g=>D.lst true (g.ms.map D.int))/\ds = done ++ oO/\tab.length = n /\
  ∀ g ∈ done,∀ m ∈ g.ms,pA tab m = (g.ms.headD 0,Fen.gI hts m)) ?_ ?_ _ _
  ⟨[],ds,(List.range n).map fun k:Nat=>((k:Int),0),.un,.un,by rw [YAF];rfl,rfl,rfl,by simp,fun g hg=>by cases hg⟩
 .rintro x rest Z E' hn' hc hr hb ⟨done,oO,tab,s4,s5,rfl,e1,e2,hlt,q1⟩
  cases oO with
  | nil=>cases e1
  | cons g oO=>
   rw [YAf] at e1
   injection e1 with e1 e3
   subst e1
   have hgd:g ∈ ds:=by rw [e2];simp
   have esp:ds = (done ++ [g]) ++ oO:=by rw [e2,YAH];rfl
   show zbv _ _ _ (g.ms.map D.int) _
   refine zaO (fun rest Z=>∃ (dn td:List Int) (tab:List (Int × Int)) (s5:Sl),Z = [.val (.int n),.val (.lst false (rs.map runD)),.val (.lst true (hts.map D.int)),.own (tab.map prI),.val (.lst true (g.ms.map D.int)),s5]/\rest = td.map D.int/\g.ms = dn ++ td/\tab.length = n /\
    (∀ g ∈ done,∀ m ∈ g.ms,pA tab m = (g.ms.headD 0,Fen.gI hts m))/\∀ m ∈ dn,pA tab m = (g.ms.headD 0,Fen.gI hts m)) ?_ ?_ _ _ ⟨[],g.ms,tab,s5,rfl,rfl,rfl,hlt,q1,fun m hm=>by cases hm⟩
   .rintro x2 rest2 Z E2 hn2 hc2 hr2 hb2 ⟨dn,td,t2,s5,rfl,f1,f2,hl2,p1,p2⟩
    cases td with
    | nil=>cases f1
    | cons j td=>
     rw [YAf] at f1
     injection f1 with f1 f3
     subst f1
     have jm:j ∈ g.ms:=by rw [f2];simp
     obtain ⟨j0,j1⟩:=gin g hgd j jm
     have hpos:0 < g.ms.length:=YCM jm
     have hh:Fen.gI g.ms 0 = g.ms.headD 0:=by
      cases hg:g.ms with
      | nil=>rw [hg] at jm;cases jm
      | cons a b=>rfl
     have go:putW 3 (vW 5) (tupW (zab (ixvW 4 (kW (.int 0))) (zab (ixvW 2 (vW 5)) nilA))) E2 [.val (.int n),.val (.lst false (rs.map runD)),.val (.lst true (hts.map D.int)),.own (t2.map prI),.val (.lst true (g.ms.map D.int)),.val (.int j)]:=by
      refine zob (i:=3) (xs:=t2.map prI) rfl ?_
      refine zbX (hs:=g.ms) (by decide) (by omega) (zbX (hs:=hts) j0 (by omega) ⟨by show 2 <= 100000;decide,?_⟩)
      refine zoL j0 (by rw [YAc];omega) ?_
      refine hn2 _ ⟨dn ++ [j],td,t2.set j.toNat (g.ms.headD 0,Fen.gI hts j),.val (.int j),?_,f3,by rw [f2,YAH];rfl,by simpa using hl2,fun g' hg' m hm'=>?_,fun m hm'=>?_⟩
      .rw [List.map_set,<- hh];rfl
      .have m0:=gin g' (by rw [e2];exact YAx _ hg') m hm'
       rw [zmg j0 (by omega) m0.1]
       by_cases e:m = j
       .rw [if_pos e,one g' (by rw [e2];exact YAx _ hg') g hgd m hm' (e ▸ jm),e]
       .rw [if_neg e];exact p1 g' hg' m hm'
      .have hm2:m ∈ g.ms:=by
        rw [f2]
        rcases YAm.mp hm' with e | e
        .exact YAx _ e
        .rw [YAg.mp e];simp
       have m0:=gin g hgd m hm2
       rw [zmg j0 (by omega) m0.1]
       by_cases e:m = j
       .rw [if_pos e,e]
       .rw [if_neg e]
        rcases YAm.mp hm' with z | z
        .exact p2 m z
        .exact absurd (YAg.mp z) e
     exact go
   .rintro Z ⟨dn,td,t2,s5,rfl,f1,f2,hl2,p1,p2⟩
    cases td with
    | cons j td=>cases f1
    | nil=>
     rw [YAP] at f2
     refine hn' _ ⟨done ++ [g],oO,t2,_,s5,rfl,e3,esp,hl2,fun g' hg' m hm'=>?_⟩
     rcases YAm.mp hg' with e | e
     .exact p1 g' e m hm'
     .rw [YAg.mp e] at hm' ⊢;exact p2 m (f2 ▸ hm')
 .rintro Z ⟨done,oO,tab,s4,s5,rfl,e1,e2,hlt,q1⟩
  cases oO with
  | cons g oO=>cases e1
  | nil=>
   rw [YAP] at e2
   subst e2
   have cov:∀ i:Int,0 <= i->i < n->∃ g ∈ ds,i ∈ g.ms:=fun i i0 i1=>by
    obtain ⟨f,f0,f1,fc,ff⟩:=Fen.zfD (rs:=rs) (k:=n) i.toNat i (by omega) (by rw [show ((i.toNat:Nat):Int) = i by omega];exact .refl _)
    obtain ⟨g,hg,rfl⟩:=YAB.mp ((fi.2 f).mpr ⟨f0,by omega,ff⟩)
    exact ⟨g,hg,((ok g hg).2 i).mpr ⟨i0,i1,fc⟩⟩
   have hd:∀ g ∈ ds,∀ i ∈ g.ms,g.ms.headD 0 ∈ g.ms:=fun g _ i hi=>by
    cases hg:g.ms with
    | nil=>rw [hg] at hi;cases hi
    | cons a b=>exact YAi
   refine ⟨tab,rfl,hlt,⟨hts,fo.2.1,fun i i0 i1=>?_⟩,fun i j i0 i1 j0 j1=>?_⟩
   .obtain ⟨g,hg,hi⟩:=cov i i0 i1
    rw [q1 g hg i hi]
   .obtain ⟨g,hg,hi⟩:=cov i i0 i1
    obtain ⟨g',hg',hj⟩:=cov j j0 j1
    rw [q1 g hg i hi,q1 g' hg' j hj]
    have ci:=(((ok g hg).2 i).mp hi).2.2
    have cj:=(((ok g' hg').2 j).mp hj).2.2
    constructor
    .intro e
     have e:g.ms.headD 0 = g'.ms.headD 0:=e
     have h1:=hd g hg i hi
     have h2:=hd g' hg' j hj
     rw [e] at h1
     have c1:=(((ok g hg).2 _).mp h1).2.2
     have c2:=(((ok g' hg').2 _).mp h2).2.2
     exact (ci.symm.trans c1).trans (c2.symm.trans cj)
    .intro c
     have:j ∈ g.ms:=((ok g hg).2 j).mpr ⟨j0,j1,ci.trans c⟩
     show g.ms.headD 0 = g'.ms.headD 0
     rw [one g hg g' hg' j this hj]
section
variable (key:Nat->PKy)
def fst (t:Nat):List Nat:=(List.range t).filter fun m=>(List.range m).all fun j=>decide (key j ≠ key m)
def cls (t m:Nat):List Nat:=(List.range t).filter fun j=>decide (key j = key m)
def grps (t:Nat):Gs:=(fst key t).map fun m=>(key m,(cls key t m).map fun j:Nat=>D.int (0 + (j:Int)))
variable {key}
def zkF {t:Nat}:∀ m,m < t->∃ f ∈ fst key t,key f = key m:=fun m=>by
 induction m using Nat.strongRecOn with
 | _ m ih=>
  intro hm
  by_cases h:((List.range m).all fun j=>decide (key j ≠ key m)) = true
  .exact ⟨m,YA3.mpr ⟨YAW.mpr hm,h⟩,rfl⟩
  .rw [YB3] at h
   have:∃ j,j < m/\key j = key m:=Classical.byContradiction fun no=>h fun j hj=>YAS fun e=>no ⟨j,YAW.mp hj,e⟩
   obtain ⟨j,hj,e⟩:=this
   obtain ⟨f,hf,ef⟩:=ih j hj (by omega)
   exact ⟨f,hf,ef.trans e⟩
def zjg {t m:Nat} (h:m ∈ fst key t):m < t:=YAW.mp (YA3.mp h).1
def zfP (t m:Nat):cls key (t + 1) m = if key t = key m then cls key t m ++ [t] else cls key t m:=by
 unfold cls
 rw [YCK,YCa]
 by_cases e:key t = key m
 .rw [if_pos e,YBi,if_pos (YAS e)];rfl
 .rw [if_neg e,YBi,if_neg (by simp [e])];simp
def zk5 (t:Nat):putG (grps key t) (key t) (.int (0 + (t:Int))) = grps key (t + 1):=by
 have hany:((grps key t).any fun g=>decide (g.1 = key t)) = true ↔ ∃ m,m < t/\key m = key t:=by
  rw [YB2]
  constructor
  .rintro ⟨g,hg,e⟩
   obtain ⟨m,hm,rfl⟩:=YAB.mp hg
   exact ⟨m,zjg hm,YAV e⟩
  .rintro ⟨m,hm,e⟩
   obtain ⟨f,hf,ef⟩:=zkF (key:=key) m hm
   exact ⟨_,YAO hf,YAS (ef.trans e)⟩
 have f1:fst key (t + 1) = if ∃ m,m < t/\key m = key t then fst key t else fst key t ++ [t]:=by
  unfold fst
  rw [YCK,YCa,YBi]
  by_cases h:∃ m,m < t/\key m = key t
  .rw [if_pos h,if_neg]
   .simp
   .intro z
    obtain ⟨m,hm,e⟩:=h
    exact YAV (YB3.mp z m (YAW.mpr hm)) e
  .rw [if_neg h,if_pos]
   .rfl
   .exact YB3.mpr fun j hj=>YAS fun e=>h ⟨j,YAW.mp hj,e⟩
 unfold putG
 by_cases h:∃ m,m < t/\key m = key t
 .rw [if_pos (hany.mpr h)]
  unfold grps
  rw [f1,if_pos h,YAF]
  refine YA7 fun m hm=>?_
  show (if key m = key t then _ else _) = _
  rw [zfP]
  by_cases e:key m = key t
  .rw [if_pos e,if_pos e.symm,YAv];rfl
  .rw [if_neg e,if_neg (fun z=>e z.symm)]
 .rw [if_neg (fun z=>h (hany.mp z))]
  unfold grps
  rw [f1,if_neg h,YAv]
  congr 1
  .refine YA7 fun m hm=>?_
   rw [zfP,if_neg (fun z=>h ⟨m,zjg hm,z.symm⟩)]
  .have:cls key t t = []:=by
    unfold cls
    refine List.filter_eq_nil_iff.mpr fun j hj=>?_
    simp only [YCj]
    exact fun e=>h ⟨j,YAW.mp hj,e⟩
   show [(key t,[D.int (0 + (t:Int))])] = [(key t,(cls key (t + 1) t).map fun j:Nat=>D.int (0 + (j:Int)))]
   rw [zfP,if_pos rfl,this];rfl
end
abbrev Tb:=List (Int × Int)
def keyT (tabs:List Tb) (m:Nat):PKy:=tabs.map fun tab=>((pA tab m).1,(pA tab m).2 - (pA (tabs.headD []) m).2)
def ziW (tabs:List Tb) (n:Nat):D:=.lst true ((fst (keyT tabs) n).map fun m=>.lst true ((cls (keyT tabs) n m).map fun j:Nat=>D.int (0 + (j:Int))))
theorem zfu {α β:Type} {t:Tg} {C:WT} {E:WE} {Zc:Env} {Q:List D->Prop} (emb:α->D) (out:β->D) (R:α->β->Prop):∀ (xs:List α) (ys:List β),(∀ x ∈ xs,∀ oQ:D->Prop,(∀ y,R x y->oQ (out y))->gD t (emb x) Zc fun Z2=>C Z2 fun b=>b = true/\E Z2 oQ) ->
  zct C->(∀ zs:List β,Paired R xs zs->Q ((ys ++ zs).map out))->za7 t C E Zc Q (xs.map emb) (ys.map out)
 | [],ys,_,_,q=>by simpa [za7] using q [] .nil
 | x :: xs,ys,h,mC,q=>by
  show gD t (emb x) Zc fun Z2=>C Z2 fun b=>if b = true then E Z2 fun d=>za7 t C E Zc Q (xs.map emb) (ys.map out ++ [d]) else za7 t C E Zc Q (xs.map emb) (ys.map out)
  refine zaW t (emb x) Zc (fun Z2 z=>mC Z2 _ _ (fun b z=>?_) z) (h x YAi (fun d=>za7 t C E Zc Q (xs.map emb) (ys.map out ++ [d])) fun y hy=>?_)
  .rw [z.1,if_pos rfl];exact z.2
  .have:=zfu (t:=t) (C:=C) (E:=E) (Zc:=Zc) (Q:=Q) emb out R xs (ys ++ [y]) (fun x' hx'=>h x' (YAn _ hx')) mC (fun zs hz=>by
    have:=q (y :: zs) (.cons hy hz)
    simpa using this)
   simpa using this
def tabD (tab:Tb):D:=.lst true (tab.map prI)
abbrev gA:WE:=binW ixD (binW ixD (ixvW 3 (kW (.int 0))) (vW 5)) (kW (.int 1))
abbrev gB:WE:=cbW zdw (zab (valW (zaI [none,none,some 6] (seqI (valW (zaI [none,some 5] (seqI (vW 3)) (.nm 0) noIf (ixvW 0 (vW 1))))) (.tp 2 (.cons (.nm 0) (.cons (.nm 1) .nil))) noIf (tupW (zab (vW 0) (zab (binW subD (vW 1) (vW 2)) nilA))))) nilA)
def zjd (tabs:List Tb):tabs.getD 0 [] = tabs.headD []:=by cases tabs <;> rfl
theorem zmm {n:Nat} {r m:D} {tabs:List Tb} {Q:D->Prop} (hne:tabs ≠ []) (few:tabs.length <= 5000) (hl:∀ tab ∈ tabs,tab.length = n) (q:Q (ziW tabs n)):∀ (k t:Nat),t + k = n->∀ s5 s6 s7:Sl,
  grpL 5 6 7 gA gB Q (((List.range n).drop t).map fun j:Nat=>D.int (0 + (j:Int))) [.val (.int n),.val r,.val m,.val (.lst true (tabs.map tabD)),.un,s5,s6,s7] (grps (keyT tabs) t)
 | 0,t,e,s5,s6,s7=>by
  have e:t = n:=by omega
  subst e
  rw [List.drop_eq_nil_of_le (by simp)]
  show Q (.lst true ((grps (keyT tabs) t).map fun g=>.lst true g.2))
  unfold grps
  rw [YAF]
  exact q
 | k + 1,t,e,s5,s6,s7=>by
  have ht:t < (List.range n).length:=by simp;omega
  have h0:0 < tabs.length:=YDe.mpr hne
  have hh:tabs.headD [] ∈ tabs:=by
   cases tabs with
   | nil=>exact absurd rfl hne
   | cons a b=>exact YAi
  rw [YAJ ht,List.getElem_range,YAf]
  have ez:((0:Int) + (t:Int)).toNat = t:=by omega
  refine ziD tabD (z:=[]) (by decide) (by omega) ?_
  rw [show (tabs.getD (0:Int).toNat []) = tabs.headD [] from zjd tabs]
  refine ziD prI (z:=(0,0)) (by omega) (by rw [hl _ hh];omega) ?_
  rw [ez]
  show gB ([Sl.val (.int n),.val r,.val m,.val (.lst true (tabs.map tabD)),.un,.val (.int (0 + (t:Int))),.val (.int ((tabs.headD []).getD t (0,0)).2),s7]) _
  refine ⟨by rw [YAc];omega,zbV tabD (fun tab=>prI (pA tab t)) tabs (fun tab htab oQ N y=>?_) ?_⟩
  .refine ziD prI (z:=(0,0)) (by omega) (by rw [hl _ htab];omega) ?_
   rw [ez]
   exact y
  have e2:(tabs.map fun tab=>prI (pA tab t)) = (tabs.map fun tab=>pA tab t).map prI:=by rw [YAF];rfl
  rw [e2]
  refine ⟨by rw [YAc,YAc];omega,zbV prI (fun p=>prI (p.1,p.2 - ((tabs.headD []).getD t (0,0)).2)) _ (fun p hp oQ N y=>⟨rfl,by show 2 <= 100000;decide,y⟩) ?_⟩
  refine ⟨keyT tabs t,?_,?_⟩
  .unfold keyD keyT
   rw [YAF,YAF]
   rfl
  .rw [zk5]
   exact zmm hne few hl q k (t + 1) (by omega) _ _ _
def zex (a:Bool) (n:Nat) (rs:List Rn) (oK:Nat) (F:Few n rs) (hm:oK <= 1000) (hn:n <= 60) (hS:(setsR rs (cntR oK rs)).length <= 5000) :
  zbk [.int n,.lst a (rs.map runD),.int oK] (fun d=>(setsR rs (cntR oK rs) = []/\d = .non)\/∃ tabs,setsR rs (cntR oK rs) ≠ []/\Paired (fun l tab=>PlOk n (zaD rs l) tab) (setsR rs (cntR oK rs)) tabs/\d = ziW tabs n):=by
 have hl:=F.len
 unfold zbk fnW zaP
 rw [YAf,YAf,YAf,za2,zav,zav]
 refine ⟨rfl,zbg (zcU _ n rs oK F (by omega) (by omega)) fun d hd=>?_⟩
 subst hd
 have hy:∀ l ∈ setsR rs (cntR oK rs),hasH (zaD rs l) = true:=fun l hl=>(mem_sets.mp hl).2
 generalize setsR rs (cntR oK rs) = S at hS hy ⊢
 refine ⟨by rw [YAc];omega,?_⟩
 refine zfu lsD tabD (fun l tab=>PlOk n (zaD rs l) tab) S [] (fun l hl' oQ k=>⟨rfl,⟨rfl,zbg (zep false true rs l (by omega)) fun d hd=>?_⟩⟩) zbD fun tabs pr=>?_
 .subst hd
  exact ⟨rfl,zbg (ziN true n (zaD rs l) (F.left l) hn (by have:=YB9 (fun r:Rn=>!l.contains r.hand) rs;unfold zaD;omega) (hy l hl')) fun d ⟨tab,e,p⟩=>e ▸ k tab p⟩
 .have hlen:S.length = tabs.length:=Paired.length pr
  rw [YBc]
  show if (!(!(tabs.map tabD).isEmpty)) = true then _ else _
  cases hS0:S with
  | nil=>
   subst hS0
   cases pr
   exact .inl ⟨rfl,rfl⟩
  | cons l0 S0=>
   have hne:S ≠ []:=by rw [hS0];simp
   have htn:tabs ≠ []:=fun z=>by rw [z] at hlen;rw [hS0] at hlen;cases hlen
   rw [<- hS0,if_neg (by cases tabs with | nil=>exact absurd rfl htn | cons a b=>simp)]
   refine ⟨⟨fun i xs e=>?_,by show 4 < 8;decide,by show 5 < 8;decide,by show 6 < 8;decide,by show 7 < 8;decide⟩,⟨by omega,by omega⟩,by unfold rngL;rw [YAc,YBe];omega,?_⟩
   .rcases i with _ | _ | _ | _ | _ | _ | _ | _ | i <;> first | cases e | (simp at e)
   .have hlt:∀ tab ∈ tabs,tab.length = n:=fun tab ht=>by
     obtain ⟨l,_,p⟩:=zbe pr tab ht
     exact p.len
    have:=zmm (r:=.lst false (rs.map runD)) (m:=.int oK) (Q:=fun d=>(S = []/\d = .non)\/∃ tabs,S ≠ []/\Paired (fun l tab=>PlOk n (zaD rs l) tab) S tabs/\d = ziW tabs n) htn (by omega) hlt (.inr ⟨tabs,hne,pr,rfl⟩) n 0 (by omega) .un .un .un
    exact this
def znw {α:Type} {ts:List α} {z:α} (h:ts ≠ []):ts.headD z ∈ ts:=by
 cases ts with
 | nil=>exact absurd rfl h
 | cons a b=>exact YAi
theorem zgK {α β:Type} {F:α->β->Prop}:∀ {xs:List α} {ys:List β},Paired F xs ys->∀ x ∈ xs,∃ y ∈ ys,F x y
 | _,_,.cons a b,x,h=>by
  rcases YAs.mp h with rfl | h
  .exact ⟨_,YAi,a⟩
  .obtain ⟨y,hy,r⟩:=zgK b x h
   exact ⟨y,YAn _ hy,r⟩
def if_t {A B:Prop} {b:Bool} (h:b = true) (a:A):if b = true then A else B:=by rw [if_pos h];exact a
def if_f {A B:Prop} {b:Bool} (h:b = false) (a:B):if b = true then A else B:=by rw [if_neg (by rw [h];decide)];exact a
def znQ {E:En} {Z:Env} (h:E.nx Z):nilS E Z:=h
end Fd
namespace L2
open PySem PySem.Spec PyProof.Rows
section
variable {prog:Program} {w:World} {A:Around} {E:Value->Shared->Prop} {s:Shared} {it d v:Addr} {i ep:Nat} {es:Array DictEntry}
def zjV:Builtin.Dict_items.ownsTuple "dict_keyiterator" = false:=by decide
def zlt {Q:Option Value->Shared->Prop} (hit:s.heap.IsKeyIter it d i es.size ep) (hm:EnAt d es ep s.heap) (hi:i < es.size)
  (q:∀ h',h'.IsKeyIter it d (i + 1) es.size ep->Heap.SameBut it s.heap h'->Q (some es[i].key) { s with heap:=h' }):wpAny (model prog w) A (pyNext (.ref it)) Q E s:=by
 obtain ⟨o,ho,hc,hd⟩:=id hit
 obtain ⟨od,h1,h2⟩:=hm
 unfold pyNext
 refine YAa (YCI (YA6 (name:=Str.ofString "__next__") hit.typeIs YBv (YAN YBv hit.typeIs F.entry_dict_keyiterator_next ?_ (F.args_dict_keyiterator_next_1 _))))
 refine YAa (YAb (YAa (YAa (YAa (YBM hit.typeIs (YAb (YAa (YCB ho hd ?_))))))))
 simp only [zjV,YAK,YBn]
 show wpAny _ _ (if (Value.ref d == Value.none) = true then _ else _) _ _ s
 refine za0 YAy (YAa (YAb (YAa (YBV h1 h2 ?_))))
 refine za0 (by simp) (YAa (YAb (YAa (YCx h1 h2 ?_))))
 refine za0 (by simp) (YAb ?_)
 simp only [show ¬ ((i:Int) < 0) from by omega,YBn,YAE,YAM hi]
 refine YAa (YAa (YBM hit.typeIs (YAb (YAa (wpAny_isOneOf_keyiter hit.typeIs ?_)))))
 show wpAny _ _ (setField (.ref it) 1 (rawInt ((i:Int) + 1)) >>= _) _ _ s
 refine YAa (YDp ho hd (by simp) ?_)
 have hit':(s.heap.update it (Obj.mapFields (·.setIfInBounds 1 (rawInt ((i:Int) + 1))))).IsKeyIter it d (i + 1) es.size ep:=
  ⟨_,YAI _ ho (Obj.isFreed_of_fields (YCL hd _)),(Obj.cls_mapFields ..).trans hc,by rw [YCL hd];simp [rawInt]⟩
 generalize s.heap.update it (Obj.mapFields (·.setIfInBounds 1 (rawInt ((i:Int) + 1)))) = h3,(YBs s.heap it (Obj.mapFields (·.setIfInBounds 1 (rawInt ((i:Int) + 1)))):Heap.SameBut it s.heap _) = sb at hit' ⊢
 refine YAa (YAR (YAa (wpAny_isOneOf_keyiter (s:={ s with heap:=h3 }) hit'.typeIs ?_)))
 show wpAny _ _ (pure es[i].key) _ _ _
 exact YAb (YAb ⟨_,rfl,YAb (q _ hit' sb)⟩)
def znc {Q:Option Value->Shared->Prop} (hh:A.handled = none) (hit:s.heap.IsKeyIter it d es.size es.size ep) (hm:EnAt d es ep s.heap)
  (q:∀ h',Heap.ExtBut it s.heap h'->Q none { s with heap:=h' }):wpAny (model prog w) A (pyNext (.ref it)) Q E s:=by
 obtain ⟨o,ho,hc,hd⟩:=id hit
 obtain ⟨od,h1,h2⟩:=hm
 unfold pyNext
 refine YAa (YCI (YA6 (name:=Str.ofString "__next__") hit.typeIs YBv (YAN YBv hit.typeIs F.entry_dict_keyiterator_next ?_ (F.args_dict_keyiterator_next_1 _))))
 refine YAa (YAb (YAa (YAa (YAa (YBM hit.typeIs (YAb (YAa (YCB ho hd ?_))))))))
 simp only [zjV,YAK,YBn]
 show wpAny _ _ (if (Value.ref d == Value.none) = true then _ else _) _ _ s
 refine za0 YAy (YAa (YAb (YAa (YBV h1 h2 ?_))))
 refine za0 (by simp) (YAa (YAb (YAa (YCx h1 h2 ?_))))
 refine za0 (by simp) (YAb ?_)
 simp only [show ¬ ((es.size:Int) < 0) from by omega,YBn,YAE,Array.getElem?_eq_none (YAl _)]
 refine YAa (YAa (YBM hit.typeIs (YAb ?_)))
 show wpAny _ _ (setField (.ref it) 0 .none >>= _) _ _ s
 refine YAa (YDp ho hd (by simp) ?_)
 show wpAny _ _ (newExc (.type "StopIteration") [] >>= _) _ _ _
 refine YAa ?_
 simp only [newExc,newTuple]
 refine YAa (YAG ?_ (by size_fits))
 refine YAa (m:=firstArgMember _ _) (YDD (a:=Value.none) (by first | rfl | (simp only [firstArgMember];rfl)) ?_)
 refine YAG ?_ (by size_fits)
 simp only [raiseNew]
 refine YAa (wpAny_handled ?_)
 rw [show A.in1.handled = none from hh]
 refine YAa (YAb (wpAny_throw ?_))
 refine YAa (YBD (T := "StopIteration") (b:=true) ⟨_,YAo _ rfl,rfl⟩ YDY ?_)
 exact YAb (q _ (((YBs ..).extBut.push _).push _))
def zj6 (hh:A.handled = none) (I d:Addr) (hne:d ≠ I) (es:Array DictEntry) (ep:Nat):Walks prog w A I [I,d] [I] es.size (fun i v=>(es.map (·.key))[i]? = some v) (fun i h=>h.IsKeyIter I d i es.size ep/\EnAt d es ep h) where
 sub:=fun b hb=>by simp at hb;simp [hb]
 frame:=fun _ _ _ st hk=>⟨st.1.at fun o e=>hk I (by simp) o e,st.2.keep fun o e=>hk d (by simp) o e⟩
 item:=fun i s Q E hi st q=>zlt st.1 st.2 hi fun h' a b=>q _ h' s.toks (by simp [hi]) ⟨a,st.2.keep fun o e=>b.extBut d o hne e⟩ fun b' o hb e=>b.extBut b' o (fun h=>hb (by simp [h])) e
 done:=fun s Q E st q=>znc hh st.1 st.2 fun h' a=>q h' s.toks fun b o hb e=>a b o (fun h=>hb (by simp [h])) e
 self:=fun _ _ _ _ st q=>wpAny_pyIter_keyiter st.1 q
def zkT {Q:Value->Shared->Prop} (hd:(d == sysModules) = false) (hT:s.TypeIs (.ref d) "dict") (hm:EnAt d es ep s.heap)
  (q:Q (.ref s.heap.objs.size) { s with heap:=s.heap.push { cls:=.type "dict_keyiterator",data:=.fields #[.ref d,.int 0 0,.int es.size 0,.int ep 0] } }):wpAny (model prog w) A (pyIter (.ref d)) Q E s:=by
 obtain ⟨o,e1,e2⟩:=hm
 refine YCy hT F.slot_dict_iter (YAN F.slot_dict_iter hT F.entry_dict_iter ?_ (F.args_dict_iter_1 _))
 unfold Builtin.«dict.__iter__»
 refine YAa ?_
 unfold Builtin.Dict.dictSlotNone
 refine YAa (YCU hT ?_)
 show wpAny _ _ (pure (Value.ref d)) _ _ s
 refine YAb ?_
 show wpAny _ _ (Builtin.Dict.showsAll d >>= _) _ _ s
 unfold Builtin.Dict.showsAll
 rw [if_neg (by rw [hd];exact YAy)]
 refine YAa (YAb (YAa (YBV e1 e2 (YAa (YCx e1 e2 ?_)))))
 refine YAa (YAG (YAb ⟨_,rfl,"dict_keyiterator",_,⟨_,YAo _ rfl,rfl⟩,YBv.lookup,?_⟩))
 simpa [rawInt] using q
def zkb {Q:Value->Shared->Prop} (hh:A.handled = none) (hd:(d == sysModules) = false) (hT:∀ h,(∀ o,s.heap.get? d = some o->h.get? d = some o)->Shared.TypeIs { s with heap:=h } (.ref d) "dict") (hm:EnAt d es ep s.heap) (hz:es.size <= 1000)
  (q:∀ h' tk c,(∀ b o,s.heap.get? b = some o->h'.get? b = some o)->h'.get? s.heap.objs.size = some { cls:=.type "list",dict:=none,data:=.seq (es.map (·.key)) c,slots:=#[] }->Q (.ref s.heap.objs.size) { s with heap:=h',toks:=tk }) :
  wpAny (model prog w) A (call (.type "list") [.ref d]) Q E s:=by
 refine callType_codes (Q₁:=fun obj s₁=>obj = .ref s.heap.objs.size/\s₁ = { s with heap:=s.heap.push { cls:=.type "list",data:=.seq #[] } }) F.called_list (F.typeCall_list_1 _) F.entry_list_init (code_list_new _ ⟨rfl,rfl⟩) fun obj s₁ h₁=>?_
 obtain ⟨rfl,rfl⟩:=h₁
 have hS:(s.heap.push { cls:=.type "list",data:=.seq #[] }).get? s.heap.objs.size = some { cls:=.type "list",data:=.seq #[] }:=YAo _ rfl
 have dlt:d < s.heap.objs.size:=let ⟨o,e,_⟩:=hm;YAp e
 have k1:∀ b o,s.heap.get? b = some o->(s.heap.push { cls:=.type "list",data:=.seq #[] }).get? b = some o:=fun b o e=>YAe _ e
 have z1:(s.heap.push { cls:=.type "list",data:=.seq #[] }).objs.size = s.heap.objs.size + 1:=YBm ..
 refine ⟨⟨_,hS,rfl⟩,F.args_list_init_2 _ _,?_⟩
 generalize s.heap.push { cls:=.type "list",data:=.seq #[] } = h1 at *
 show wpAny _ _ (do let old <- Builtin.List.listItems (.ref s.heap.objs.size);Builtin.List.listUpdate (.ref s.heap.objs.size) (fun _=>#[]);letGo old.toList.reverse;Builtin.List.listExtendWith (.ref s.heap.objs.size) (.ref d) .none) _ _ { s with heap:=h1 }
 refine YAa ?_
 unfold Builtin.List.listItems
 refine YAa (YCC hS rfl (YAb ?_))
 show wpAny _ _ (updateSeq s.heap.objs.size (fun _=>#[]) >>= fun _=>letGo (#[]:Array Value).toList.reverse >>= fun _=>Builtin.List.listExtendWith (.ref s.heap.objs.size) (.ref d) .none) _ _ { s with heap:=h1 }
 refine YAa (YBz (s:={ s with heap:=h1 }) hS rfl ?_)
 have hS2:=YAI (Obj.mapSeq (fun _=>(#[]:Array Value))) hS rfl
 have o2:∀ b o,b ≠ s.heap.objs.size->h1.get? b = some o->(h1.update s.heap.objs.size (Obj.mapSeq (fun _=>(#[]:Array Value)))).get? b = some o:=fun b o hb e=>(YAU _ _ (Ne.symm hb)).trans e
 have z2:(h1.update s.heap.objs.size (Obj.mapSeq (fun _=>(#[]:Array Value)))).objs.size = s.heap.objs.size + 1:=by rw [Heap.size_update];exact z1
 refine YAa (wpAny_letGo ?_)
 generalize h1.update s.heap.objs.size (Obj.mapSeq (fun _=>(#[]:Array Value))) = h2 at *
 have low:∀ b o,s.heap.get? b = some o->h2.get? b = some o:=fun b o e=>o2 b o (YAt (YAp e)) (k1 b o e)
 have hm2:EnAt d es ep h2:=hm.keep fun o e=>low _ _ e
 have ty:Shared.TypeIs { s with heap:=h2 } (.ref d) "dict" := hT h2 fun o e=>low _ _ e
 unfold Builtin.List.listExtendWith
 refine YAa (YBG ty ?_)
 simp only [show Builtin.List.listSameRef (.ref s.heap.objs.size) (.ref d) = false by simp [Builtin.List.listSameRef,YA0 dlt],show (Value.type "dict" == Value.type "list") = false by decide,show (Value.type "dict" == Value.type "tuple") = false by decide,YC5,YAK,YBn]
 refine YAa (zkT (s:={ s with heap:=h2 }) hd ty hm2 ?_)
 rw [show ({ s with heap:=h2 }:Shared).heap.objs.size = s.heap.objs.size + 1 from z2]
 have hI:(h2.push { cls:=.type "dict_keyiterator",data:=.fields #[.ref d,.int 0 0,.int es.size 0,.int ep 0] }).IsKeyIter (s.heap.objs.size + 1) d 0 es.size ep:=⟨_,by rw [<- z2];exact YAo _ rfl,rfl,rfl⟩
 have k3:∀ b o,h2.get? b = some o->(h2.push { cls:=.type "dict_keyiterator",data:=.fields #[.ref d,.int 0 0,.int es.size 0,.int ep 0] }).get? b = some o:=fun b o e=>YAe _ e
 generalize h2.push { cls:=.type "dict_keyiterator",data:=.fields #[.ref d,.int 0 0,.int es.size 0,.int ep 0] } = h3 at *
 have ty3:Shared.TypeIs { s with heap:=h3 } (.ref d) "dict" := hT h3 fun o e=>k3 _ _ (low _ _ e)
 refine YAa (YAR ?_)
 unfold Builtin.List.listLengthHint
 refine YAa (YBx ty3 PySem.F.slot_dict_len.lookup ?_)
 dsimp only
 rw [zc7]
 dsimp only
 refine YAa (YBD ty3 isSubtype_dict_dict ?_)
 refine za0 (by decide) (zdX (by decide +kernel) (YAa (YBG ty3 (YAb ?_))))
 refine zdX (by decide +kernel) (YAa (YBT (YAa ?_)))
 show wpAny _ _ (updateSeq s.heap.objs.size (·.push .none) >>= fun _=>updateSeq s.heap.objs.size (·.pop)) _ _ _
 have hS3:=k3 _ _ hS2
 refine YAa (YBz (s:={ s with heap:=h3 }) hS3 rfl ?_)
 have hS4:=YAI (Obj.mapSeq (·.push Value.none)) hS3 rfl
 refine YBz (hz:=by seq_fits) hS4 rfl ?_
 have hS5:=YAI (Obj.mapSeq (·.pop)) hS4 rfl
 have o4:∀ b o,b ≠ s.heap.objs.size->h3.get? b = some o->((h3.update s.heap.objs.size (Obj.mapSeq (·.push Value.none))).update s.heap.objs.size (Obj.mapSeq (·.pop))).get? b = some o:=fun b o hb e=>
  (YAU _ _ (Ne.symm hb)).trans ((YAU _ _ (Ne.symm hb)).trans e)
 have nS:s.heap.objs.size ∉ [s.heap.objs.size + 1,d]:=by
  simp only [YAs,YAT,YB7,not_or]
  exact ⟨YAt (YBp _),YA0 dlt⟩
 have W:=(zj6 (prog:=prog) (w:=w) (A:=A.in1.in1) hh (s.heap.objs.size + 1) d (YAt (YA8 dlt)) es ep).toS
 refine YAb ⟨YCJ YCd _,YCA W (by rw [YAL];omega) _ nS _ es.size 0 _ _ _ rfl (YAD _) ⟨hI.at fun o e=>o4 _ _ (YA0 (YBp _)) e,(hm2.keep fun o e=>k3 _ _ e).keep fun o e=>o4 _ _ (YAt dlt) e⟩ hS5 (YD0 _) fun s' acc' c' hm' hS' hacc=>?_⟩
 have ev:acc' = es.map (·.key):=by
  apply Array.ext
  .rw [hacc.1,Array.size_map]
  .intro j j1 j2
   have:(es.map (·.key))[j]? = some acc'[j]:=hacc.2 j acc'[j] (by simp [j1])
   rw [YAM j2] at this
   exact (Option.some.inj this).symm
 subst ev
 obtain ⟨hh',g',d',tk',o'⟩:=s'
 have eg:g' = s.gens:=hm'.gens
 have ed:d' = s.drawn:=hm'.drawn
 have eo:o' = s.os:=hm'.os
 subst eg ed eo
 exact ⟨rfl,q hh' tk' c' (fun b o e=>hm'.heap b o (by
  have hb1:=YAp e
  simp only [YAs,YAT,YB7,not_or]
  exact ⟨YAt hb1,YAt (YA8 hb1)⟩) (o4 b o (YAt (YAp e)) (k3 b o (low b o e)))) hS'⟩
end
abbrev KP:=List ((Int × Int) × Int)
def kL (k:Int × Int):List Key:=[.inl k.1,.inl k.2]
def kvL (kvs:KP):List (List Key × V):=kvs.map fun p=>(kL p.1,.int p.2)
def valP (kvs:KP) (k:Int × Int):Option Int:=(kvs.find? fun p=>decide (p.1 = k)).map (·.2)
def putP (kvs:KP) (k:Int × Int) (v:Int):KP:=if (kvs.any fun p=>decide (p.1 = k)) = true then kvs.map (fun p=>if p.1 = k then (p.1,v) else p) else kvs ++ [(k,v)]
def kL_inj {a b:Int × Int}:kL a = kL b ↔ a = b:=by
 refine ⟨fun h=>?_,fun h=>by rw [h]⟩
 unfold kL at h
 injection h with h1 h2
 injection h2 with h2 _
 exact Prod.ext (Sum.inl.inj h1) (Sum.inl.inj h2)
theorem zhS (k:Int × Int):∀ kvs:KP,valV (kvL kvs) (kL k) = (valP kvs k).map V.int
 | []=>rfl
 | p :: r=>by
  have ih:=zhS k r
  unfold valV kvL valP at *
  rw [YAf,YBw,YBw]
  by_cases e:p.1 = k
  .rw [YAS e,YAS (kL_inj.mpr e)];rfl
  .rw [YAY e,YAY fun z=>e (kL_inj.mp z)];exact ih
def zkV (kvs:KP) (k:Int × Int) (v:Int):putK (kvL kvs) (kL k) (.int v) = kvL (putP kvs k v):=by
 have e:((kvL kvs).any fun kv=>decide (kv.1 = kL k)) = kvs.any fun p=>decide (p.1 = k):=by
  unfold kvL
  rw [YDS]
  congr 1
  funext p
  exact decide_eq_decide.mpr kL_inj
 unfold putK putP
 rw [e]
 split
 .unfold kvL
  rw [YAF,YAF]
  refine YA7 fun p _=>?_
  show (if kL p.1 = kL k then _ else _) = _
  by_cases z:p.1 = k
  .rw [if_pos (kL_inj.mpr z)]
   show _ = (fun p:(Int × Int) × Int=>(kL p.1,V.int p.2)) (if p.1 = k then (p.1,v) else p)
   rw [if_pos z]
  .rw [if_neg fun y=>z (kL_inj.mp y)]
   show _ = (fun p:(Int × Int) × Int=>(kL p.1,V.int p.2)) (if p.1 = k then (p.1,v) else p)
   rw [if_neg z]
 .unfold kvL;rw [YAv];rfl
def zk8 (kvs:KP) (k:Int × Int) (v:Int):(putP kvs k v).length <= kvs.length + 1:=by
 unfold putP
 split
 .rw [YAc];omega
 .simp
section
variable {X:Cx}
def ze7 (hc:X.calm = true):CallR X (.type "list") (fun vs H Q=>∃ d kvs,vs = [.ref d]/\H d = some (.dT kvs)/\kvs.length <= 1000/\∀ bs:List Addr,Paired (fun (kv:List Key × V) b=>H b = some (.tup (kv.1.map kV))) kvs bs->∀ l,H l = none->Q (.ref l) (upd H l (.lst (bs.map .ref)))):=by
 intro O s Y H vs us Q I r h
 obtain ⟨d,kvs,rfl,hd,hz,q⟩:=h
 obtain ⟨u,rfl,rx⟩:=zdv r
 cases rx
 obtain ⟨z,sy,xs,pr,o,es,ep,h1,h2,h3,h4,h5⟩:=(show ObjOk X.prog X.w H s.heap d (.dT kvs) from I.hok d _ hd)
 have lx:xs.length = kvs.length:=(Paired.length pr).symm
 have hsz:es.size = xs.length:=by rw [<- YBW,h4,YAc]
 refine zkb (I.ok.hd hc) sy (fun h' k=>⟨o,k _ h1,h2.1⟩) ⟨o,h1,h3⟩ (by omega) fun h' tk c' k g=>?_
 have pb:Paired (fun (kv:List Key × V) b=>H b = some (.tup (kv.1.map kV))) kvs (xs.map fun x=>x.2.1):=by
  clear hd hz q z sy h1 h2 h3 h4 h5 lx hsz k g
  induction pr with
  | nil=>exact .nil
  | cons a _ ih=>exact .cons a.2.1 ih
 refine ⟨.ref s.heap.objs.size,upd H s.heap.objs.size (.lst ((xs.map fun x=>x.2.1).map .ref)),I.laid (t':=tk) k (YAl _) ⟨by rw [YAc,YAc,YAL];omega,xs.map fun x=>Value.ref x.2.1,c',?_,?_⟩,rfl,q _ pb _ (I.hok.fresh (YAl _))⟩
 .rw [YAF]
  clear pr hd hz q z sy h1 h2 h3 h4 h5 lx hsz k g pb
  induction xs with
  | nil=>exact .nil
  | cons x xs ih=>exact .cons rfl ih
 .rw [g]
  congr 2
  have e:(es.map (·.key)) = (xs.map fun x=>Value.ref x.2.1).toArray:=by
   apply Array.toList_inj.mp
   rw [Array.toList_map,h4,YAF]
   rfl
  rw [e]
end
end L2
namespace Fd
open PySem L2
def Ok2 (kvs:KP) (zs:List Int):Prop:=∀ p ∈ kvs,∃ u,valP kvs p.1 = some u/\valP kvs (p.1.2,p.1.1) = some (-u)/\∀ z ∈ zs,∀ w,valP kvs (p.1.2,z) = some w->valP kvs (p.1.1,z) = some (u + w)
def zln {A B:Prop} {b:Bool} (h:b = false) (a:B):if b = true then A else B:=by rw [if_neg (by rw [h];decide)];exact a
abbrev tup2 (i j:Nat):TE:=tTup (znH (tVar i) (znH (tVar j) tNil))
abbrev tK (r i j:Nat):TE:=zoQ (tVar r) (tup2 i j)
section
variable {Y:St} {H:Hp} {Q:VK} {r i j:Nat} {a b u:Int} {d:Addr} {kvs:KP}
def zfV (hi:Y[i]? = some (some (.int a))) (hj:Y[j]? = some (some (.int b))) (q:∀ p,H p = none->Q (.ref p) (upd H p (.tup ((kL (a,b)).map kV)))):tup2 i j Y H Q:=
 ⟨_,hi,_,hj,by show 2 <= sizeLine;rw [YAL];omega,q⟩
def zg8 {p:Addr} (hd:H d = some (.dT (kvL kvs))) (hp:H p = none):DGet (upd H p (.tup ((kL (a,b)).map kV))) d (.ref p) ((valP kvs (a,b)).map V.int):=by
 have:=DGet.t (H:=upd H p (.tup ((kL (a,b)).map kV))) (a:=d) (b:=p) (kvs:=kvL kvs) (k:=kL (a,b)) (by rw [zae (zad hd hp)];exact hd) zac
 rw [zhS] at this;exact this
def zle (hr:Y[r]? = some (some (.ref d))) (hd:H d = some (.dT (kvL kvs))) (hi:Y[i]? = some (some (.int a))) (hj:Y[j]? = some (some (.int b))) (hv:valP kvs (a,b) = some u) (q:∀ H',Same H H'->Q (.int u) H'):tK r i j Y H Q:=
 ⟨.ref d,hr,zfV hi hj fun p hp=>⟨d,.int u,rfl,by have:=zg8 (a:=a) (b:=b) hd hp;rw [hv] at this;exact this,q _ (zbq hp)⟩⟩
end
section
variable {X:Cx} {x1 x2 x3 xr xs:Str} {n1 n2 n3 n4 n5 n6 n7 k1 k2 k3 k4:Nat} {d0 f0 a1 a2 a3 a4 a5 a6 a7 a8 a9 b1 b2 b3 b4 b5 b6 b7 b8 b9 c1 c2 c3 c4 c5 c6 c7 c8 c9 d1 d2 d3 d4 d5 d6 d7 d8 d9 e1 e2 e3 e4 e5 e6 e7 e8 e9 f1 f2 f3 f4 f5 f6 f7 f8 f9:Pos}
def tK2 (r s i j k:Nat):TS:=fun D Y H=>∃ d a kvs zs,Y[r]? = some (some (.ref d))/\Y[s]? = some (some (.ref a))/\H d = some (.dT (kvL kvs))/\H a = some (.lst (zs.map V.int))/\Ok2 kvs zs/\kvs.length <= 1000/\(i < Y.length/\j < Y.length/\k < Y.length)/\∀ H',Same H H'->D.rt (.bl true) H'
def zn1 (r s i j k:Nat) (vr:NV X r xr) (vs:NV X s xs) (v1:NV X i x1) (v2:NV X j x2) (v3:NV X k x3) (ne:r ≠ i/\r ≠ j/\r ≠ k/\s ≠ i/\s ≠ j/\s ≠ k/\i ≠ j/\i ≠ k/\j ≠ k)
  (hg:Gl X "list") (hc:X.calm = true) (hp:PassesOwn (model X.prog X.w) X.A X.env X.xe) (hN:X.N.Nodup) (hm:X.mg "list" = none) (hu:X.A.units + 64 < cLine)
  (m:M2 X (.Name xr d1) "get" d2 (.Tuple [.Name x1 d3,.Name x3 d4] n5 d5) (.Constant .none k1 d6) d7)
  (hs1:∀ x,foldedSetIterable (.Call (.Name "list" a4) [.Name xr a5] [] a6) X.env x = pure x) (hs2:∀ x,foldedSetIterable (.Name xs c2) X.env x = pure x) :
  PSs X [.For (.Tuple [.Name x1 a1,.Name x2 a2] n1 a3) (.Call (.Name "list" a4) [.Name xr a5] [] a6)
   [.If (.Compare (.Subscript (.Name xr b1) (.Tuple [.Name x1 b2,.Name x2 b3] n2 b4) b5) [.NotEq] [.UnaryOp .USub (.Subscript (.Name xr b6) (.Tuple [.Name x2 b7,.Name x1 b8] n3 b9) e1) e2] e3) [.Return (some (.Constant (.bool false) k2 e4)) e5] [] e6,
   .For (.Name x3 c1) (.Name xs c2)
    [.If (.Compare (.Tuple [.Name x2 c3,.Name x3 c4] n4 c5) [.In] [.Name xr c6] c7)
     [.If (.Compare (.Call (.Attribute (.Name xr d1) "get" d2) [.Tuple [.Name x1 d3,.Name x3 d4] n5 d5,.Constant .none k1 d6] [] d7) [.NotEq] [.BinOp (.Subscript (.Name xr d8) (.Tuple [.Name x1 d9,.Name x2 f1] n6 f2) f3) .Add (.Subscript (.Name xr f4) (.Tuple [.Name x2 f5,.Name x3 f6] n7 f7) f8) f9] e7) [.Return (some (.Constant (.bool false) k4 f0)) d0] [] c8] [] e8] [] e9] [] a7,
   .Return (some (.Constant (.bool true) k3 a8)) a9] (tK2 r s i j k):=by
 have P2:∀ {i j:Nat} {x y:Str} {n:Nat} {p q t:Pos},NV X i x->NV X j y->PE X (.Tuple [.Name x p,.Name y q] n t) (tup2 i j):=fun a b=>pe_tup (zaf a.pe (zaf b.pe pa_nil rfl) rfl)
 have PK:∀ {i j:Nat} {x y:Str} {n:Nat} {p q t u w:Pos},NV X i x->NV X j y->PE X (.Subscript (.Name xr u) (.Tuple [.Name x p,.Name y q] n t) w) (tK r i j):=fun a b=>zew (by omega) vr.pe (P2 a b) (fun _ _=>rfl)
 obtain ⟨n1,n2,n3,n4,n5,n6,n7,n8,n9⟩:=ne
 refine zdG (zai (zbO hp hc (zbR (zb5 (ze7 hc) hg hm YB0 (zaf vr.pe pa_nil rfl) (by decide) (by decide) rfl rfl))
   (zbM hc (zag (zas hN v1.1 v1.2.2.1.1 v1.2.2.1.2) (zag (zas hN v2.1 v2.2.2.1.1 v2.2.2.1.2) zaG rfl) rfl) rfl rfl)
   (zai (zc2 (zdZ (zmb (PK v1 v2) (zlm zhT (PK v2 v1)))) (zap (za3 zlb)) zba)
    (zap (zbO hp hc (zbR vs.pe) (zas hN v3.1 v3.2.2.1.1 v3.2.2.1.2)
     (zap (zc2 (zdZ (zo9 (by omega) (P2 v2 v3) vr.pe) rfl) (zap (zc2 (zdZ (zmb (zlo (by omega) vr.pe (P2 v1 v3) zgr m) (zoY (PK v1 v2) (PK v2 v3)))) (zap (za3 zlb)) zba)) zba)) hs2)))  hs1)
   (zap (za3 zlb))) fun D Y H h=>?_
 obtain ⟨d,a,kvs,zs,hr,hs,hd,ha,ok,hz,⟨li,lj,lk⟩,q⟩:=h
 refine ⟨.ref d,hr,d,kvL kvs,rfl,hd,by unfold kvL;rw [YAc];exact hz,fun bs pb l hl=>⟨l,rfl,⟨_,SqL.of zac⟩,?_⟩⟩
 have s1:Same H (upd H l (.lst (bs.map .ref))):=zbq hl
 have lb:bs.length = kvs.length:=by rw [<- Paired.length pb];unfold kvL;rw [YAc]
 have h1l:(upd H l (.lst (bs.map .ref))) l = some (.lst (bs.map .ref)):=zac
 generalize hH1:upd H l (.lst (bs.map .ref)) = H1 at *
 refine ⟨fun n m Y' H'=>m = bs.length - n/\n <= bs.length/\Same H1 H'/\Y'[r]? = some (some (.ref d))/\Y'[s]? = some (some (.ref a))/\Y'.length = Y.length,⟨bs.length,rfl,YAD _,Same.refl _,hr,hs,rfl⟩,?_⟩
 rintro n m Y' H' ⟨rfl,hn,sm,hr',hs',le'⟩
 by_cases hlt:n < bs.length
 .refine .inr ⟨⟨_,.ref bs[n],SqL.of (sm _ _ h1l),by rw [YAk,YAd hlt];rfl⟩,fun Y2 H2=>Same H1 H2/\Y2[r]? = some (some (.ref d))/\Y2[s]? = some (some (.ref a))/\Y2.length = Y.length,fun Y2 H2 h=>⟨bs.length - (n + 1),by omega,rfl,by omega,h⟩,fun x H3 hy=>?_⟩
  obtain ⟨rfl,hx⟩:=hy
  have hx:=hx _ (SqL.of (sm _ _ h1l))
  rw [YAk,YAd hlt] at hx
  obtain rfl:V.ref bs[n] = x:=Option.some.inj hx
  have hk:n < kvs.length:=by omega
  obtain ⟨u,u1,u2,u3⟩:=ok kvs[n] (YCs hk)
  have hb:H bs[n] = some (.tup ((kL kvs[n].1).map kV)):=zcO pb (i:=n) (a:=(kL kvs[n].1,.int kvs[n].2)) (by unfold kvL;rw [YAk,YAd hk];rfl) (YAd hlt)
  obtain ⟨ka,kb,hkn⟩:∃ ka kb,kvs[n].1 = (ka,kb):=⟨_,_,rfl⟩
  rw [hkn] at u1 u2 u3 hb
  dsimp only at u2 u3
  refine ⟨bs[n],[.int ka,.int kb],rfl,SqT.of (sm _ _ (s1 _ _ hb)),rfl,_,_,rfl,_,_,rfl,rfl,?_⟩
  have li':i < Y'.length:=by omega
  have lj':j < Y'.length:=by omega
  have lk':k < Y'.length:=by omega
  have f1:((Y'.set i (some (.int ka))).set j (some (.int kb)))[r]? = some (some (.ref d)):=by rw [YAj (Ne.symm n2),YAj (Ne.symm n1)];exact hr'
  have f2:((Y'.set i (some (.int ka))).set j (some (.int kb)))[s]? = some (some (.ref a)):=by rw [YAj (Ne.symm n5),YAj (Ne.symm n4)];exact hs'
  have f3:((Y'.set i (some (.int ka))).set j (some (.int kb)))[i]? = some (some (.int ka)):=by rw [YAj (Ne.symm n7),YAr li']
  have f4:((Y'.set i (some (.int ka))).set j (some (.int kb)))[j]? = some (some (.int kb)):=by rw [YAr (by rw [YBH];exact lj')]
  have f5:((Y'.set i (some (.int ka))).set j (some (.int kb))).length = Y.length:=by rw [YBH,YBH];exact le'
  generalize (Y'.set i (some (.int ka))).set j (some (.int kb)) = τ at f1 f2 f3 f4 f5 ⊢
  have dAt:∀ {K:Hp},Same H1 K->K d = some (.dT (kvL kvs)):=fun z=>z _ _ (s1 _ _ hd)
  refine zle f1 (dAt sm) f3 f4 u1 fun H4 s4=>zle f1 (dAt (sm.trans s4)) f4 f3 u2 fun H5 s5=>⟨-u,rfl,u,- -u,rfl,rfl,_,rfl,?_⟩
  refine zln (by simp) ?_
  have sm5:=(sm.trans s4).trans s5
  refine ⟨.ref a,f2,a,rfl,⟨_,SqL.of (sm5 _ _ (s1 _ _ ha))⟩,fun n m Y' H'=>m = zs.length - n/\n <= zs.length/\Same H1 H'/\Y'[r]? = some (some (.ref d))/\Y'[s]? = some (some (.ref a))/\Y'[i]? = some (some (.int ka))/\Y'[j]? = some (some (.int kb))/\Y'.length = Y.length,⟨zs.length,rfl,YAD _,sm5,f1,f2,f3,f4,f5⟩,?_⟩
  rintro n m Y' H' ⟨rfl,hn,sm,g1,g2,g3,g4,g5⟩
  have ha':=sm _ _ (s1 _ _ ha)
  by_cases hlt:n < zs.length
  .refine .inr ⟨⟨_,.int zs[n],SqL.of ha',by rw [YAk,YAd hlt];rfl⟩,fun Y' H'=>Same H1 H'/\Y'[r]? = some (some (.ref d))/\Y'[s]? = some (some (.ref a))/\Y'[i]? = some (some (.int ka))/\Y'[j]? = some (some (.int kb))/\Y'.length = Y.length,fun Y2 H2 h=>⟨zs.length - (n + 1),by omega,rfl,by omega,h⟩,fun x H3 hy=>?_⟩
   obtain ⟨rfl,hx⟩:=hy
   have hx:=hx _ (SqL.of ha')
   rw [YAk,YAd hlt] at hx
   obtain rfl:V.int zs[n] = x:=Option.some.inj hx
   have u4:=u3 zs[n] (YCs hlt)
   generalize zs[n] = z at u4 ⊢
   show tIfS _ _ _ _ (Y'.set k (some (.int z))) _
   have e1:(Y'.set k (some (.int z)))[r]? = some (some (.ref d)):=by rw [YAj (Ne.symm n3)];exact g1
   have e2:(Y'.set k (some (.int z)))[s]? = some (some (.ref a)):=by rw [YAj (Ne.symm n6)];exact g2
   have e3:(Y'.set k (some (.int z)))[i]? = some (some (.int ka)):=by rw [YAj (Ne.symm n8)];exact g3
   have e4:(Y'.set k (some (.int z)))[j]? = some (some (.int kb)):=by rw [YAj (Ne.symm n9)];exact g4
   have e5:(Y'.set k (some (.int z)))[k]? = some (some (.int z)):=by rw [YAr (by omega)]
   have e6:(Y'.set k (some (.int z))).length = Y.length:=by rw [YBH];exact g5
   generalize Y'.set k (some (.int z)) = τ at e1 e2 e3 e4 e5 e6 ⊢
   unfold tIfS tB tDIn
   refine zfV e4 e5 fun p hp=>⟨.ref d,e1,d,_,rfl,zg8 (dAt sm) hp,_,rfl,?_⟩
   have sp:=sm.trans (zbq (o:=.tup ((kL (kb,z)).map kV)) hp)
   generalize upd H3 p (.tup ((kL (kb,z)).map kV)) = H4 at sp ⊢
   cases hw:valP kvs (kb,z) with
   | none=>exact ⟨sp,e1,e2,e3,e4,e6⟩
   | some w=>
    have u5:=u4 w hw
    refine ⟨.ref d,e1,d,rfl,.inr ⟨_,.inl (dAt sp)⟩,zfV e3 e5 fun p2 hp2=>⟨_,zg8 (dAt sp) hp2,?_⟩⟩
    rw [u5]
    have sq:=sp.trans (zbq (o:=.tup ((kL (ka,z)).map kV)) hp2)
    generalize upd H4 p2 (.tup ((kL (ka,z)).map kV)) = H5 at sq ⊢
    refine zle e1 (dAt sq) e3 e4 u1 fun H6 s6=>zle e1 (dAt (sq.trans s6)) e4 e5 hw fun H7 s7=>⟨u,w,rfl,rfl,u + w,u + w,rfl,rfl,_,rfl,?_⟩
    refine zln (by simp) ?_
    exact ⟨(sq.trans s6).trans s7,e1,e2,e3,e4,e6⟩
  .exact .inl ⟨⟨_,SqL.of ha',by rw [YAc];omega⟩,sm,g1,g2,g5⟩
 .exact .inl ⟨⟨_,SqL.of (sm _ _ h1l),by rw [YAc];omega⟩,q H' (s1.trans sm)⟩
end
section
variable (r s i j f t:Nat) (A B:WE) (C:WT) (V':WE)
noncomputable def kIn (x:Int):List Int->Env->KP->(Env->KP->Prop)->Prop
 | [],Z,kvs,Q=>Q Z kvs
 | y :: ys,Z,kvs,Q=>A (Z.set j (.val (.int y))) fun a=>B ((Z.set j (.val (.int y))).set f (.val a)) fun b=>∃ bb,b = .bl bb/\C (((Z.set j (.val (.int y))).set f (.val a)).set t (.val b)) fun z=>z = false /\
   (bb = false->kIn x ys (((Z.set j (.val (.int y))).set f (.val a)).set t (.val b)) kvs Q) /\
   (bb = true->V' (((Z.set j (.val (.int y))).set f (.val a)).set t (.val b)) fun v=>∃ n,v = .int n/\kIn x ys (((Z.set j (.val (.int y))).set f (.val a)).set t (.val b)) (putP kvs (x,y) n) Q)
def kOut (zs:List Int):List Int->Env->KP->(KP->Prop)->Prop
 | [],_,kvs,Q=>Q kvs
 | x :: xs,Z,kvs,Q=>kIn j f t A B C V' x zs (Z.set i (.val (.int x))) kvs fun Z' kvs'=>kOut zs xs Z' kvs' Q
def k17W (k:Nat):WS:=fun E Z=>(NoOwn Z/\r < Z.length/\i < Z.length/\j < Z.length/\f < Z.length/\t < Z.length/\k < Z.length)/\∃ zs b,Z[s]? = some (.val (.lst b (zs.map D.int)))/\zs.length <= 10 /\
 kOut i j f t A B C V' zs zs (Z.set r .un) [] fun kvs=>Ok2 kvs zs/\E.rt (.bl true)
end
section
variable {i j f t:Nat} {A B V':WE} {C:WT} (mA:zbf A) (mB:zbf B) (mC:zct C) (mV:zbf V')
include mA mB mC mV
theorem zge {x:Int}:∀ {ys:List Int} {Z:Env} {kvs:KP} {Q Q':Env->KP->Prop},(∀ Z kvs,Q Z kvs->Q' Z kvs)->kIn j f t A B C V' x ys Z kvs Q->kIn j f t A B C V' x ys Z kvs Q'
 | [],_,_,_,_,l,q=>l _ _ q
 | y :: ys,Z,kvs,Q,Q',l,q=>mA _ _ _ (fun a q=>mB _ _ _ (fun b ⟨bb,e,q⟩=>⟨bb,e,mC _ _ _ (fun z ⟨e,q1,q2⟩=>⟨e,fun h=>zge l (q1 h),fun h=>mV _ _ _ (fun v ⟨n,e,q⟩=>⟨n,e,zge l q⟩) (q2 h)⟩) q⟩) q) q
theorem zeR {zs:List Int}:∀ {xs:List Int} {Z:Env} {kvs:KP} {Q Q':KP->Prop},(∀ kvs,Q kvs->Q' kvs)->kOut i j f t A B C V' zs xs Z kvs Q->kOut i j f t A B C V' zs xs Z kvs Q'
 | [],_,_,_,_,l,q=>l _ q
 | x :: xs,Z,kvs,Q,Q',l,q=>zge mA mB mC mV (fun _ _ q=>zeR l q) q
end
def Stp.ext {β:Addr} {H G H1 G1 H2:Hp} (s:Stp β H G H1 G1) (e:Same H1 H2):Stp β H G H2 G1:=by
 obtain ⟨cc,p,q,d,ns,h,rest⟩:=s.bx.ex
 refine ⟨s.gg,s.gh.trans e,fun a o n h=>e _ _ (s.fr a o n h),s.nw,⟨⟨cc,p,q,d,ns,e _ _ h,rest⟩,s.bx.still⟩,s.b0,fun cc p r d h=>?_⟩
 obtain ⟨p,r,d,h⟩:=s.bc cc p r d h
 exact ⟨p,r,d,e _ _ h⟩
structure DD (c:Bk) (H G:Hp) (d:Addr) (kvs:KP):Prop where
 dict:H d = some (.dT (kvL kvs))
 gn:G d = none
 h0:c.H0 d = none
 nb:d ≠ c.β
def DD.step {c:Bk} {H G H' G':Hp} {d:Addr} {kvs:KP} (p:DD c H G d kvs) (t:Stp c.β H G H' G'):DD c H' G' d kvs:=⟨t.fr _ _ p.nb p.dict,t.still_none p.dict p.gn,p.h0,p.nb⟩
structure K1 (c:Bk) (r s:Nat) (d a:Addr) (zs:List Int) (n:Nat) (G1:Hp) (Z:Env) (Y:St) (H G:Hp) (kvs:KP):Prop where
 rel:Rel c Z Y H G
 no:NoOwn Z
 len:Z.length = n
 sr:Y[r]? = some (some (.ref d))
 ss:Y[s]? = some (some (.ref a))
 gg:Same G1 G
 la:G1 a = some (.lst (zs.map V.int))
 dd:DD c H G d kvs
section
variable {c:Bk} {r s:Nat} {d a:Addr} {zs:List Int} {n:Nat} {G1:Hp} {Z:Env} {Y:St} {H G:Hp} {kvs:KP}
theorem K1.put {k:Nat} {x:D} {v:V} (p:K1 c r s d a zs n G1 Z Y H G kvs) (h1:k ≠ r) (h2:k ≠ s) (h:Rep c G x v):K1 c r s d a zs n G1 (Z.set k (.val x)) (Y.set k (some v)) H G kvs:=
 ⟨p.rel.put h,p.no.set k x,by rw [YBH];exact p.len,by rw [YAj h1];exact p.sr,by rw [YAj h2];exact p.ss,p.gg,p.la,p.dd⟩
theorem K1.step {H' G':Hp} (p:K1 c r s d a zs n G1 Z Y H G kvs) (t:Stp c.β H G H' G'):K1 c r s d a zs n G1 Z Y H' G' kvs:=
 ⟨p.rel.step t,p.no,p.len,p.sr,p.ss,p.gg.trans t.gg,p.la,p.dd.step t⟩
def K1.at (p:K1 c r s d a zs n G1 Z Y H G kvs):H a = some (.lst (zs.map V.int)):=p.rel.gh _ _ (p.gg _ _ p.la)
def K1.slen (p:K1 c r s d a zs n G1 Z Y H G kvs):Y.length = n:=by rw [<- p.rel.len];exact p.len
theorem K1.wr {kvs':KP} (p:K1 c r s d a zs n G1 Z Y H G kvs):K1 c r s d a zs n G1 Z Y (upd H d (.dT (kvL kvs'))) G kvs':=
 ⟨p.rel.move p.no (Same.refl _) (p.rel.stp.wr p.dd.h0 p.dd.gn p.dd.nb),p.no,p.len,p.sr,p.ss,p.gg,p.la,⟨zac,p.dd.gn,p.dd.h0,p.dd.nb⟩⟩
end
section
variable {X:Cx} {c:Bk} {x1 x2 x3 xr xs xf xt:Str} {ef et ev te:Expr} {A B V':WE} {C:WT} {m1 m2 m3 n1 n2 n3 n4 n5 n6 n7 k1 k2 k3:Nat} {a1 a2 a3 a4 a5 a6 a7 a8 a9 b1 b2 b3 b4 b5 b6 b7 b8 b9 c1 c2 c3 c4 c5 c6 c7 c8 c9 d1 d2 d3 d4 d5 d6 d7 d8 d9 e1 e2 e3 e4 e5 e6 e7 e8 e9 f1 f2 f3 f4 f5 f6 f7 f8 f9 g1 g2 g3 g4 g5 g6 g7 g8 g9 h1 h2 h3 h4 h5 h6 h7 h8 h9 i1 i2 i3 i4 i5 i6 i7 i8 i9:Pos}
def zoN {rest:List Stmt} {u:TS} (r s i j f t:Nat) (hA:DE X c ef A) (hB:DE X c et B) (hC:DT X c te C) (hV:DE X c ev V') (vr:NV X r xr) (vs:NV X s xs) (v1:NV X i x1) (v2:NV X j x2) (vf:NV X f xf) (vt:NV X t xt)
  (ne:(r ≠ i/\r ≠ j/\r ≠ f/\r ≠ t/\s ≠ r)/\(s ≠ i/\s ≠ j/\s ≠ f/\s ≠ t)/\i ≠ j/\i ≠ f/\i ≠ t/\j ≠ f/\j ≠ t/\f ≠ t)
  (hc:X.calm = true) (hp:PassesOwn (model X.prog X.w) X.A X.env X.xe) (hN:X.N.Nodup) (hu:X.A.units + 64 < cLine)
  (w1:swapsWith (.Dict [] [] g1) (some (.Name xr g2)) g3.line X.env = pure false) (w2:swapsWith ef (some (.Name xf h1)) h2.line X.env = pure false) (w3:swapsWith et (some (.Name xt h3)) h4.line X.env = pure false)
  (w4:swapsWith ev (some (.Subscript (.Name xr i1) (.Tuple [.Name x1 i2,.Name x2 i3] m2 i4) i5)) i6.line X.env = pure false)
  (hs1:∀ x,foldedSetIterable (.Name xs g5) X.env x = pure x) (hs2:∀ x,foldedSetIterable (.Name xs g8) X.env x = pure x) (hr:PSs X rest u) :
  PSs X (.Assign [.Name xr g2] (.Dict [] [] g1) g3 :: .For (.Name x1 g4) (.Name xs g5) [.For (.Name x2 g7) (.Name xs g8)
   [.Assign [.Name xf h1] ef h2,.Assign [.Name xt h3] et h4,.If te [.Return (some (.Constant (.bool false) m1 h5)) h6] [] h7,
   .If (.Name xt h8) [.Assign [.Subscript (.Name xr i1) (.Tuple [.Name x1 i2,.Name x2 i3] m2 i4) i5] ev i6] [] i7] [] g9] [] g6 :: rest)
   (fun Ds Y H=>∃ Z G,Rel c Z Y H G/\(NoOwn Z/\r < Z.length/\i < Z.length/\j < Z.length/\f < Z.length/\t < Z.length)/\∃ zs b,Z[s]? = some (.val (.lst b (zs.map D.int)))/\zs.length <= 10 /\
    kOut i j f t A B C V' zs zs (Z.set r .un) [] fun kvs=>∀ Z' Y' H' G' d a,K1 c r s d a zs Z.length G Z' Y' H' G' kvs->kvs.length <= 100->u Ds Y' H'):=by
 obtain ⟨⟨n1,nn2,n3,n4,n5⟩,⟨o1,o2,o3,o4⟩,o5,o6,o7,o8,o9,o0⟩:=ne
 refine zdG (zai (zaM hN vr.1 vr.2.2.1.1 zk4 w1 vr.2.2.1.2) (zai (zbO hp hc (zbR vs.pe) (zas hN v1.1 v1.2.2.1.1 v1.2.2.1.2) (zap (zbO hp hc (zbR vs.pe) (zas hN v2.1 v2.2.2.1.1 v2.2.2.1.2)
   (zai (zaM hN vf.1 vf.2.2.1.1 hA.pe w2 vf.2.2.1.2) (zai (zaM hN vt.1 vt.2.2.1.1 hB.pe w3 vt.2.2.1.2) (zai (zc2 hC.pt (zap (za3 zlb)) zba)
    (zap (zc2 (zmf vt.pe (by intro _;rfl)) (zap (zjZ (by omega) vr.pe (pe_tup (zaf v1.pe (zaf v2.pe pa_nil rfl) rfl)) hV.pe w4)) zba))))) hs2)) hs1) hr)) fun Ds Y H h=>?_
 obtain ⟨Z,G,R,⟨no,lr,li,lj,lf,lt⟩,zs,b,hs,hz,q⟩:=h
 intro d hd
 have t0:Stp c.β H G (upd H d (.dT [])) G:=Stp.own R.gh R.bx hd
 obtain ⟨vs0,hv0,rs0⟩:=R.slot s _ hs
 obtain ⟨a,us,rfl,ga,_,ru⟩:=rs0
 obtain rfl:us = zs.map V.int:=reps_ints.mp ru
 have p0:K1 c r s d a zs Z.length G (Z.set r .un) (Y.set r (some (.ref d))) (upd H d (.dT [])) G []:=
  ⟨(R.step t0).unset r (.ref d),no.unset r,by simp,YAr (by rw [<- R.len];exact lr),by rw [YAj (Ne.symm n5)];exact hv0,Same.refl _,ga,⟨zac,zar R.gh hd,R.new0 hd,R.neβ hd⟩⟩
 refine ⟨.ref a,p0.ss,a,rfl,⟨_,SqL.of p0.at⟩,fun n m Y' H'=>m = zs.length - n/\n <= zs.length/\∃ Z' G' kvs,K1 c r s d a zs Z.length G Z' Y' H' G' kvs/\kvs.length <= n * zs.length/\kOut i j f t A B C V' zs (zs.drop n) Z' kvs (fun kvs=>∀ Z' Y' H' G' d a,K1 c r s d a zs Z.length G Z' Y' H' G' kvs->kvs.length <= 100->u Ds Y' H'),
  ⟨zs.length,rfl,YAD _,_,_,_,p0,YAD _,q⟩,?_⟩
 clear q p0 hv0
 rintro n m Y' H' ⟨rfl,hn,Z',G',kvs,p,kl,q⟩
 by_cases hlt:n < zs.length
 .rw [YAJ hlt] at q
  refine .inr ⟨⟨_,.int zs[n],SqL.of p.at,by rw [YAk,YAd hlt];rfl⟩,fun Y2 H2=>∃ Z' G' kvs,K1 c r s d a zs Z.length G Z' Y2 H2 G' kvs/\kvs.length <= (n + 1) * zs.length/\kOut i j f t A B C V' zs (zs.drop (n + 1)) Z' kvs (fun kvs=>∀ Z' Y' H' G' d a,K1 c r s d a zs Z.length G Z' Y' H' G' kvs->kvs.length <= 100->u Ds Y' H'),
   fun Y2 H2 h=>⟨zs.length - (n + 1),by omega,rfl,by omega,h⟩,fun x H3 hy=>?_⟩
  obtain ⟨rfl,hx⟩:=hy
  have hx:=hx _ (SqL.of p.at)
  rw [YAk,YAd hlt] at hx
  obtain rfl:V.int zs[n] = x:=Option.some.inj hx
  have nL:n * zs.length <= 9 * zs.length:=Nat.mul_le_mul_right _ (by omega)
  have p1:=p.put (k:=i) (x:=.int zs[n]) (v:=.int zs[n]) (Ne.symm n1) (Ne.symm o1) rfl
  have si:(Y'.set i (some (V.int zs[n])))[i]? = some (some (.int zs[n])):=YAr (by rw [p.slen];exact li)
  have q:kIn j f t A B C V' zs[n] zs (Z'.set i (.val (.int zs[n]))) kvs fun Z' kvs'=>kOut i j f t A B C V' zs (zs.drop (n + 1)) Z' kvs' (fun kvs=>∀ Z' Y' H' G' d a,K1 c r s d a zs Z.length G Z' Y' H' G' kvs->kvs.length <= 100->u Ds Y' H'):=q
  generalize zs[n] = z at p1 si q
  show tFor _ _ _ _ (Y'.set i (some (.int z))) _
  generalize Y'.set i (some (V.int z)) = Y1 at p1 si ⊢
  generalize Z'.set i (.val (.int z)) = Z1 at p1 q
  clear p
  refine ⟨.ref a,p1.ss,a,rfl,⟨_,SqL.of p1.at⟩,fun n2 m Y' H'=>m = zs.length - n2/\n2 <= zs.length/\∃ Z' G' kvs,K1 c r s d a zs Z.length G Z' Y' H' G' kvs/\Y'[i]? = some (some (.int z))/\kvs.length <= n * zs.length + n2/\kIn j f t A B C V' z (zs.drop n2) Z' kvs (fun Z' kvs'=>kOut i j f t A B C V' zs (zs.drop (n + 1)) Z' kvs' (fun kvs=>∀ Z' Y' H' G' d a,K1 c r s d a zs Z.length G Z' Y' H' G' kvs->kvs.length <= 100->u Ds Y' H')),
   ⟨zs.length,rfl,YAD _,_,_,_,p1,si,by omega,q⟩,?_⟩
  clear q p1 si
  rintro n2 m Y2 H2 ⟨rfl,hn2,Z2,G2,kv2,p2,si,kl2,q⟩
  by_cases hl2:n2 < zs.length
  .rw [YAJ hl2] at q
   refine .inr ⟨⟨_,.int zs[n2],SqL.of p2.at,by rw [YAk,YAd hl2];rfl⟩,fun Y' H'=>∃ Z' G' kvs,K1 c r s d a zs Z.length G Z' Y' H' G' kvs/\Y'[i]? = some (some (.int z))/\kvs.length <= n * zs.length + (n2 + 1)/\kIn j f t A B C V' z (zs.drop (n2 + 1)) Z' kvs (fun Z' kvs'=>kOut i j f t A B C V' zs (zs.drop (n + 1)) Z' kvs' (fun kvs=>∀ Z' Y' H' G' d a,K1 c r s d a zs Z.length G Z' Y' H' G' kvs->kvs.length <= 100->u Ds Y' H')),
    fun Y2 H2 h=>⟨zs.length - (n2 + 1),by omega,rfl,by omega,h⟩,fun x H3 hy=>?_⟩
   obtain ⟨rfl,hx⟩:=hy
   have hx:=hx _ (SqL.of p2.at)
   rw [YAk,YAd hl2] at hx
   obtain rfl:V.int zs[n2] = x:=Option.some.inj hx
   generalize zs[n2] = y at q ⊢
   have p3:=p2.put (k:=j) (x:=.int y) (v:=.int y) (Ne.symm nn2) (Ne.symm o2) rfl
   refine ⟨_,_,p3.rel,hA.mono _ _ _ (fun av qa va H4 G4 t4 ea=>?_) q⟩
   have p4:=(p3.step t4).put (k:=f) (Ne.symm n3) (Ne.symm o3) ea
   refine ⟨_,_,p4.rel,hB.mono _ _ _ (fun bv ⟨bb,eb,qb⟩ vb H5 G5 t5 ebr=>?_) qa⟩
   subst eb
   have p5:=(p4.step t5).put (k:=t) (Ne.symm n4) (Ne.symm o4) ebr
   obtain rfl:vb = .bl bb:=ebr
   refine ⟨_,_,p5.rel,hC.mono _ _ _ (fun z0 ⟨ez,q0,q1⟩ H6 G6 t6=>?_) qb⟩
   subst ez
   refine zln rfl ?_
   have p6:=p5.step t6
   have sl:Y2.length = Z.length:=p2.slen
   have si':(((Y2.set j (some (.int y))).set f (some va)).set t (some (.bl bb)))[i]? = some (some (.int z)):=by rw [YAj (Ne.symm o7),YAj (Ne.symm o6),YAj (Ne.symm o5)];exact si
   have sj':(((Y2.set j (some (.int y))).set f (some va)).set t (some (.bl bb)))[j]? = some (some (.int y)):=by rw [YAj (Ne.symm o9),YAj (Ne.symm o8),YAr (by omega)]
   have st':(((Y2.set j (some (.int y))).set f (some va)).set t (some (.bl bb)))[t]? = some (some (.bl bb)):=YAr (by rw [YBH,YBH];omega)
   refine ⟨.bl bb,st',bb,rfl,?_⟩
   cases bb with
   | false=>exact zln rfl ⟨_,_,_,p6,si',by omega,q0 rfl⟩
   | true=>
    refine ⟨_,_,p6.rel,hV.mono _ _ _ (fun v ⟨n0,ev,qv⟩ v' H7 G7 t7 er=>?_) (q1 rfl)⟩
    subst ev
    obtain rfl:v' = .int n0:=er
    have p7:=p6.step t7
    refine ⟨.ref d,p7.sr,zfV si' sj' fun p hp=>⟨d,_,rfl,DPut.t (by rw [zae (zad p7.dd.dict hp)];exact p7.dd.dict) zac (by unfold kvL;rw [YAc,YAL];omega),?_⟩⟩
    have p8:=(p7.step (Stp.own (o:=.tup ((kL (z,y)).map kV)) p7.rel.gh p7.rel.bx hp)).wr (kvs':=putP kv2 (z,y) n0)
    rw [zkV]
    have:=zk8 kv2 (z,y) n0
    exact ⟨_,_,_,p8,si',by omega,qv⟩
  .have e:n2 = zs.length:=by omega
   subst e
   rw [YBq] at q
   exact .inl ⟨⟨_,SqL.of p2.at,by rw [YAc];exact YAl _⟩,_,_,_,p2,by rw [Nat.succ_mul];exact kl2,q⟩
 .have e:n = zs.length:=by omega
  subst e
  rw [YBq] at q
  have:zs.length * zs.length <= 10 * 10:=Nat.mul_le_mul hz hz
  exact .inl ⟨⟨_,SqL.of p.at,by rw [YAc];exact YAl _⟩,q _ _ _ _ _ _ p (by omega)⟩
def zpk (r s i j f t k:Nat) (hA:DE X c ef A) (hB:DE X c et B) (hC:DT X c te C) (hV:DE X c ev V') (vr:NV X r xr:=by exact ⟨rfl,by first | exact Or.inl rfl | exact Or.inr (Or.inl rfl),by first | exact ⟨Or.inl rfl,.inr rfl⟩ | exact ⟨Or.inr rfl,.inl rfl⟩,by decide,by decide⟩) (vs:NV X s xs:=by exact ⟨rfl,by first | exact Or.inl rfl | exact Or.inr (Or.inl rfl),by first | exact ⟨Or.inl rfl,.inr rfl⟩ | exact ⟨Or.inr rfl,.inl rfl⟩,by decide,by decide⟩) (v1:NV X i x1:=by exact ⟨rfl,by first | exact Or.inl rfl | exact Or.inr (Or.inl rfl),by first | exact ⟨Or.inl rfl,.inr rfl⟩ | exact ⟨Or.inr rfl,.inl rfl⟩,by decide,by decide⟩) (v2:NV X j x2:=by exact ⟨rfl,by first | exact Or.inl rfl | exact Or.inr (Or.inl rfl),by first | exact ⟨Or.inl rfl,.inr rfl⟩ | exact ⟨Or.inr rfl,.inl rfl⟩,by decide,by decide⟩) (vf:NV X f xf:=by exact ⟨rfl,by first | exact Or.inl rfl | exact Or.inr (Or.inl rfl),by first | exact ⟨Or.inl rfl,.inr rfl⟩ | exact ⟨Or.inr rfl,.inl rfl⟩,by decide,by decide⟩) (vt:NV X t xt:=by exact ⟨rfl,by first | exact Or.inl rfl | exact Or.inr (Or.inl rfl),by first | exact ⟨Or.inl rfl,.inr rfl⟩ | exact ⟨Or.inr rfl,.inl rfl⟩,by decide,by decide⟩) (v3:NV X k x3:=by exact ⟨rfl,by first | exact Or.inl rfl | exact Or.inr (Or.inl rfl),by first | exact ⟨Or.inl rfl,.inr rfl⟩ | exact ⟨Or.inr rfl,.inl rfl⟩,by decide,by decide⟩)
  (ne:(r ≠ i/\r ≠ j/\r ≠ f/\r ≠ t/\s ≠ r)/\(s ≠ i/\s ≠ j/\s ≠ f/\s ≠ t)/\i ≠ j/\i ≠ f/\i ≠ t/\j ≠ f/\j ≠ t/\f ≠ t:=by decide)
  (ne2:r ≠ i/\r ≠ j/\r ≠ k/\s ≠ i/\s ≠ j/\s ≠ k/\i ≠ j/\i ≠ k/\j ≠ k:=by decide)
  (w1:swapsWith (.Dict [] [] g1) (some (.Name xr g2)) g3.line X.env = pure false:=by rfl) (w2:swapsWith ef (some (.Name xf h1)) h2.line X.env = pure false:=by rfl) (w3:swapsWith et (some (.Name xt h3)) h4.line X.env = pure false:=by rfl)
  (w4:swapsWith ev (some (.Subscript (.Name xr i1) (.Tuple [.Name x1 i2,.Name x2 i3] m2 i4) i5)) i6.line X.env = pure false:=by rfl)
  (m:M2 X (.Name xr d1) "get" d2 (.Tuple [.Name x1 d3,.Name x3 d4] n5 d5) (.Constant .none k1 d6) d7:=by exact ⟨rfl,rfl,rfl,rfl⟩)
  (hs1:∀ x,foldedSetIterable (.Name xs g5) X.env x = pure x:=by intro _;rfl) (hs2:∀ x,foldedSetIterable (.Name xs g8) X.env x = pure x:=by intro _;rfl)
  (hs3:∀ x,foldedSetIterable (.Call (.Name "list" a4) [.Name xr a5] [] a6) X.env x = pure x:=by intro _;rfl) (hs4:∀ x,foldedSetIterable (.Name xs c2) X.env x = pure x:=by intro _;rfl)
  (hg:Gl X "list" := by rfl) (hc:X.calm = true:=by rfl) (hp:PassesOwn (model X.prog X.w) X.A X.env X.xe:=by exact YBd) (hN:X.N.Nodup:=by decreasing_trivial) (hm:X.mg "list" = none:=by decreasing_trivial) (hu:X.A.units + 64 < cLine:=by decreasing_trivial) :
  DSs X c [.Assign [.Name xr g2] (.Dict [] [] g1) g3,.For (.Name x1 g4) (.Name xs g5) [.For (.Name x2 g7) (.Name xs g8)
   [.Assign [.Name xf h1] ef h2,.Assign [.Name xt h3] et h4,.If te [.Return (some (.Constant (.bool false) m1 h5)) h6] [] h7,
   .If (.Name xt h8) [.Assign [.Subscript (.Name xr i1) (.Tuple [.Name x1 i2,.Name x2 i3] m2 i4) i5] ev i6] [] i7] [] g9] [] g6,
   .For (.Tuple [.Name x1 a1,.Name x2 a2] n1 a3) (.Call (.Name "list" a4) [.Name xr a5] [] a6)
   [.If (.Compare (.Subscript (.Name xr b1) (.Tuple [.Name x1 b2,.Name x2 b3] n2 b4) b5) [.NotEq] [.UnaryOp .USub (.Subscript (.Name xr b6) (.Tuple [.Name x2 b7,.Name x1 b8] n3 b9) e1) e2] e3) [.Return (some (.Constant (.bool false) k2 e4)) e5] [] e6,
   .For (.Name x3 c1) (.Name xs c2)
    [.If (.Compare (.Tuple [.Name x2 c3,.Name x3 c4] n4 c5) [.In] [.Name xr c6] c7)
     [.If (.Compare (.Call (.Attribute (.Name xr d1) "get" d2) [.Tuple [.Name x1 d3,.Name x3 d4] n5 d5,.Constant .none k1 d6] [] d7) [.NotEq] [.BinOp (.Subscript (.Name xr d8) (.Tuple [.Name x1 d9,.Name x2 f1] n6 f2) f3) .Add (.Subscript (.Name xr f4) (.Tuple [.Name x2 f5,.Name x3 f6] n7 f7) f8) f9] e7) [.Return (some (.Constant (.bool false) m3 i8)) i9] [] c8] [] e8] [] e9] [] a7,
   .Return (some (.Constant (.bool true) k3 a8)) a9] (k17W r s i j f t A B C V' k) where
 mono:=fun E E' Z l ⟨h,zs,b,h1,h2,q⟩=>⟨h,zs,b,h1,h2,zeR hA.mono hB.mono hC.mono hV.mono (fun kvs z=>⟨z.1,l.rt _ z.2⟩) q⟩
 pss:=zdG (zoN r s i j f t hA hB hC hV vr vs v1 v2 vf vt ne hc hp hN hu w1 w2 w3 w4 hs1 hs2 (zn1 r s i j k vr vs v1 v2 v3 ne2 hg hc hp hN hm hu m hs3 hs4)) fun Ds Y H ⟨Z,G,R,⟨no,lr,li,lj,lf,lt,lk⟩,zs,b,h1,h2,q⟩=>
  ⟨Z,G,R,⟨no,lr,li,lj,lf,lt⟩,zs,b,h1,h2,zeR hA.mono hB.mono hC.mono hV.mono (fun kvs ⟨ok,q⟩ Z' Y' H' G' d a p hl=>
   ⟨d,a,kvs,zs,p.sr,p.ss,p.dd.dict,p.at,ok,by omega,⟨by rw [p.slen];exact li,by rw [p.slen];exact lj,by rw [p.slen];exact lk⟩,fun H2 e=>q (.bl true) H2 G' (Stp.ext p.rel.stp e) rfl⟩) q⟩
end
noncomputable def zc9:WS:=(seqW (asgW (.tp 4 (.cons (.nm 2) (.cons (.nm 3) (.cons (.nm 4) (.cons (.nm 5) .nil))))) (zaw 4 zbw (zab (vW 1) (zab (kW (.int 8)) (zab (kW (.int 6)) (zab (kW (.int 30)) nilA))))))
  (seqW (asgW (.nm 6) (zaw 2 zah (zab (vW 1) (zab (kW (.int 4)) nilA))))
  (seqW (asgW (.nm 7) (zaw 3 zbk (zab (vW 2) (zab (valW (zfF (vW 3))) (zab (vW 6) nilA)))))
  (seqW (asgW (.nm 8) (valW (zaI [none,some 1,some 2] (zcq (kW (.int 2))) (.nm 0) noIf (zaw 2 zah (zab (vW 1) (zab (vW 2) nilA))))))
  (seqW (ifS (blW (isNW (vW 7))) (retW (cbW allF (zab (valW (zaI [none,some 2,some 6,some 3,some 8] (zcq (vW 2)) (.nm 0) noIf (binW eqD (binW ixD (zaw 5 zd6 (zab (vW 1) (zab (valW (zfF (vW 3))) (zab (vW 2) (zab (ixvW 4 (kW (.int 0))) (zab (vW 0) nilA)))))) (kW (.int 0))) (kW (.str "none"))))) nilA))) nilS)
  (seqW (asgW (.nm 9) (ixvW 7 (zaw 2 zah (zab (vW 1) (zab (zfa 7) nilA)))))
  (seqW (asgW (.nm 8) (binW addD (vW 8) (valW (zaI [none,some 9,some 1] (zcq (kW (.int 2))) (.nm 0) noIf (ixvW 1 (zaw 2 zah (zab (vW 2) (zab (zfa 1) nilA))))))))
  (k17W 10 8 11 12 13 14 (zaw 5 zd6 (zab (vW 2) (zab (valW (zfF (vW 3))) (zab (vW 6) (zab (vW 11) (zab (vW 12) nilA)))))) (cbW anyF (zab (valW (zaI [none,some 11,some 12] (seqI (vW 7)) (.nm 0) noIf (andW (binW (inD false) (vW 1) (vW 0)) (binW (inD false) (vW 2) (vW 0))))) nilA)) (blW (binW neD (ixvW 13 (kW (.int 0))) (binW ixD (valW (lstW (zab (kW (.str "open")) (zab (kW (.str "sure")) nilA)))) (cbW intF (zab (vW 14) nilA))))) (ixvW 13 (kW (.int 1))) 15))))))))
def kI (tabs:List Tb) (z:Int):PKy:=tabs.map fun tab=>((pA tab z).1,(pA tab z).2 - (pA (tabs.headD []) z).2)
def uT (tabs:List Tb) (k:Int × Int):Int:=(pA (tabs.headD []) k.2).2 - (pA (tabs.headD []) k.1).2
def kI_iff {tabs:List Tb} {a b:Int}:kI tabs a = kI tabs b ↔ ∀ tab ∈ tabs,(pA tab a).1 = (pA tab b).1/\(pA tab a).2 - (pA (tabs.headD []) a).2 = (pA tab b).2 - (pA (tabs.headD []) b).2:=by
 unfold kI
 rw [List.map_inj_left]
 refine ⟨fun h tab ht=>?_,fun h tab ht=>?_⟩
 .have:=h tab ht
  exact ⟨congrArg (·.1) this,congrArg (·.2) this⟩
 .obtain ⟨x,y⟩:=h tab ht
  exact Prod.ext x y
def zlF {n:Nat} {rs:List Rn} {m:Nat} {tabs:List Tb} {a b:Int} {d:D} (pr:Paired (fun l tab=>PlOk n (zaD rs l) tab) (setsR rs (cntR m rs)) tabs) (ne:setsR rs (cntR m rs) ≠ []) (o0:0 <= a) (o1:a < n) (p0:0 <= b) (p1:b < n) (T:zmn n rs m a b d) :
  (kI tabs a = kI tabs b/\∃ p,d = .tup [.str "sure",.int (uT tabs (a,b)),p])\/(kI tabs a ≠ kI tabs b/\∃ p q,d = .tup [.str "open",p,q]):=by
 have tn:tabs ≠ []:=fun z=>by
  rw [z] at pr
  cases hs:setsR rs (cntR m rs) with
  | nil=>exact ne hs
  | cons x y=>rw [hs] at pr;cases pr
 have hh:=znw (z:=([]:Tb)) tn
 rcases T with T | ⟨r,T⟩ | T
 .exact absurd T.emp ne
 .have ri:∀ tab ∈ tabs,(pA tab a).1 = (pA tab b).1/\(pA tab b).2 - (pA tab a).2 = r:=fun tab ht=>by
   obtain ⟨l,hl,p⟩:=zbe pr tab ht
   obtain ⟨hts,h1,h2⟩:=p.ht
   refine ⟨(p.low a b o0 o1 p0 p1).mpr (T.conn l hl),?_⟩
   rw [h2 b p0 p1,h2 a o0 o1]
   exact T.all l (Fen.gI hts) ⟨hl,h1⟩
  have r0:uT tabs (a,b) = r:=(ri _ hh).2
  obtain ⟨p,e,_⟩:=T.pap
  refine .inl ⟨kI_iff.mpr fun tab ht=>⟨(ri tab ht).1,?_⟩,p,by rw [e,r0]⟩
  have x1:=(ri tab ht).2
  have x2:=(ri _ hh).2
  omega
 .obtain ⟨l,h,l',h',e,r1,r2,ne2⟩:=T.ex
  refine .inr ⟨fun k=>?_,_,_,e⟩
  have k:=kI_iff.mp k
  have ri:∀ {l h},RdOk n rs (cntR m rs) l h->Fen.gI h b - Fen.gI h a = uT tabs (a,b):=fun {l h} q=>by
   obtain ⟨tab,ht,p⟩:=zgK pr l q.mem
   obtain ⟨k1,k2⟩:=k tab ht
   obtain ⟨hts,h1,h2⟩:=p.ht
   have c:=(p.low a b o0 o1 p0 p1).mp k1
   have:=Fen.zkM q.fit h1 c
   rw [<- h2 b p0 p1,<- h2 a o0 o1] at this
   show _ = (pA (tabs.headD []) b).2 - (pA (tabs.headD []) a).2
   omega
  exact ne2 ((ri r2).trans (ri r1).symm)
def rowsI (tabs:List Tb) (n:Nat):List (List Int):=(fst (keyT tabs) n).map fun m=>(cls (keyT tabs) n m).map fun j:Nat=>(0:Int) + (j:Int)
def zmT (tabs:List Tb) (n:Nat):ziW tabs n = .lst true ((rowsI tabs n).map lsD):=by
 unfold ziW rowsI
 rw [YAF]
 congr 1
 refine YA7 fun m _=>?_
 show D.lst true _ = D.lst true _
 rw [YAF];rfl
def zeN {tabs:List Tb} {n m:Nat} {a:Int} (h0:0 <= a) (h1:a < n):a ∈ ((cls (keyT tabs) n m).map fun j:Nat=>(0:Int) + (j:Int)) ↔ kI tabs a = keyT tabs m:=by
 obtain ⟨a,rfl⟩:∃ k:Nat,a = (k:Int):=⟨a.toNat,by omega⟩
 rw [YAB]
 refine ⟨fun ⟨j,hj,e⟩=>?_,fun e=>⟨a,YA3.mpr ⟨YAW.mpr (by omega),YAS e⟩,by omega⟩⟩
 obtain rfl:j = a:=by omega
 exact YAV (YA3.mp hj).2
def znu {tabs:List Tb} {n:Nat} {a b:Int} (a0:0 <= a) (a1:a < n) (b0:0 <= b) (b1:b < n):((rowsI tabs n).any fun row=>row.contains a && row.contains b) = decide (kI tabs a = kI tabs b):=by
 rw [YCw,YB2,YCj]
 constructor
 .rintro ⟨row,hr,h⟩
  obtain ⟨m,_,rfl⟩:=YAB.mp hr
  have h:=YCe.mp h
  exact ((zeN a0 a1).mp (YBh.mp h.1)).trans ((zeN b0 b1).mp (YBh.mp h.2)).symm
 .intro e
  obtain ⟨f,hf,k⟩:=zkF (key:=keyT tabs) (t:=n) a.toNat (by omega)
  have ka:kI tabs a = keyT tabs f:=by rw [k];show _ = kI tabs ((a.toNat:Nat):Int);rw [YBg a0]
  exact ⟨_,YAB.mpr ⟨f,hf,rfl⟩,YCe.mpr ⟨YBh.mpr ((zeN a0 a1).mpr ka),YBh.mpr ((zeN b0 b1).mpr (e ▸ ka))⟩⟩
def zo4 {tabs:List Tb} {n:Nat} {row:List Int} (h:row ∈ rowsI tabs n):row ≠ []/\row.length <= n/\∀ z ∈ row,0 <= z/\z < n:=by
 obtain ⟨m,hm,rfl⟩:=YAB.mp h
 have lt:=zjg hm
 refine ⟨fun z=>?_,?_,fun z hz=>?_⟩
 .have:=(zeN (tabs:=tabs) (n:=n) (m:=m) (a:=m) (by omega) (by omega)).mpr rfl
  rw [z] at this;cases this
 .have:=YB9 (fun j=>decide (keyT tabs j = keyT tabs m)) (List.range n)
  rw [YBe] at this
  rw [YAc];exact this
 .obtain ⟨j,hj,rfl⟩:=YAB.mp hz
  have:=YAW.mp (YA3.mp hj).1
  omega
def zik (tabs:List Tb) (n:Nat):(rowsI tabs n).length <= n:=by
 have:=YB9 (fun m=>(List.range m).all fun j=>decide (keyT tabs j ≠ keyT tabs m)) (List.range n)
 rw [YBe] at this
 unfold rowsI;rw [YAc];exact this
structure IK (tabs:List Tb) (done:List (Int × Int)) (kvs:KP):Prop where
 all:∀ k ∈ done,kI tabs k.1 = kI tabs k.2->∃ p ∈ kvs,p.1 = k
 ok:∀ p ∈ kvs,p.1 ∈ done/\kI tabs p.1.1 = kI tabs p.1.2/\p.2 = uT tabs p.1
def zlJ {kvs:KP} {k:Int × Int} {v:Int} {p:(Int × Int) × Int} (h:p ∈ putP kvs k v):p = (k,v)\/p ∈ kvs:=by
 unfold putP at h
 split at h
 .obtain ⟨q,hq,rfl⟩:=YAB.mp h
  split
  .rename_i e;rw [e];exact .inl rfl
  .exact .inr hq
 .rcases YAm.mp h with h | h
  .exact .inr h
  .exact .inl (YAg.mp h)
def zlQ {kvs:KP} {k:Int × Int} {v:Int}:(∃ p ∈ putP kvs k v,p.1 = k)/\∀ p ∈ kvs,∃ q ∈ putP kvs k v,q.1 = p.1:=by
 unfold putP
 split
 .rename_i h
  obtain ⟨p,hp,e⟩:=YB2.mp h
  have e:=YAV e
  refine ⟨⟨_,YAB.mpr ⟨p,hp,rfl⟩,by rw [if_pos e];exact e⟩,fun q hq=>⟨_,YAB.mpr ⟨q,hq,rfl⟩,by split <;> rfl⟩⟩
 .exact ⟨⟨_,YAq _ YAi,rfl⟩,fun q hq=>⟨q,YAx _ hq,rfl⟩⟩
def IK.put {tabs:List Tb} {done:List (Int × Int)} {kvs:KP} {k:Int × Int} (h:IK tabs done kvs) (e:kI tabs k.1 = kI tabs k.2):IK tabs (done ++ [k]) (putP kvs k (uT tabs k)):=by
 obtain ⟨p1,p2⟩:=zlQ (kvs:=kvs) (k:=k) (v:=uT tabs k)
 refine ⟨fun k' hk' e'=>?_,fun p hp=>?_⟩
 .rcases YAm.mp hk' with z | z
  .obtain ⟨p,hp,rfl⟩:=h.all k' z e'
   exact p2 p hp
  .rw [YAg.mp z];exact p1
 .rcases zlJ hp with rfl | z
  .exact ⟨YAq _ YAi,e,rfl⟩
  .obtain ⟨a,b,c⟩:=h.ok p z
   exact ⟨YAx _ a,b,c⟩
def IK.skip {tabs:List Tb} {done:List (Int × Int)} {kvs:KP} {k:Int × Int} (h:IK tabs done kvs) (e:kI tabs k.1 ≠ kI tabs k.2):IK tabs (done ++ [k]) kvs:=by
 refine ⟨fun k' hk' e'=>?_,fun p hp=>?_⟩
 .rcases YAm.mp hk' with z | z
  .exact h.all k' z e'
  .rw [YAg.mp z] at e';exact absurd e' e
 .obtain ⟨a,b,c⟩:=h.ok p hp
  exact ⟨YAx _ a,b,c⟩
def IK.val {tabs:List Tb} {done:List (Int × Int)} {kvs:KP} (h:IK tabs done kvs) {k:Int × Int} (hk:∃ p ∈ kvs,p.1 = k):valP kvs k = some (uT tabs k):=by
 unfold valP
 cases hf:kvs.find? fun p=>decide (p.1 = k) with
 | none=>
  obtain ⟨p,hp,e⟩:=hk
  have:=List.find?_eq_none.mp hf p hp
  exact absurd (YAS e) this
 | some p=>
  have e:p.1 = k:=YAV (List.find?_some (p:=fun p:(Int × Int) × Int=>decide (p.1 = k)) hf)
  show some p.2 = _
  rw [(h.ok p (List.mem_of_find?_eq_some hf)).2.2,e]
def IK.of {kvs:KP} {k:Int × Int} {w:Int} (h:valP kvs k = some w):∃ p ∈ kvs,p.1 = k:=by
 unfold valP at h
 cases hf:kvs.find? fun p=>decide (p.1 = k) with
 | none=>rw [hf] at h;cases h
 | some p=>exact ⟨p,List.mem_of_find?_eq_some hf,YAV (List.find?_some (p:=fun p:(Int × Int) × Int=>decide (p.1 = k)) hf)⟩
def zoc {tabs:List Tb} {done:List (Int × Int)} {kvs:KP} {zs:List Int} (h:IK tabs done kvs) (hd:∀ k,k ∈ done ↔ k.1 ∈ zs/\k.2 ∈ zs):Ok2 kvs zs:=fun p hp=>by
 obtain ⟨h1,h2,_⟩:=h.ok p hp
 obtain ⟨z1,z2⟩:=(hd _).mp h1
 refine ⟨uT tabs p.1,h.val ⟨p,hp,rfl⟩,?_,fun z hz w hw=>?_⟩
 .rw [h.val (h.all (p.1.2,p.1.1) ((hd _).mpr ⟨z2,z1⟩) h2.symm)]
  unfold uT;dsimp only;congr 1;omega
 .have hk:=IK.of hw
  obtain ⟨p2,hp2,e2⟩:=hk
  have e3:=(h.ok p2 hp2).2.1
  rw [e2] at e3
  rw [h.val ⟨p2,hp2,e2⟩] at hw
  rw [h.val (h.all (p.1.1,z) ((hd _).mpr ⟨z1,hz⟩) (h2.trans e3)),<- Option.some.inj hw]
  unfold uT;dsimp only;congr 1;omega
def A17:WE:=zaw 5 zd6 (zab (vW 2) (zab (valW (zfF (vW 3))) (zab (vW 6) (zab (vW 11) (zab (vW 12) nilA)))))
def B17:WE:=cbW anyF (zab (valW (zaI [none,some 11,some 12] (seqI (vW 7)) (.nm 0) noIf (andW (binW (inD false) (vW 1) (vW 0)) (binW (inD false) (vW 2) (vW 0))))) nilA)
def C17:WT:=blW (binW neD (ixvW 13 (kW (.int 0))) (binW ixD (valW (lstW (zab (kW (.str "open")) (zab (kW (.str "sure")) nilA)))) (cbW intF (zab (vW 14) nilA))))
def V17:WE:=ixvW 13 (kW (.int 1))
noncomputable def E17 (n:Nat) (rs:List Rn) (hts fs:List Int) (m:Nat) (tabs:List Tb) (zs:List Int) (home:D) (s11 s12 s13 s14:Sl):Env:=[.un,.val .box,.val (.int n),.val (.lst true (rs.map runD)),.val (.lst true (hts.map D.int)),.val (.lst true (fs.map D.int)),.val (.int m),.val (.lst true ((rowsI tabs n).map lsD)),.val (.lst true (zs.map D.int)),.val home,.un,s11,s12,s13,s14,.un]
def okSS2:eqOk (.str "open") (.str "open")/\eqB (.str "open") (.str "open") = true:=⟨ziq _ _ (by decide +kernel) (by decide +kernel),by decide +kernel⟩
def zjS {x y:D} {r:List D} {Q:D->Prop} (q:Q y):itD (x :: y :: r) (.int 1) Q:=by
 show (match atI (x :: y :: r) 1 with | some d=>Q d | none=>False)
 have e:atI (x :: y :: r) 1 = some y:=by unfold atI ixN;rw [if_pos (by decide),if_pos (by simp;omega)];rfl
 rw [e];exact q
def zoE {x y:D} {r:List D} {Q:D->Prop} (q:Q y):ixD (.tup (x :: y :: r)) (.int 1) Q:=by show itD (x :: y :: r) (.int 1) Q;exact zjS q
def zmO {b:Bool} {x y:D} {r:List D} {Q:D->Prop} (q:Q y):ixD (.lst b (x :: y :: r)) (.int 1) Q:=by show itD (x :: y :: r) (.int 1) Q;exact zjS q
def zmH {b:Bool} {x:D} {r:List D} {Q:D->Prop} (q:Q x):ixD (.lst b (x :: r)) (.int 0) Q:=by show itD (x :: r) (.int 0) Q;exact zek q
def zjO {i:Nat} {Z:Env} {d k:D} {Q:D->Prop} (h:Z[i]? = some (.val d)) (q:ixD d k Q):ixvW i (kW k) Z Q:=by unfold ixvW;rw [h];exact q
def zmc {Z:Env} {s:Str} {r:List D} {b:Bool} {Q:Bool->Prop} (h1:Z[13]? = some (.val (.tup (.str s :: r)))) (h2:Z[14]? = some (.val (.bl b))) (hs:s = if b = true then "sure" else "open") (q:Q false):C17 Z Q:=by
 obtain ⟨k1,k2,k3,k4,k5,k6⟩:=okSS
 obtain ⟨f1,f2,f3,f4,f5,f6⟩:=eqSS
 unfold C17
 refine zjO h1 (zek (⟨by show 2 <= 100000;decide,?_⟩))
 show vW 14 Z _
 unfold vW
 rw [h2]
 subst hs
 cases b with
 | true=>
  have go:ixD (.lst true [.str "open",.str "sure"]) (.int 1) fun y=>neD (.str "sure") y fun d=>match d with | .bl b=>Q b | _=>False:=zmO ⟨k3,by show Q (!eqB (.str "sure") (.str "sure"));rw [f3];exact q⟩
  exact go
 | false=>
  have go:ixD (.lst true [.str "open",.str "sure"]) (.int 0) fun y=>neD (.str "open") y fun d=>match d with | .bl b=>Q b | _=>False:=zmH ⟨okSS2.1,by show Q (!eqB (.str "open") (.str "open"));rw [okSS2.2];exact q⟩
  exact go
def zoF {n:Nat} {rs:List Rn} {hts fs:List Int} {m:Nat} {tabs:List Tb} {zs:List Int} {home:D} (hn:n <= 8) {x y:Int} (x0:0 <= x) (x1:x < n) (y0:0 <= y) (y1:y < n) {s13 s14:Sl} {Q:D->Prop} (q:Q (.bl (decide (kI tabs x = kI tabs y)))):B17 (E17 n rs hts fs m tabs zs home (.val (.int x)) (.val (.int y)) s13 s14) Q:=by
 have hl:=zik tabs n
 refine ⟨by rw [YAc];omega,?_⟩
 refine zbV lsD (fun row=>.bl (row.contains x && row.contains y)) (rowsI tabs n) (fun row hr oQ N yy=>?_) ?_
 .refine ⟨zcA x row,?_⟩
  show blD (.bl (if false = true then _ else inB (.int x) (row.map D.int))) _
  rw [if_neg (by decide),zcM]
  cases hcx:row.contains x with
  | false=>rw [hcx] at yy;exact yy
  | true=>
   rw [hcx] at yy
   refine ⟨zcA y row,?_⟩
   show oQ (.bl (if false = true then _ else inB (.int y) (row.map D.int)))
   rw [if_neg (by decide),zcM]
   exact yy
 .refine zlc (f:=fun row:List Int=>row.contains x && row.contains y) (xs:=rowsI tabs n) (n:=true) ?_
  rw [znu x0 x1 y0 y1]
  exact q
section
variable {n:Nat} {rs:List Rn} {hts fs:List Int} {m:Nat} {tabs:List Tb} {zs:List Int} {home:D} (F:Few2 n rs) (hm:m < 4) (hn:n <= 8) (pr:Paired (fun l tab=>PlOk n (zaD rs l) tab) (setsR rs (cntR m rs)) tabs) (ne:setsR rs (cntR m rs) ≠ [])
include F hm hn pr ne
theorem in17 {x:Int} {Q:Env->KP->Prop} (x0:0 <= x) (x1:x < n):∀ (ys:List Int) (s12 s13 s14:Sl) (kvs:KP) (done:List (Int × Int)),(∀ y ∈ ys,0 <= y/\y < n)->IK tabs done kvs ->
  (∀ s12 s13 s14 kvs,IK tabs (done ++ ys.map fun y=>(x,y)) kvs->Q (E17 n rs hts fs m tabs zs home (.val (.int x)) s12 s13 s14) kvs)->kIn 12 13 14 A17 B17 C17 V17 x ys (E17 n rs hts fs m tabs zs home (.val (.int x)) s12 s13 s14) kvs Q
 | [],s12,s13,s14,kvs,done,_,h,q=>q _ _ _ _ (by rw [YDj,YAP];exact h)
 | y :: ys,s12,s13,s14,kvs,done,hy,h,q=>by
  obtain ⟨y0,y1⟩:=hy y YAi
  have hy':=fun z hz=>hy z (YAn _ hz)
  obtain ⟨k1,k2,k3,k4,k5,k6⟩:=okSS
  obtain ⟨f1,f2,f3,f4,f5,f6⟩:=eqSS
  have go:A17 (E17 n rs hts fs m tabs zs home (.val (.int x)) (.val (.int y)) s13 s14) fun a=>B17 (E17 n rs hts fs m tabs zs home (.val (.int x)) (.val (.int y)) (.val a) s14) fun b=>∃ bb,b = .bl bb/\C17 (E17 n rs hts fs m tabs zs home (.val (.int x)) (.val (.int y)) (.val a) (.val b)) fun z=>z = false /\
   (bb = false->kIn 12 13 14 A17 B17 C17 V17 x ys (E17 n rs hts fs m tabs zs home (.val (.int x)) (.val (.int y)) (.val a) (.val b)) kvs Q) /\
   (bb = true->V17 (E17 n rs hts fs m tabs zs home (.val (.int x)) (.val (.int y)) (.val a) (.val b)) fun v=>∃ w,v = .int w/\kIn 12 13 14 A17 B17 C17 V17 x ys (E17 n rs hts fs m tabs zs home (.val (.int x)) (.val (.int y)) (.val a) (.val b)) (putP kvs (x,y) w) Q):=by
   refine ⟨rfl,zbg (ziB true n rs m x y F (by omega) x0 x1 y0 y1) fun d T=>zoF hn x0 x1 y0 y1 ⟨_,rfl,?_⟩⟩
   have rest:∀ {s13 s14:Sl} {kvs':KP},IK tabs (done ++ [(x,y)]) kvs'->kIn 12 13 14 A17 B17 C17 V17 x ys (E17 n rs hts fs m tabs zs home (.val (.int x)) (.val (.int y)) s13 s14) kvs' Q:=fun {s13 s14 kvs'} ik=>
    in17 x0 x1 ys _ _ _ _ _ hy' ik fun s12 s13 s14 kvs ik=>q _ _ _ _ (by rw [YAH] at ik;exact ik)
   rcases zlF pr ne x0 x1 y0 y1 T with ⟨e,p,rfl⟩ | ⟨e,p,p',rfl⟩
   .rw [YAS e]
    refine zmc (b:=true) rfl rfl rfl ⟨rfl,(fun z=>by cases z),fun _=>?_⟩
    exact zjO rfl (zoE ⟨_,rfl,rest (h.put e)⟩)
   .rw [YAY e]
    exact zmc (b:=false) rfl rfl rfl ⟨rfl,fun _=>rest (h.skip e),fun z=>by cases z⟩
  exact go
theorem zn9 (hb:∀ y ∈ zs,0 <= y/\y < n) {Q:KP->Prop}:∀ (xs:List Int) (s11 s12 s13 s14:Sl) (kvs:KP) (done:List (Int × Int)),(∀ x ∈ xs,0 <= x/\x < n)->IK tabs done kvs ->
  (∀ kvs,IK tabs (done ++ xs.flatMap fun x=>zs.map fun y=>(x,y)) kvs->Q kvs)->kOut 11 12 13 14 A17 B17 C17 V17 zs xs (E17 n rs hts fs m tabs zs home s11 s12 s13 s14) kvs Q
 | [],s11,s12,s13,s14,kvs,done,_,h,q=>q _ (by rw [List.flatMap_nil,YAP];exact h)
 | x :: xs,s11,s12,s13,s14,kvs,done,hx,h,q=>by
  obtain ⟨x0,x1⟩:=hx x YAi
  exact in17 F hm hn pr ne x0 x1 zs s12 s13 s14 kvs done hb h fun s12 s13 s14 kvs ik=>zn9 hb xs _ _ _ _ kvs _ (fun z hz=>hx z (YAn _ hz)) ik fun kvs ik=>q kvs (by rw [YAH] at ik;rw [YCl];exact ik)
def znn {E:En} (hz:zs.length <= 10) (hb:∀ y ∈ zs,0 <= y/\y < n) (q:E.rt (.bl true)):k17W 10 8 11 12 13 14 A17 B17 C17 V17 15 E (E17 n rs hts fs m tabs zs home .un .un .un .un):=by
 refine ⟨⟨fun i xs e=>?_,by show 10 < 16;decide,by show 11 < 16;decide,by show 12 < 16;decide,by show 13 < 16;decide,by show 14 < 16;decide,by show 15 < 16;decide⟩,zs,true,rfl,hz,?_⟩
 .rcases i with _ | _ | _ | _ | _ | _ | _ | _ | _ | _ | _ | _ | _ | _ | _ | _ | i <;> first | cases e | (simp [E17] at e)
 .have go:kOut 11 12 13 14 A17 B17 C17 V17 zs zs (E17 n rs hts fs m tabs zs home .un .un .un .un) [] fun kvs=>Ok2 kvs zs/\E.rt (.bl true):=
   zn9 F hm hn pr ne hb zs .un .un .un .un [] [] hb ⟨(fun k hk=>by cases hk),(fun p hp=>by cases hp)⟩ fun kvs ik=>⟨zoc ik fun k=>?_,q⟩
  .exact go
  .rw [YBc,YB4]
   refine ⟨fun ⟨x,hx,hk⟩=>?_,fun ⟨a,b⟩=>⟨k.1,a,YAB.mpr ⟨k.2,b,rfl⟩⟩⟩
   obtain ⟨y,hy,rfl⟩:=YAB.mp hk
   exact ⟨hx,hy⟩
end
def k17r:WS:=(seqW (asgW (.nm 9) (ixvW 7 (zaw 2 zah (zab (vW 1) (zab (zfa 7) nilA)))))
  (seqW (asgW (.nm 8) (binW addD (vW 8) (valW (zaI [none,some 9,some 1] (zcq (kW (.int 2))) (.nm 0) noIf (ixvW 1 (zaw 2 zah (zab (vW 2) (zab (zfa 1) nilA))))))))
  (k17W 10 8 11 12 13 14 A17 B17 C17 V17 15)))
def zmq {n:Nat} {rs:List Rn} {hts fs:List Int} {m:Nat} {tabs:List Tb} {sp:List Int} {E:En} (F:Few2 n rs) (hm:m < 4) (n1:1 <= n) (hn:n <= 8) (pr:Paired (fun l tab=>PlOk n (zaD rs l) tab) (setsR rs (cntR m rs)) tabs) (ne:setsR rs (cntR m rs) ≠ []) (hs:sp.length = 2) (hb:∀ y ∈ sp,0 <= y/\y < n) (q:E.rt (.bl true)) :
  k17r E [.un,.val .box,.val (.int n),.val (.lst true (rs.map runD)),.val (.lst true (hts.map D.int)),.val (.lst true (fs.map D.int)),.val (.int m),.val (.lst true ((rowsI tabs n).map lsD)),.val (.lst true (sp.map D.int)),.un,.un,.un,.un,.un,.un,.un]:=by
 have hl:=zik tabs n
 have hp:0 < (rowsI tabs n).length:=by
  obtain ⟨f,hf,_⟩:=zkF (key:=keyT tabs) (t:=n) 0 (by omega)
  unfold rowsI
  rw [YAc]
  exact YCM hf
 have go:up zah [.box,.int ((rowsI tabs n).map lsD).length] fun y=>itD ((rowsI tabs n).map lsD) y fun home=>seqW (asgW (.nm 8) (binW addD (vW 8) (valW (zaI [none,some 9,some 1] (zcq (kW (.int 2))) (.nm 0) noIf (ixvW 1 (zaw 2 zah (zab (vW 2) (zab (zfa 1) nilA))))))))
  (k17W 10 8 11 12 13 14 A17 B17 C17 V17 15) E [.un,.val .box,.val (.int n),.val (.lst true (rs.map runD)),.val (.lst true (hts.map D.int)),.val (.lst true (fs.map D.int)),.val (.int m),.val (.lst true ((rowsI tabs n).map lsD)),.val (.lst true (sp.map D.int)),.val home,.un,.un,.un,.un,.un,.un]:=by
  rw [YAc]
  refine zaz (by omega) (by omega) fun x x0 x1=>ziD lsD (z:=[]) x0 x1 ?_
  have hr:(rowsI tabs n).getD x.toNat [] ∈ rowsI tabs n:=by
   rw [YAC,YAd (by omega)];exact YCs _
  obtain ⟨r1,r2,r3⟩:=zo4 hr
  generalize (rowsI tabs n).getD x.toNat [] = row at r1 r2 r3
  have rp:0 < row.length:=YDe.mpr r1
  refine ⟨⟨by decide,by decide⟩,by rw [zaJ];decide,?_⟩
  rw [zcN]
  refine zb2 (fun (k:Nat)=>D.int (k:Int)) D.int (fun _ h=>0 <= h/\h < n) _ [] (fun k hk oQ hy=>⟨rfl,?_⟩) zbD fun hh hhl hh0=>?_
  .have gg:up zah [.box,.int (row.map D.int).length] fun y=>itD (row.map D.int) y oQ:=by
    rw [YAc]
    refine zaz (by omega) (by omega) fun z z0 z1=>zbX z0 z1 (hy _ (r3 _ ?_))
    exact zgZ z0 z1
   exact ⟨rfl,gg⟩
  .rw [YBe] at hhl
   rw [YBc]
   refine ⟨by rw [YAc,YAc];omega,?_⟩
   rw [<- YAv]
   have hhl:hh.length = 2:=hhl
   refine znn F hm hn pr ne (zs:=sp ++ hh) (home:=lsD row) (by rw [YAw];omega) (fun y hy=>?_) q
   rcases YAm.mp hy with z | z
   .exact hb y z
   .obtain ⟨_,_,h⟩:=hh0 y z;exact h
 exact ⟨rfl,go⟩
def zmw {x:D} {r:List D} {Q:D->Prop} (q:Q x):ixD (.tup (x :: r)) (.int 0) Q:=by show itD (x :: r) (.int 0) Q;exact zek q
def zp0 {i:Nat} {A B:WS} {E:En} {Z:Env} (h:Z[i]? = some (.val .non)) (q:A E Z):ifS (blW (isNW (vW i))) A B E Z:=by
 show vW i Z _
 unfold vW;rw [h];exact if_t rfl q
def zpw {i:Nat} {A B:WS} {E:En} {Z:Env} {d:D} (h:Z[i]? = some (.val d)) (hn:isN d = false) (q:B E Z):ifS (blW (isNW (vW i))) A B E Z:=by
 show vW i Z _
 unfold vW;rw [h];exact if_f hn q
def k17n:WE:=cbW allF (zab (valW (zaI [none,some 2,some 6,some 3,some 8] (zcq (vW 2)) (.nm 0) noIf (binW eqD (binW ixD (zaw 5 zd6 (zab (vW 1) (zab (valW (zfF (vW 3))) (zab (vW 2) (zab (ixvW 4 (kW (.int 0))) (zab (vW 0) nilA)))))) (kW (.int 0))) (kW (.str "none"))))) nilA)
def zm3 {n:Nat} {rs:List Rn} {hts fs:List Int} {m:Nat} {sp:List Int} {Q:D->Prop} (F:Few2 n rs) (hm:m < 4) (hn:n <= 8) (em:setsR rs (cntR m rs) = []) (hs:sp.length = 2) (hb:∀ y ∈ sp,0 <= y/\y < n) (q:Q (.bl true)) :
  k17n [.un,.val .box,.val (.int n),.val (.lst true (rs.map runD)),.val (.lst true (hts.map D.int)),.val (.lst true (fs.map D.int)),.val (.int m),.val .non,.val (.lst true (sp.map D.int)),.un,.un,.un,.un,.un,.un,.un] Q:=by
 obtain ⟨k1,k2,k3,k4,k5,k6⟩:=okSS
 obtain ⟨f1,f2,f3,f4,f5,f6⟩:=eqSS
 have z0:Fen.gI sp 0 ∈ sp:=zgZ (by decide) (by omega)
 obtain ⟨s0,s1⟩:=hb _ z0
 refine ⟨⟨by omega,by omega⟩,by rw [zaJ];omega,?_⟩
 rw [zcN]
 refine zbV (fun k:Nat=>D.int (k:Int)) (fun _=>.bl true) _ (fun k hk oQ N y=>?_) ?_
 .have hk:=YAW.mp hk
  refine zbX (hs:=sp) (by decide) (by omega) ⟨rfl,zbg (ziB true n rs m (Fen.gI sp 0) k F (by omega) s0 s1 (by omega) (by omega)) fun d T=>?_⟩
  rcases T with T | ⟨r,T⟩ | T
  .obtain ⟨p,rfl,_⟩:=T.pap
   show ixD (.tup [.str "none",p]) (.int 0) _
   refine zmw ⟨k2,?_⟩
   rw [f2];exact y
  .exact absurd em T.some
  .obtain ⟨l,h,l',h',_,r1,_⟩:=T.ex
   have:=r1.mem
   rw [em] at this;cases this
 .refine zlf (f:=fun _=>true) (xs:=List.range (n:Int).toNat) (n:=true) ?_
  have ea:((List.range (n:Int).toNat).all fun _=>true) = true:=by simp
  rw [ea];exact q
def k17m:WS:=(seqW (asgW (.nm 8) (valW (zaI [none,some 1,some 2] (zcq (kW (.int 2))) (.nm 0) noIf (zaw 2 zah (zab (vW 1) (zab (vW 2) nilA))))))
  (seqW (ifS (blW (isNW (vW 7))) (retW k17n) nilS) k17r))
def zms {n:Nat} {rs:List Rn} {hts fs:List Int} {m:Nat} {d:D} {E:En} (F:Few2 n rs) (hm:m < 4) (n1:1 <= n) (hn:n <= 8)
  (hd:(setsR rs (cntR m rs) = []/\d = .non)\/∃ tabs,setsR rs (cntR m rs) ≠ []/\Paired (fun l tab=>PlOk n (zaD rs l) tab) (setsR rs (cntR m rs)) tabs/\d = ziW tabs n) (q:E.rt (.bl true)) :
  k17m E [.un,.val .box,.val (.int n),.val (.lst true (rs.map runD)),.val (.lst true (hts.map D.int)),.val (.lst true (fs.map D.int)),.val (.int m),.val d,.un,.un,.un,.un,.un,.un,.un,.un]:=by
 refine ⟨⟨by decide,by decide⟩,by rw [zaJ];decide,?_⟩
 rw [zcN]
 refine zb2 (fun (k:Nat)=>D.int (k:Int)) D.int (fun _ h=>0 <= h/\h < n) _ [] (fun k hk oQ hy=>⟨rfl,rfl,zaz (by omega) (by omega) fun h h0 h1=>hy h ⟨h0,h1⟩⟩) zbD fun sp hl h0=>?_
 rw [YBe] at hl
 have hl:sp.length = 2:=hl
 have hb:∀ y ∈ sp,0 <= y/\y < n:=fun y hy=>by obtain ⟨_,_,h⟩:=h0 y hy;exact h
 rw [YBc]
 rcases hd with ⟨em,rfl⟩ | ⟨tabs,ne,pr,rfl⟩
 .have g:ifS (blW (isNW (vW 7))) (retW k17n) nilS { nx:=k17r E,rt:=E.rt,bk:=E.bk,ct:=E.ct } [.un,.val .box,.val (.int n),.val (.lst true (rs.map runD)),.val (.lst true (hts.map D.int)),.val (.lst true (fs.map D.int)),.val (.int m),.val .non,.val (.lst true (sp.map D.int)),.un,.un,.un,.un,.un,.un,.un]:=zp0 rfl (zm3 F hm hn em hl hb q)
  exact g
 .rw [zmT]
  have g:ifS (blW (isNW (vW 7))) (retW k17n) nilS { nx:=k17r E,rt:=E.rt,bk:=E.bk,ct:=E.ct } [.un,.val .box,.val (.int n),.val (.lst true (rs.map runD)),.val (.lst true (hts.map D.int)),.val (.lst true (fs.map D.int)),.val (.int m),.val (.lst true ((rowsI tabs n).map lsD)),.val (.lst true (sp.map D.int)),.un,.un,.un,.un,.un,.un,.un]:=zpw rfl rfl (znQ (zmq F hm n1 hn pr ne hl hb q))
  exact g
def zmA:lawW 14 zc9:=by
 unfold lawW zc9
 refine ⟨rfl,zbg (zkm 8 6 30 (by omega) (by omega) (by omega) (by omega) (by omega) (by omega)) fun d ⟨size,rs,hts,fs,hd,W⟩=>?_⟩
 subst hd
 obtain ⟨n,rfl⟩:∃ n:Nat,size = (n:Int):=⟨size.toNat,by have:=W.s1;omega⟩
 have F:Few2 n rs:=W.few2 (by omega) (by omega)
 have n1:=W.s1
 have n2:=W.s2
 refine ⟨rfl,rfl,zaz (by decide) (by decide) fun mk k0 k1=>?_⟩
 obtain ⟨m,rfl⟩:∃ m:Nat,mk = (m:Int):=⟨mk.toNat,by omega⟩
 have hS:=zdh (zem rs) F.oN (cntR m rs)
 have hc:cntR m rs <= 4:=by unfold cntR;split <;> omega
 refine ⟨rfl,zbg (zex true n rs m F.toFew (by omega) (by omega) (by omega)) fun d hd=>?_⟩
 have go:k17m { nx:=fun _=>False,rt:=fun d=>d = .bl true,bk:=fun _=>False,ct:=fun _=>False } [.un,.val .box,.val (.int n),.val (.lst true (rs.map runD)),.val (.lst true (hts.map D.int)),.val (.lst true (fs.map D.int)),.val (.int m),.val d,.un,.un,.un,.un,.un,.un,.un,.un]:=
  zms F (by omega) (by omega) (by omega) hd rfl
 exact go
end Fd
namespace Fen
open PySem L2
def top (i:Nat):Stmt:=PySem.Challenge.pw_fenlevel_k17_whole_sure_goes_on.main.body.getD i (.Pass ⟨0,0,0,0⟩)
abbrev zbl:Stmt:=top 1
abbrev zb6:Stmt:=top 2
abbrev zcL:Stmt:=top 3
abbrev zdq:Stmt:=top 5
abbrev zjp:Stmt:=top 6
abbrev zdf:Stmt:=top 7
abbrev zcI:Stmt:=top 8
abbrev zhI:Stmt:=top 9
abbrev zdB:Stmt:=top 11
abbrev zbW:Stmt:=top 12
abbrev zdz:Stmt:=top 13
abbrev zb1:Stmt:=top 15
abbrev zbC:Stmt:=top 16
abbrev zdT:Stmt:=top 17
abbrev zbH:Stmt:=top 18
abbrev zbj:Stmt:=top 20
abbrev zb0:Stmt:=top 21
abbrev zb7:Stmt:=top 22
abbrev zeA:Stmt:=top 24
abbrev zaH:Stmt:=top 25
abbrev zbt:Stmt:=top 26
abbrev zkN:Stmt:=top 27
abbrev zeB:Stmt:=top 28
abbrev zbJ:Stmt:=top 29
abbrev sBox:Stmt:=top 31
abbrev zhb:Stmt:=top 32
abbrev zgv:Stmt:=top 33
abbrev zgJ:Stmt:=top 34
abbrev zgX:Stmt:=top 35
abbrev sLaw:Stmt:=top 36
section
variable {P:Program} {w:PySem.World} {K:oS} {mg:Str->Option Value} {base:Heap}
def zpT:FnScope ["_law_script"] ["_law_script"] (zan sBox):=⟨rfl,rfl,rfl,by decide +kernel,rfl,by decide +kernel,by decide +kernel⟩
def zoI {f:Addr} {fd:FuncData} (F:Fun K "_law_box" "_law_box" sBox f fd) (T:Txt K mg):FnOk P w K mg base CX0 1 f fd ["_law_script"] (zmZ K):=by
 refine F.ok zpT (fun vs H Q E h=>?_) (fun cdv A outer s H vs Q E hr h=>?_)
 .obtain ⟨a,ns,rfl,_⟩:=h
  rfl
 .obtain ⟨a,ns,rfl,hS,hl,k⟩:=h
  refine ⟨_,zap (za3 (zcS (zaf (zb5 zd5 rfl T.list YB0 (zaf (zfK zmC (pv 0) zhC (zhx zaC)) pa_nil)) (zaf zaC (zaf zaC (zaf zaC pa_nil)))))),?_⟩
  refine ⟨_,rfl,_,rfl,a,_,rfl,hS,fun p hp=>?_⟩
  rw [zp2 hl]
  refine ⟨p,_,rfl,.inl (SqL.of zac),fun c hc=>⟨by show 4 <= sizeLine;decide,fun b hb=>?_⟩⟩
  have hcp:c ≠ p:=fun z=>by rw [z,zac] at hc;cases hc
  have hbc:b ≠ c:=fun z=>by rw [z,zac] at hb;cases hb
  have hb1:upd H p (.lst (ns.map V.int)) b = none:=by rw [zae hbc] at hb;exact hb
  have hbp:b ≠ p:=fun z=>by rw [z,zac] at hb1;cases hb1
  have hc0:H c = none:=by rw [zae hcp] at hc;exact hc
  have hb0:H b = none:=by rw [zae hbp] at hb1;exact hb1
  refine k b c _ hb0 ⟨⟨0,0,17,zac,by decide,by decide,by decide,by decide⟩,by rw [zae hbc.symm,zac],hl⟩ fun x o e=>?_
  rw [zae (zad e hb0),zae (zad e hc0),zae (zad e hp)]
  exact e
def scTake:FnScope ["_law_box_here","_law_many","_law_rest","_law_cell","_law_seed"] ["_law_box_here","_law_many"] (zan zhb):=⟨rfl,rfl,rfl,by decide +kernel,rfl,by decide +kernel,by decide +kernel⟩
def zhl {f:Addr} {fd:FuncData} (F:Fun K "_law_take" "_law_take" zhb f fd) (T:Txt K mg):FnOk P w K mg base CX0 1 f fd ["_law_box_here","_law_many"] znW:=by
 refine F.ok scTake (fun vs H Q E h=>?_) (fun cdv A outer s H vs Q E hr h=>?_)
 .obtain ⟨b,c,ns,m,rfl,_⟩:=h
  rfl
 .obtain ⟨b,c,ns,m,rfl,B,m0,m1,k⟩:=h
  refine ⟨_,zai (zc2 (zci zmR (zcs ix_list (pv 0) zaC (fun _ _=>rfl)) zaC (zb3 _))
    (zai (zaM (i:=2) scTake.nd rfl (Or.inl rfl) (zcs ix_list (pv 0) zaC (fun _ _=>rfl)))
    (zai (zcT (zbA zhV (pv 2) (pv 1)) (zgF (pv 0) zaC zca))
    (zap (za3 (zbA zfw (pv 2) (pv 1)))))) zba)
   (zai (zaM (i:=3) scTake.nd rfl (Or.inl rfl) zaC)
   (zai (zc2 (zci zm8 (zcs ix_list (pv 0) zaC (fun _ _=>rfl)) (zbp zbL rfl T.len YDo (zaf (zcs ix_list (pv 0) zaC (fun _ _=>rfl)) pa_nil)) (zb3 _))
    (zai (zaM (i:=3) scTake.nd rfl (Or.inl rfl) (zcs ix_list (zcs ix_list (pv 0) zaC (fun _ _=>rfl)) (zcs ix_list (pv 0) zaC (fun _ _=>rfl)) (fun _ _=>rfl)))
    (zap (zjX (pv 0) zaC zit zaC zjF zca))) zba)
   (zai (zc2 (zci zpN (pv 3) (zbA zjT zaC zaC) (zb3 _))
    (zai (zcT (zbA zhV (pv 3) (pv 1)) (zgF (pv 0) zaC zca))
    (zap (za3 (zbA zfw (pv 3) (pv 1))))) zba)
   (zai (zaM (i:=4) scTake.nd rfl (Or.inl rfl) (zcs ix_list (pv 0) zaC (fun _ _=>rfl)))
   (zai (zaM (i:=4) scTake.nd rfl (Or.inl rfl) (zbA op_add (zbA op_add (zbA zjT (pv 4) zaC) (zbA op_mul zaC (pv 4))) (zbA op_mul zaC (zbA zfw (pv 3) zaC))))
   (zai (zcT (zbA zfw (zbA op_add (pv 4) zaC) zaC) (zgF (pv 0) zaC zca))
   (zap (za3 (zbA zfw (zbA zmK (zcs ix_list (pv 0) zaC (fun _ _=>rfl)) zaC) (pv 1)))))))))),?_⟩
  obtain ⟨p,r,d,e,hp0,hr0,hd0,hd1⟩:=B.ex
  refine ⟨_,rfl,b,_,_,.int r,rfl,rfl,SqL.of e,rfl,_,_,rfl,rfl,_,rfl,?_⟩
  refine ite2 (fun h0=>?_) (fun h0=>?_)
  .refine ⟨_,rfl,b,_,_,.int r,rfl,rfl,SqL.of e,rfl,?_⟩
   refine ⟨_,rfl,_,rfl,_,_,rfl,rfl,⟨m0,m1⟩,_,rfl,b,_,_,2,rfl,rfl,e,rfl,?_⟩
   refine ⟨_,rfl,_,rfl,_,_,rfl,rfl,m0,?_⟩
   exact k _ _ (YBY _ (by omega)) (YBB _ m0) (B.put hp0 (YDV hr0 (by omega)) hd0 hd1) Ext.upd
  refine ⟨_,rfl,b,_,_,.int p,rfl,rfl,SqL.of e,rfl,_,rfl,b,_,_,.ref c,rfl,rfl,SqL.of e,rfl,c,_,rfl,.inl (SqL.of B.cells),_,_,rfl,rfl,_,rfl,?_⟩
  refine ite2 (fun h1=>?_) (fun h1=>?_)
  .have hlt:=YAV h1
   rw [YAc] at hlt
   obtain ⟨z,hz⟩:∃ z,ns[p.toNat]? = some z:=⟨_,YAd (by omega)⟩
   have hat:atI (ns.map V.int) p = some (.int z):=by
    have q:=zdK (xs:=ns.map V.int) (j:=p.toNat) (v:=.int z) (by rw [YAk,hz];rfl)
    rwa [YBg hp0] at q
   refine ⟨_,rfl,b,_,_,.ref c,rfl,rfl,SqL.of e,rfl,_,rfl,b,_,_,.int p,rfl,rfl,SqL.of e,rfl,c,_,_,.int z,rfl,rfl,SqL.of B.cells,hat,?_⟩
   refine ⟨_,rfl,b,_,1,.int p,rfl,rfl,SqL.of e,rfl,_,_,rfl,rfl,b,_,_,1,rfl,rfl,e,rfl,?_⟩
   have e1:upd H b (boxV c (p + 1) r d) b = some (boxV c (p + 1) r d):=zac
   have hp1:0 <= p + 1:=by omega
   have B1:=B.put hp1 hr0 hd0 hd1
   have X1:Ext b H (upd H b (boxV c (p + 1) r d)):=Ext.upd
   refine ⟨_,rfl,_,_,rfl,rfl,⟨by decide,by decide,by decide⟩,_,_,rfl,rfl,_,rfl,?_⟩
   refine ite2 (fun h2=>?_) (fun h2=>?_)
   .refine ⟨_,rfl,_,rfl,_,_,rfl,rfl,⟨m0,m1⟩,_,rfl,b,_,_,2,rfl,rfl,e1,rfl,_,rfl,_,rfl,_,_,rfl,rfl,m0,?_⟩
    have hz0:(0:Int) <= z:=by
     have:=YAV h2
     exact Int.le_trans (by decide) this
    exact k _ _ (YBY _ (by omega)) (YBB _ m0) (B1.put hp1 (YDV hz0 (by omega)) hd0 hd1) (X1.trans Ext.upd)
   .refine ⟨_,rfl,b,_,_,.int d,rfl,rfl,SqL.of e1,rfl,?_⟩
    refine ⟨_,rfl,_,_,rfl,rfl,⟨by decide,by decide,by omega⟩,_,rfl,_,_,rfl,rfl,.inl ⟨by decide,by decide⟩,_,_,rfl,rfl,_,rfl,_,_,rfl,rfl,(by show (0:Int) < 2147483629;decide),_,_,rfl,rfl,.inl ⟨by decide,by decide⟩,_,_,rfl,rfl,?_⟩
    refine ⟨_,rfl,_,_,rfl,rfl,_,_,rfl,rfl,(by show (0:Int) < 2147483629;decide),_,rfl,b,_,_,3,rfl,rfl,e1,rfl,?_⟩
    refine ⟨_,rfl,b,_,_,_,rfl,rfl,SqL.of zac,rfl,_,_,rfl,rfl,⟨by decide,by decide⟩,_,rfl,_,_,rfl,rfl,m0,?_⟩
    exact k _ _ (YBY _ (by omega)) (YBB _ m0) (B1.put hp1 hr0 (YBY _ (by decide)) (YBB _ (by decide))) (X1.trans Ext.upd)
  .have e1:=e
   have hp1:=hp0
   have B1:=B
   have X1:Ext b H H:=Ext.refl _ _
   refine ⟨_,rfl,_,_,rfl,rfl,⟨by decide,by decide,by decide⟩,_,_,rfl,rfl,_,rfl,?_⟩
   refine ite2 (fun h2=>?_) (fun h2=>?_)
   .refine ⟨_,rfl,_,rfl,_,_,rfl,rfl,⟨m0,m1⟩,_,rfl,b,_,_,2,rfl,rfl,e1,rfl,_,rfl,_,rfl,_,_,rfl,rfl,m0,?_⟩
    have hz0:(0:Int) <= 0:=Int.le_refl _
    exact k _ _ (YBY _ (by omega)) (YBB _ m0) (B1.put hp1 (YDV hz0 (by omega)) hd0 hd1) (X1.trans Ext.upd)
   .refine ⟨_,rfl,b,_,_,.int d,rfl,rfl,SqL.of e1,rfl,?_⟩
    refine ⟨_,rfl,_,_,rfl,rfl,⟨by decide,by decide,by omega⟩,_,rfl,_,_,rfl,rfl,.inl ⟨by decide,by decide⟩,_,_,rfl,rfl,_,rfl,_,_,rfl,rfl,(by show (0:Int) < 2147483629;decide),_,_,rfl,rfl,.inl ⟨by decide,by decide⟩,_,_,rfl,rfl,?_⟩
    refine ⟨_,rfl,_,_,rfl,rfl,_,_,rfl,rfl,(by show (0:Int) < 2147483629;decide),_,rfl,b,_,_,3,rfl,rfl,e1,rfl,?_⟩
    refine ⟨_,rfl,b,_,_,_,rfl,rfl,SqL.of zac,rfl,_,_,rfl,rfl,⟨by decide,by decide⟩,_,rfl,_,_,rfl,rfl,m0,?_⟩
    exact k _ _ (YBY _ (by omega)) (YBB _ m0) (B1.put hp1 hr0 (YBY _ (by decide)) (YBB _ (by decide))) (X1.trans Ext.upd)
end
end Fen
namespace Fd
open PySem L2
section
variable {P:Program} {w:World} {K:oS} {mg:Str->Option Value} {base:Heap}
theorem zhl {f:Addr} {fd:FuncData} (F:Fun K "_law_take" "_law_take" Fen.zhb f fd) (T:Bt mg):FnOk P w K mg base CX0 1 f fd ["_law_box_here","_law_many"] (spD K 2 zah):=by
 refine (Fen.zhl F ⟨T.list,T.len,T.range⟩).imp fun vs H Q E ⟨β,G,ds,gh,bx,hv,hl,P',q,hP⟩=>?_
 unfold zah at q
 split at q
 .rename_i m
  obtain ⟨v1,v2,rfl,e1,e2⟩:=zmN hv
  cases e1;cases e2
  obtain ⟨cc,p,r,d,ns,hb,p0,r0,d0,d1,hc,hn⟩:=bx.ex
  refine ⟨β,cc,ns,m,rfl,⟨⟨p,r,d,hb,p0,r0,d0,d1⟩,gh _ _ hc,hn⟩,q.1.1,q.1.2,fun x H' x0 x1 B X=>?_⟩
  refine hP _ (q.2 x x0 x1) _ H' G ⟨Same.refl _,fun a o e=>?_,fun a o n e=>X a o n e,fun a e=>.inl e,⟨?_,bx.still⟩,fun z=>by (rw [hb] at z;cases z),fun cc2 p2 r2 d2 h2=>by
   rw [hb] at h2
   cases h2
   obtain ⟨p',r',d',e',_⟩:=B.ex
   exact ⟨p',r',d',e'⟩⟩ rfl
  .have na:a ≠ β:=fun z=>by rw [z,bx.still] at e;cases e
   exact X a o na (gh a o e)
  .obtain ⟨p',r',d',e',q'⟩:=B.ex
   exact ⟨cc,p',r',d',ns,e',q'.1,q'.2.1,q'.2.2.1,q'.2.2.2,hc,hn⟩
 .exact q.elim
def zja (K:oS):Sp:=fun vs H Q _=>∃ (a:Addr) (ns:List Int),vs = [.ref a]/\SqL K H a (ns.map V.int)/\ns.length <= 63/\∀ H',Q (.bl true) H'
def zom {f:Addr} {fd:FuncData} {st:Stmt} {rest:List Stmt} {N:List Str} {n k:Nat} {B:WS} {p1 p2 p3 p4 p5:Pos} (F:Fun K "law" "law" st f fd)
  (hbd:zbE st = .Assign [.Name "_law_box_here" p1] (.Call (.Name "_law_box" p2) [.Name "_law_script" p3] [] p4) p5 :: rest)
  (cB:Cal P w K mg base "_law_box" 1 ["_law_script"] (Fen.zmZ K))
  (hB:∀ {cdv:Value} {A:Around} {outer:List PySem.Env} {s:Shared} {H:Hp} {E:XK} {β:Addr} {H1 G1:Hp},(("_law_script" :: "_law_box_here" :: N:List Str)).Nodup->Room k (A.deeper (PyProof.Rows.envOfC "law" (zan st) s.heap.objs.size f cdv)) ->
   DSs (cxOf CX0 P w K mg base ("_law_script" :: "_law_box_here" :: N) "law" (zan st) f cdv A outer s H E).nox ⟨K,β,H1,G1⟩ rest B)
  (h:lawW n B) (hN:N.length = n:=by rfl) (S:FnScope ("_law_script" :: "_law_box_here" :: N) ["_law_script"] (zan st):=by exact ⟨rfl,rfl,rfl,by decide +kernel,rfl,by decide +kernel,by decide +kernel⟩)
  (hgl:(zan st).names.lookup ("_law_box" : Str) = some .globalImplicit:=by decide +kernel) (hs0:(zan st).names.lookup ("_law_script" : Str) = some .local:=by decide +kernel) (hs1:(zan st).names.lookup ("_law_box_here" : Str) = some .local\/(zan st).names.lookup ("_law_box_here" : Str) = some .cell:=by decide +kernel) (hk:1 <= k:=by decide):FnOk P w K mg base CX0 (k + 1) f fd ["_law_script"] (zja K):=by
 refine F.ok S (fun vs H Q E ⟨a,ns,e,_⟩=>by rw [e];rfl) (fun cdv A outer s H vs Q E hr ⟨a,ns,e,hS,hl,q⟩=>?_)
 subst e
 have hrest:PSs (cxOf CX0 P w K mg base ("_law_script" :: "_law_box_here" :: N) "law" (zan st) f cdv A outer s H E).nox rest (fun D Y H'=>∃ β H1 G1,tDS ⟨K,β,H1,G1⟩ B D Y H'):=fun O s' Y H' D I ⟨β,H1,G1,z⟩=>(@hB cdv A outer s H E β H1 G1 S.nd hr).pss O s' Y H' D I z
 rw [hbd]
 obtain ⟨fB,fdB,FB,mB,kB,bB⟩:=cB.ex
 refine ⟨_,zai (zaM (i:=1) S.nd rfl hs1 (zhD FB (hr.mono hk) hgl mB kB bB .nil znk (zaf (zdl (i:=0) rfl (.inl hs0)) pa_nil)) rfl (.inl rfl)) hrest,?_⟩
 refine ⟨.ref a,rfl,a,ns,rfl,hS,hl,fun b cc H1 hb Bx Sm=>?_⟩
 obtain ⟨p,r,d,e,p0,r0,d0,d1⟩:=Bx.ex
 have hcc:=Bx.cells
 have nb:b ≠ cc:=Bx.ne
 let G1:Hp:=fun x=>if x = cc then some (.lst (ns.map V.int)) else none
 have gcc:G1 cc = some (.lst (ns.map V.int)):=by show (if cc = cc then _ else _) = _;rw [if_pos rfl]
 have gb:G1 b = none:=by show (if b = cc then _ else _) = _;rw [if_neg nb]
 have gh:Same G1 H1:=fun x o ex=>by
  have ex':(if x = cc then some (HO.lst (ns.map V.int)) else none) = some o:=ex
  split at ex'
  .rename_i z;rw [z,hcc];exact ex'
  .cases ex'
 have bx:BoxD b H1 G1:=⟨⟨cc,p,r,d,ns,e,p0,r0,d0,d1,gcc,Bx.few⟩,gb⟩
 refine ⟨b,H1,G1,.un :: .val .box :: List.replicate n .un,G1,⟨?_,Stp.refl gh bx,fun i sl ei=>?_,fun i j x xs ys ei=>?_⟩,(@hB cdv A outer s H E b H1 G1 S.nd hr).mono { nx:=fun _=>False,rt:=fun d=>d = .bl true,bk:=fun _=>False,ct:=fun _=>False } _ _ ⟨fun Z z=>z.elim,fun d z v H' G' t ev=>?_,fun Z z=>z.elim,fun Z z=>z.elim⟩ h⟩
 .simp [L2.start,hN]
 .match i with
  | 0=>cases ei;trivial
  | 1=>cases ei;exact ⟨.ref b,rfl,rfl⟩
  | i + 2=>
   rw [YCp,YCp,YBO] at ei
   split at ei <;> cases ei
   trivial
 .match i with
  | 0=>cases ei
  | 1=>cases ei
  | i + 2=>
   rw [YCp,YCp,YBO] at ei
   split at ei <;> cases ei
 .subst z
  cases ev
  exact q H'
end
end Fd
namespace Fen
open PySem L2
section
variable {P:Program} {w:PySem.World} {K:oS} {mg:Str->Option Value} {base:Heap}
def zna:FnScope ["runs","heights"] ["runs","heights"] (zan zdf):=⟨rfl,rfl,rfl,by decide +kernel,rfl,by decide +kernel,by decide +kernel⟩
def zf3 {f:Addr} {fd:FuncData} (F:Fun K "holds" "holds" zdf f fd) (T2:Txt2 mg):FnOk P w K mg base CX0 1 f fd ["runs","heights"] (zhv K):=by
 refine F.ok zna (fun vs H Q E h=>?_) (fun cdv A outer s H vs Q E hr h=>?_)
 .obtain ⟨a,b,rs,hs,rfl,_⟩:=h
  rfl
 .obtain ⟨a,b,rs,hts,rfl,ha,R,hb,V0,hz,k⟩:=h
  refine ⟨_,zap (za3 (zbp (zgk rfl) rfl T2.all PyProof.Rows.boot_all (zaf (zfE (g:=gTup K 4 (zd8 (zco 0) (zd8 (zco 1) (zd8 (zco 2) (zd8 (zco 3) gNil))))) rfl
   (CompScope.of (N:=["runs","heights"]) (osc:=zan zdf) (Nc:=["one","other","rise","hand","heights"]) (sub:=[none,none,none,none,some 1]) (by decide +kernel)) (zbR (pv 0))
   (fun _ _ _ _ _=>zbM (n:=4) rfl (zag (zas (i:=0) zfT rfl (Or.inl rfl) (Or.inr rfl)) (zag (zas (i:=1) zfT rfl (Or.inl rfl) (Or.inr rfl)) (zag (zas (i:=2) zfT rfl (Or.inl rfl) (Or.inr rfl)) (zag (zas (i:=3) zfT rfl (Or.inl rfl) (Or.inr rfl)) zaG)))))
   (znX (zdx (zc0 rfl) zaX (zdx (zc0 rfl) zaX (zdx (zc0 rfl) zaX (zdx (zc0 rfl) zaX zkO zdH) (zbh zaX zdH)) (zbh zaX (zbh zaX zdH))) (zbh zaX (zbh zaX (zbh zaX zdH)))))
   (zoB (zbh zaX (zbh zaX (zbh zaX (zbh zaX zdH)))))
   (fun _ _ _ _ _=>pif0) (fun _ _ _ _ _=>zkK znM (zbA zko (zcs (r:=rIxL K) ix_list (pv 4) (pv 1) (fun _ _=>rfl)) (zcs (r:=rIxL K) ix_list (pv 4) (pv 0) (fun _ _=>rfl))) (pv 2) (zb3 _))) pa_nil))),?_⟩
  refine ⟨_,rfl,a,rfl,⟨_,ha⟩,fun l hl=>?_⟩
  refine zi6 ha R hb V0 hz hl ?_
  exact ⟨l,_,rfl,SqL.of zac,k l _ hl⟩
def scSteps:FnScope Nst ["size","runs","struck"] (zan zbl):=⟨rfl,rfl,rfl,by decide +kernel,rfl,by decide +kernel,by decide +kernel⟩
def zkX {f:Addr} {fd:FuncData} (F:Fun K "steps_from" "steps_from" zbl f fd) (T:Txt K mg) (T4:mg "enumerate" = none):FnOk P w K mg base CX0 1 f fd ["size","runs","struck"] (zf4 K):=by
 refine F.ok scSteps (fun vs H Q E h=>?_) (fun cdv A outer s0 H vs Q E hr h=>?_)
 .obtain ⟨n,a,s,rs,hs,rfl,_⟩:=h
  rfl
 .obtain ⟨n,a,s,rs,hs,rfl,ha,R,VM,hsq,hn,hz,k⟩:=h
  have nd:=scSteps.nd
  refine ⟨_,zai (zhw (i:=3) rfl nd rfl rfl (CompScope.of (N:=Nst) (osc:=zan zbl) (Nc:=["mark"]) (sub:=[none]) (by decide +kernel)) (zes rfl T.range (zaf (pv 0) pa_nil))
    (fun _ _ _ _ _=>zas (i:=0) znm rfl (Or.inl rfl) (Or.inr rfl)) (zc0 rfl) zaX (fun _ _ _ _ _=>pif0) (fun _ _ _ _ _=>zcS pa_nil))
   (zai (zbO YBd rfl (zkJ rfl T4 (zaf (pv 1) pa_nil)) (zbM (n:=2) rfl (zag (zas (i:=4) nd rfl (Or.inl rfl)) (zag (zbM (n:=4) rfl (zag (zas (i:=5) nd rfl (Or.inl rfl)) (zag (zas (i:=6) nd rfl (Or.inl rfl)) (zag (zas (i:=7) nd rfl (Or.inl rfl)) (zag (zas (i:=8) nd rfl (Or.inl rfl)) zaG))))) zaG)))
    (zap (zc2 (zci zdY (pv 8) (pv 2) (by with_unfolding_all rfl))
     (zai (zcG (ziK YBA YBt YBu zbs (zcs ix_list (pv 3) (pv 5) (fun _ _=>rfl)) (zaf (pe_tup (zaf (pv 4) (zaf (pv 6) (zaf (pv 7) pa_nil)))) pa_nil)))
     (zap (zcG (ziK YBA YBt YBu zbs (zcs ix_list (pv 3) (pv 6) (fun _ _=>rfl)) (zaf (pe_tup (zaf (pv 4) (zaf (pv 5) (zaf (zlm zhT (pv 7)) pa_nil)))) pa_nil))))) zba)))
   (zap (za3 (pv 3)))),?_⟩
  refine ⟨_,rfl,n,rfl,by omega,by omega,fun ls hls=>?_⟩
  refine zi8 (Pv:=fun i xs H2=>∃ ad:List Addr,xs = ad.map V.ref/\ad.length = i/\H2 ls = some (.lst xs)/\Same H H2/\(∀ x ∈ ad,H2 x = some (.lst []))/\ad.Nodup/\ls ∉ ad/\∀ x ∈ ad,H x = none)
   ⟨[],rfl,rfl,zac,zaj hls,(fun x h=>by cases h),YCb,(by simp),(fun x h=>by cases h)⟩ (fun i xs H2 _ ⟨ad,_,_,h,_⟩=>h) ?_ ?_
  .rintro i xs H2 hi ⟨ad,rfl,hal,h2,S2,hal2,hnd,hno,hfr⟩
   refine zpi ?_
   refine ⟨by show 0 <= sizeLine;exact YAD _,fun l hl=>⟨zaj hl _ _ h2,?_,ad ++ [l],by rw [YAv];rfl,by rw [YAw,hal];rfl,zac,fun c o e=>?_,fun x hx=>?_,?_,?_,fun x hx=>?_⟩⟩
   .rw [YAc,YAL];omega
   .rw [zae (zad e hls)];exact zaj hl _ _ (S2 c o e)
   .have nls:ls ≠ l:=zad h2 hl
    rcases YAm.mp hx with q | q
    .have:=hal2 x q
     have nx:x ≠ ls:=fun z=>hno (z ▸ q)
     rw [zae nx,zae (zad this hl)];exact this
    .rw [YAg.mp q,zae nls.symm,zac]
   .exact zgg hnd fun q=>by have:=hal2 l q;rw [hl] at this;cases this
   .intro q
    rcases YAm.mp q with q | q
    .exact hno q
    .exact zad h2 hl (YAg.mp q)
   .rcases YAm.mp hx with q | q
    .exact hfr x q
    .rw [YAg.mp q];exact S2.free hl
  rintro xs H2 ⟨ad,rfl,hal,h2,S2,hal2,hnd,hno,hfr⟩
  rw [YAE] at hal
  have St0:Steps H2 ls ad fun _=>[]:=⟨h2,fun m x h=>hal2 x (YAA h),(fun m t _ h=>by cases h),hnd,hno⟩
  have Ok0:StepsOk rs hs 0 fun _=>[]:=⟨(fun m t h=>by cases h),(fun i r h=>absurd h (Nat.not_lt_zero _)),(fun m=>YAD _),(fun m=>rfl)⟩
  refine ⟨_,rfl,a,_,rfl,S2.seq ha,zh4 (K:=K) (a:=a) (xs:=rs.map runV) (fun i Y H3=>∃ (cs:Nat->List Tri) (o4 o5 o6 o7 o8:Option V),Y = [some (.int n),some (.ref a),some (.ref s),some (.ref ls),o4,o5,o6,o7,o8]/\Same H H3/\Steps H3 ls ad cs/\StepsOk rs hs i cs)
   ⟨_,_,_,_,_,_,rfl,S2,St0,Ok0⟩ (fun i Y H3 _ ⟨_,_,_,_,_,_,_,S,_⟩=>S.seq ha) ?_ ?_⟩
  .rintro i x t Y H3 hx ht ⟨cs,o4,o5,o6,o7,o8,rfl,S3,St,Ok⟩
   obtain ⟨r,hr,rfl,hrt⟩:=R.at_ hx
   have V0:=VM r (YAA hr)
   have hil:i < rs.length:=(YAh.mp hr).1
   have S4:=S3.trans (zaj (o:=.tup [.int i,.ref r.p]) ht)
   have St4:=St.same (zaj (o:=.tup [.int i,.ref r.p]) ht)
   refine ⟨t,_,rfl,SqT.of zac,rfl,_,_,rfl,_,_,rfl,r.p,_,rfl,ziz S4 hrt,rfl,_,_,rfl,_,_,rfl,_,_,rfl,_,_,rfl,rfl,rfl,?_⟩
   generalize upd H3 t (.tup [.int i,.ref r.p]) = H4 at *
   refine ⟨_,rfl,_,rfl,s,_,rfl,.inl (S4.seq hsq),rfl,zgO hs,_,rfl,?_⟩
   rw [if_pos rfl,ziA]
   cases hc:hs.contains r.hand with
   | true=>
    refine iteF ⟨cs,_,_,_,_,_,rfl,S4,St4,Ok.up hr hc⟩
   | false=>
    refine iteT ?_
    obtain ⟨l1,e1⟩:∃ l1,ad[r.one.toNat]? = some l1:=⟨_,YAd (by omega)⟩
    obtain ⟨l2,e2⟩:∃ l2,ad[r.oJ.toNat]? = some l2:=⟨_,YAd (by omega)⟩
    have at1:atI (ad.map V.ref) r.one = some (.ref l1):=by
     have q:=zdK (xs:=ad.map V.ref) (j:=r.one.toNat) (v:=.ref l1) (by rw [YAk,e1];rfl)
     rwa [YBg V0.1] at q
    have at2:atI (ad.map V.ref) r.oJ = some (.ref l2):=by
     have q:=zdK (xs:=ad.map V.ref) (j:=r.oJ.toNat) (v:=.ref l2) (by rw [YAk,e2];rfl)
     rwa [YBg V0.2.2.1] at q
    have hl1:=St4.row _ _ e1
    refine ⟨_,rfl,_,rfl,ls,_,_,_,rfl,rfl,SqL.of St4.top,at1,.inl ⟨rfl,_,SqL.of hl1⟩,_,rfl,_,rfl,_,rfl,by show 3 <= sizeLine;decide,fun t1 ht1=>?_⟩
    have few:=Ok.few r.one.toNat
    refine ⟨l1,_,_,rfl,rfl,zaj ht1 _ _ hl1,by rw [YAc,YAL];omega,?_⟩
    have St5:=St4.push e1 ht1 (n:=i) (e:=r.oJ) (d:=r.rise)
    have hl1H:H l1 = none:=hfr l1 (YAA e1)
    have hl2H:H l2 = none:=hfr l2 (YAA e2)
    have S5:Same H (upd (upd H4 t1 (.tup [.int i,.int r.oJ,.int r.rise])) l1 (.lst ((cs r.one.toNat).map triV ++ [.ref t1]))):=fun c o e=>by rw [zae (zad e hl1H)];exact zaj ht1 _ _ (S4 c o e)
    generalize upd (upd H4 t1 (.tup [.int i,.int r.oJ,.int r.rise])) l1 (.lst ((cs r.one.toNat).map triV ++ [.ref t1])) = H5 at *
    have hl2:=St5.row _ _ e2
    refine ⟨_,rfl,_,rfl,ls,_,_,_,rfl,rfl,SqL.of St5.top,at2,.inl ⟨rfl,_,SqL.of hl2⟩,_,rfl,_,rfl,_,rfl,_,rfl,by show 3 <= sizeLine;decide,fun t2 ht2=>?_⟩
    have few2:(addC cs r.one.toNat ⟨t1,i,r.oJ,r.rise⟩ r.oJ.toNat).length <= 2 * i + 1:=by
     have:=Ok.few r.oJ.toNat
     unfold addC
     split
     .rename_i q;rw [<- q,YAw];simp;omega
     .omega
    refine ⟨l2,_,_,rfl,rfl,zaj ht2 _ _ hl2,by rw [YAc,YAL];omega,?_⟩
    have St6:=St5.push e2 ht2 (n:=i) (e:=r.one) (d:=-r.rise)
    refine ⟨_,_,_,_,_,_,rfl,fun c o e=>?_,St6,Ok.add hr hc V0.1 V0.2.2.1⟩
    rw [zae (zad e hl2H)];exact zaj ht2 _ _ (S5 c o e)
  .rintro Y H3 ⟨cs,o4,o5,o6,o7,o8,rfl,S3,St,Ok⟩
   rw [YAc] at Ok
   exact ⟨_,rfl,k ls ad cs H3 S3 hal St Ok hfr hls⟩
def scTree:FnScope Ntr ["start","steps"] (zan zb6):=⟨rfl,rfl,rfl,by decide +kernel,rfl,by decide +kernel,by decide +kernel⟩
def zng {f:Addr} {fd:FuncData} (F:Fun K "tree_from" "tree_from" zb6 f fd):FnOk P w K mg base CX0 1 f fd ["start","steps"] (zii K):=by
 refine F.ok scTree (fun vs H Q E h=>?_) (fun cdv A outer s0 H vs Q E hr h=>?_)
 .obtain ⟨start,ls,n,ad,cs,rs,hs,rfl,_⟩:=h
  rfl
 .obtain ⟨start,ls,n,ad,cs,rs,hs,rfl,st0,st1,St,hal,So,VM,hn,hz,k⟩:=h
  have nd:=scTree.nd
  have hu:=zlC hr
  refine ⟨_,zai (zaM (i:=2) nd rfl (Or.inl rfl) (znh (zkW (pv 0) (pe_tup (zaf zaC (zaf (pe_tup pa_nil) pa_nil))) zny) rfl rfl (by simp) (by decide)))
   (zai (zaM (i:=3) nd rfl (Or.inl rfl) (zcS (zaf (pv 0) pa_nil)))
   (zai (zhQ YBd (zig (pv 3) (fun _=>rfl))
    (zai (zaM (i:=4) nd rfl (Or.inl rfl) (zcS pa_nil))
    (zai (zbO YBd rfl (zbR (pv 3)) (zas (i:=5) nd rfl (Or.inl rfl))
     (zai (zcT (zew hu (pv 2) (pv 5) (fun _ _=>rfl)) (zbM (n:=2) rfl (zag (zas (i:=6) nd rfl (Or.inl rfl)) (zag (zas (i:=7) nd rfl (Or.inl rfl)) zaG))))
     (zap (zbO YBd rfl (zbR (zcs ix_list (pv 1) (pv 5) (fun _ _=>rfl))) (zbM (n:=3) rfl (zag (zas (i:=8) nd rfl (Or.inl rfl)) (zag (zas (i:=9) nd rfl (Or.inl rfl)) (zag (zas (i:=10) nd rfl (Or.inl rfl)) zaG))))
      (zap (zc2 (zdZ (zer hu (pv 9) (pv 2)))
       (zai (zjZ hu (pv 2) (pv 9) (pe_tup (zaf (zbA op_add (pv 6) (pv 10)) (zaf (zbA zhh (pv 7) (pe_tup (zaf (pv 8) pa_nil))) pa_nil))) rfl)
       (zap (zcG (ziK YBA YBt YBu zbs (pv 4) (zaf (pv 9) pa_nil))))) zba))))))
    (zap (zaM (i:=3) nd rfl (Or.inl rfl) (pv 4))))))
   (zap (za3 (pv 2))))),?_⟩
  intro dt hdt
  refine ⟨_,rfl,by show 0 <= sizeLine;exact YAD _,fun l0 hl0=>⟨by show 2 <= sizeLine;decide,fun t0 ht0=>?_⟩⟩
  have hdt1:upd H dt (.dK []) dt = some (.dK []):=zac
  have hdt2:=zaj (o:=.tup [.int 0,.ref l0]) ht0 _ _ (zaj (o:=.tup []) hl0 _ _ hdt1)
  refine ⟨hdt2,[(Sum.inl start,.ref t0)],rfl,by show 1 <= 15;decide,?_⟩
  have SA:Same H (upd (upd (upd H dt (.dK [])) l0 (.tup [])) t0 (.tup [.int 0,.ref l0])):=((zaj hdt).trans (zaj hl0)).trans (zaj ht0)
  have SB:Same H (upd (upd (upd (upd H dt (.dK [])) l0 (.tup [])) t0 (.tup [.int 0,.ref l0])) dt (.dK (mergeK [] [(Sum.inl start,.ref t0)]))):=fun c o e=>by rw [zae (zad e hdt)];exact SA c o e
  have hl01:upd (upd (upd H dt (.dK [])) l0 (.tup [])) t0 (.tup [.int 0,.ref l0]) l0 = some (.tup []):=zaj (o:=.tup [.int 0,.ref l0]) ht0 _ _ zac
  have TH0:TreeH K (upd (upd (upd (upd H dt (.dK [])) l0 (.tup [])) t0 (.tup [.int 0,.ref l0])) dt (.dK (mergeK [] [(Sum.inl start,.ref t0)]))) dt [⟨start,t0,0,l0,[]⟩]:=by
   refine ⟨zac,fun x hx=>?_⟩
   rw [YAg.mp hx]
   exact ⟨zdF zac hdt2 trivial,zfQ (SqT.of hl01) hdt2 trivial⟩
  generalize (upd (upd (upd (upd H dt (.dK [])) l0 (.tup [])) t0 (.tup [.int 0,.ref l0])) dt (.dK (mergeK [] [(Sum.inl start,.ref t0)]))) = HA at *
  have TO0:TreeOk rs hs start n [⟨start,t0,0,l0,[]⟩]:=by
   refine ⟨by simp [zau],fun x hx=>?_,fun x hx=>?_,fun x hx z hz=>?_,fun x hx y hy i j z hi hj=>?_,YAi,fun x hx=>?_,fun x hx z hz=>?_⟩
   .rw [YAg.mp hx];exact ⟨st0,st1⟩
   .rw [YAg.mp hx];rfl
   .rw [YAg.mp hx] at hz;cases hz
   .rw [YAg.mp hx] at hi;simp at hi
   .rw [YAg.mp hx];show 0 < 1;decide
   .rw [YAg.mp hx] at hz;cases hz
  clear hdt1 hdt2 SA hl01 hl0 ht0
  refine ⟨_,rfl,by show 1 <= sizeLine;decide,fun ln0 hln0=>?_⟩
  obtain ⟨W,hW⟩:∃ W:Nat->L2.St->Hp->Prop,W = fun m Y H2=>∃ (ns:List Nd) (nw:List Int) (ln:Addr) (o4 o5 o6 o7 o8 o9 o10:Option V),Y = [some (.int start),some (.ref ls),some (.ref dt),some (.ref ln),o4,o5,o6,o7,o8,o9,o10]/\m = 2 * (n - ns.length) + (if nw = [] then 0 else 1)/\Same H H2/\TreeH K H2 dt ns/\TreeOk rs hs start n ns/\H2 ln = some (.lst (nw.map V.int))/\(∀ z ∈ nw,z ∈ zau ns)/\(∀ x ∈ ns,x.m ∈ nw\/Closed cs ns x.m)/\∃ q,itT (stepsF rs hs rs.length) start q = (ns.map za9,nw):=⟨_,rfl⟩
  refine ⟨W,⟨_,by
   rw [hW]
   exact ⟨[⟨start,t0,0,l0,[]⟩],[start],ln0,_,_,_,_,_,_,_,rfl,rfl,SB.trans (zaj hln0),TH0.same (zaj hln0),TO0,zac,fun z hz=>hz,(fun x hx=>.inl (by rw [YAg.mp hx];exact YAi)),0,rfl⟩⟩,fun m Y H2 hw=>?_⟩
  rw [hW] at hw
  obtain ⟨ns,nw,ln,o4,o5,o6,o7,o8,o9,o10,rfl,hm,S2,TH,TO,hln,hnk,hcl,kq,hkq⟩:=hw
  refine ⟨_,rfl,_,.inl ⟨_,SqL.of hln,rfl⟩,?_⟩
  refine ite2 (fun hne=>?_) (fun hne=>?_)
  .have hnw:nw ≠ []:=fun e=>by rw [e] at hne;simp at hne
   refine ⟨fun Y' H'=>∃ m',m' < m/\W m' Y' H',fun _ _ h=>h,?_⟩
   refine ⟨by show 0 <= sizeLine;exact YAD _,fun lf hlf=>?_⟩
   have fl:H lf = none:=S2.free hlf
   have nll:ln ≠ lf:=zad hln hlf
   have TI0:TI K H rs hs start n dt ln lf nw ns.length (upd H2 lf (.lst [])) ns []:=
    ⟨S2.trans (zaj hlf),TH.same (zaj hlf),TO,zaj hlf _ _ hln,zac,(fun z hz=>by cases hz),hnk,by simp⟩
   generalize upd H2 lf (.lst []) = H3 at *
   refine ⟨_,rfl,ln,rfl,⟨_,SqL.of TI0.hln⟩,zeo (K:=K) (a:=ln) (xs:=nw.map V.int) (fun i Y H4=>∃ (ns':List Nd) (fr:List Int) (o5 o6 o7 o8 o9 o10:Option V),Y = [some (.int start),some (.ref ls),some (.ref dt),some (.ref ln),some (.ref lf),o5,o6,o7,o8,o9,o10]/\TI K H rs hs start n dt ln lf nw ns.length H4 ns' fr/\(∀ x ∈ ns',x.m ∈ nw.drop i\/x.m ∈ fr\/Closed cs ns' x.m)/\(ns'.map za9,fr) = (nw.take i).foldl (exM (stepsF rs hs rs.length)) (ns.map za9,[]))
    ⟨ns,[],_,_,_,_,_,_,rfl,TI0,(fun x hx=>(hcl x hx).elim .inl fun h=>.inr (.inr h)),rfl⟩ (fun i Y H4 _ ⟨_,_,_,_,_,_,_,_,_,X,_⟩=>SqL.of X.hln) ?_ ?_⟩
   .rintro i v Y H4 hv ⟨ns1,fr1,p5,p6,p7,p8,p9,p10,rfl,X1,C1,P1⟩
    obtain ⟨z,hz1,rfl⟩:=zmW hv
    obtain ⟨p,hp,rfl⟩:=mem_keys.mp (X1.nwk z (YAA hz1))
    have pm:=X1.tok.inm p hp
    have dg:DGet H4 dt (.int p.m) (some (.ref p.t)):=by
     have:=DGet.k (k:=Sum.inl p.m) X1.th.dict
     rw [zeu X1.tok.nod hp] at this
     exact this
    refine ⟨_,rfl,_,rfl,dt,_,rfl,dg,p.t,_,rfl,SqT.of (X1.th.node p hp).1,rfl,_,_,rfl,_,_,rfl,rfl,?_⟩
    obtain ⟨l1,e1⟩:∃ l1,ad[p.m.toNat]? = some l1:=⟨_,YAd (by omega)⟩
    have at1:atI (ad.map V.ref) p.m = some (.ref l1):=by
     have q:=zdK (xs:=ad.map V.ref) (j:=p.m.toNat) (v:=.ref l1) (by rw [YAk,e1];rfl)
     rwa [YBg pm.1] at q
    have St4:=St.same X1.same
    refine ⟨_,rfl,_,rfl,ls,_,_,_,rfl,rfl,SqL.of St4.top,at1,l1,rfl,⟨_,SqL.of (St4.row _ _ e1)⟩,zeo (K:=K) (a:=l1) (xs:=(cs p.m.toNat).map triV) (fun j Y H5=>∃ (ns':List Nd) (fr:List Int) (o8 o9 o10:Option V),Y = [some (.int start),some (.ref ls),some (.ref dt),some (.ref ln),some (.ref lf),some (.int p.m),some (.int p.h),some (.ref p.lt),o8,o9,o10]/\TI K H rs hs start n dt ln lf nw ns.length H5 ns' fr/\p ∈ ns' /\
     (∀ x ∈ ns',x.m ∈ nw.drop (i + 1)\/x.m ∈ fr\/Closed cs ns' x.m\/(x.m = p.m/\∀ t ∈ (cs p.m.toNat).take j,t.e ∈ zau ns'))/\(ns'.map za9,fr) = ((stepsF rs hs rs.length p.m.toNat).take j).foldl (ex1 (za9 p)) (ns1.map za9,fr1))
     ⟨ns1,fr1,_,_,_,rfl,X1,hp,(fun x hx=>?_),rfl⟩ (fun j Y H5 _ ⟨_,_,_,_,_,_,X,_⟩=>SqL.of ((St.same X.same).row _ _ e1)) ?_ ?_⟩
    .rcases C1 x hx with q | q | q
     .rw [znl hz1] at q
      rcases YAs.mp q with q | q
      .exact .inr (.inr (.inr ⟨q,fun t ht=>by rw [List.take_zero] at ht;cases ht⟩))
      .exact .inl q
     .exact .inr (.inl q)
     .exact .inr (.inr (.inl q))
    .rintro j v Y H5 hv2 ⟨ns2,fr2,q8,q9,q10,rfl,X2,hp2,C2,P2⟩
     obtain ⟨t,ht,rfl⟩:∃ t,(cs p.m.toNat)[j]? = some t/\v = .ref t.p:=by
      rw [YAk] at hv2
      cases e:(cs p.m.toNat)[j]? with
      | none=>rw [e] at hv2;cases hv2
      | some t=>rw [e] at hv2;exact ⟨t,rfl,(Option.some.inj hv2).symm⟩
     have htm:=YAA ht
     have hsj:(stepsF rs hs rs.length p.m.toNat)[j]? = some (triC t):=by rw [<- So.cont,YAk,ht];rfl
     have St5:=St.same X2.same
     refine ⟨t.p,_,rfl,SqT.of (St5.tri _ t (by omega) htm),rfl,_,_,rfl,_,_,rfl,_,_,rfl,rfl,?_⟩
     refine ⟨_,rfl,_,rfl,dt,_,rfl,DGet.k (k:=Sum.inl t.e) X2.th.dict,_,rfl,?_⟩
     cases hv3:valV (ns2.map ndK) (Sum.inl t.e) with
     | some v3=>
      have hk:t.e ∈ zau ns2:=by
       by_cases c:t.e ∈ zau ns2
       .exact c
       .rw [valV_none.mpr c] at hv3;cases hv3
      refine iteF ⟨ns2,fr2,_,_,_,rfl,X2,hp2,(fun x hx=>?_),by
       rw [zdE _ _ hsj,<- P2]
       unfold ex1
       rw [if_pos (by rw [zgs];exact hk)]⟩
      rcases C2 x hx with q | q | q | ⟨q1,q2⟩
      .exact .inl q
      .exact .inr (.inl q)
      .exact .inr (.inr (.inl q))
      .refine .inr (.inr (.inr ⟨q1,fun u hu=>?_⟩))
       rw [zbG ht] at hu
       rcases YAm.mp hu with hu | hu
       .exact q2 u hu
       .rw [YAg.mp hu];exact hk
     | none=>
      have hk:t.e ∉ zau ns2:=valV_none.mp hv3
      have few:=X2.tok.few p hp2
      have hlen:=X2.tok.len
      refine iteT ?_
      refine ⟨_,rfl,_,rfl,_,_,rfl,rfl,_,rfl,_,rfl,by show 1 <= sizeLine;decide,fun tn htn=>?_⟩
      refine ⟨p.lt,tn,_,_,rfl,rfl,zbQ (tp:=true) (zaj htn) (X2.th.node p hp2).2,SqT.of zac,(by rw [YAc,YAL];show _ + 1 <= _;omega),fun lt H6 S6 hlt=>?_⟩
      refine ⟨by show 2 <= sizeLine;decide,fun tt htt=>?_⟩
      have X3:=X2.grow (((zaj (o:=.tup [.int t.n]) htn).trans S6).trans (zaj (o:=.tup [.int (p.h + t.d),.ref lt]) htt))
      have hlt':SqT K (upd H6 tt (.tup [.int (p.h + t.d),.ref lt])) lt ((p.line ++ [t.n]).map V.int):=by
       rw [YAv]
       exact zbQ (tp:=true) (zaj htt) hlt
      have htt':upd H6 tt (.tup [.int (p.h + t.d),.ref lt]) tt = some (.tup [.int (p.h + t.d),.ref lt]):=zac
      generalize upd H6 tt (.tup [.int (p.h + t.d),.ref lt]) = H7 at *
      refine ⟨_,rfl,_,rfl,dt,_,rfl,DPut.k (k:=Sum.inl t.e) X3.th.dict (by rw [YAc,YAL];omega),?_⟩
      have ndl:dt ≠ lf:=fun z=>by have:=X3.th.dict;rw [z,X3.hlf] at this;cases this
      have hlf8:upd H7 dt (.dK (putK (ns2.map ndK) (Sum.inl t.e) (.ref tt))) lf = some (.lst (fr2.map V.int)):=by rw [zae ndl.symm];exact X3.hlf
      have hcnt:=X2.cnt
      refine ⟨_,rfl,.inl ⟨rfl,_,SqL.of hlf8⟩,_,rfl,lf,_,_,rfl,rfl,hlf8,by rw [YAc,YAL];omega,?_⟩
      have X4:=X3.add VM hdt fl nll hp2 (So.sound _ t htm) hk htt' hlt'
      refine ⟨_,_,_,_,_,rfl,X4,YAx _ hp2,(fun x hx=>?_),by
       rw [zdE _ _ hsj,<- P2]
       unfold ex1
       rw [if_neg (by rw [zgs];exact hk),YAv]
       rfl⟩
      rcases YAm.mp hx with hx | hx
      .rcases C2 x hx with q | q | q | ⟨q1,q2⟩
       .exact .inl q
       .exact .inr (.inl (YAx _ q))
       .exact .inr (.inr (.inl q.snoc))
       .refine .inr (.inr (.inr ⟨q1,fun u hu=>?_⟩))
        rw [zbz]
        rw [zbG ht] at hu
        rcases YAm.mp hu with hu | hu
        .exact YAx _ (q2 u hu)
        .rw [YAg.mp hu];exact YAq _ YAi
      .rw [YAg.mp hx]
       exact .inr (.inl (YAq _ YAi))
    .rintro Y H5 ⟨ns2,fr2,q8,q9,q10,rfl,X2,hp2,C2,P2⟩
     refine ⟨ns2,fr2,_,_,_,_,_,_,rfl,X2,(fun x hx=>?_),by
      have el:((cs p.m.toNat).map triV).length = (stepsF rs hs rs.length p.m.toNat).length:=by rw [<- So.cont,YAc,YAc]
      rw [el,YBK] at P2
      rw [zdE _ _ hz1,<- P1,P2]
      unfold exM
      rw [zbx X1.tok.nod hp]⟩
     rcases C2 x hx with q | q | q | ⟨q1,q2⟩
     .exact .inl q
     .exact .inr (.inl q)
     .exact .inr (.inr q)
     .refine .inr (.inr fun t ht=>q2 t ?_)
      rw [YAc,YBK,<- q1];exact ht
   .rintro Y H4 ⟨ns1,fr1,p5,p6,p7,p8,p9,p10,rfl,X1,C1,P1⟩
    refine ⟨_,rfl,2 * (n - ns1.length) + (if fr1 = [] then 0 else 1),?_,?_⟩
    .have h1:=X1.cnt
     have h2:=X1.tok.len
     rw [hm,if_neg hnw]
     by_cases c:fr1 = []
     .rw [if_pos c]
      have hz0:fr1.length = 0:=by rw [c];rfl
      omega
     .rw [if_neg c]
      have:0 < fr1.length:=YDe.mpr c
      omega
    .rw [hW]
     refine ⟨ns1,fr1,lf,_,_,_,_,_,_,_,rfl,rfl,X1.same,X1.th,X1.tok,X1.hlf,X1.frk,(fun x hx=>?_),kq + 1,by
      rw [YAc,YBK] at P1
      show exL _ (itT _ start kq).1 (itT _ start kq).2 = _
      rw [hkq,P1];rfl⟩
     rcases C1 x hx with q | q | q
     .rw [YAc,YBq] at q;cases q
     .exact .inl q
     .exact .inr q
  .have hnw:nw = []:=by
    cases nw with
    | nil=>rfl
    | cons a b=>simp at hne
   refine ⟨_,rfl,k dt ns H2 S2 hdt TH TO (zkH VM TO So fun x hx=>(hcl x hx).elim (fun q=>by rw [hnw] at q;cases q) fun q=>q) ⟨kq,by rw [hkq,hnw]⟩⟩
def scSomeLine:FnScope ["size","runs","struck","one","other","tree","height","line"] ["size","runs","struck","one","other"] (zan zbC):=⟨rfl,rfl,rfl,by decide +kernel,rfl,by decide +kernel,by decide +kernel⟩
def zcC {f:Addr} {fd:FuncData} (F:Fun K "some_line" "some_line" zbC f fd) (cF:Cal P w K mg base "steps_from" 1 ["size","runs","struck"] (zf4 K)) (cR:Cal P w K mg base "tree_from" 1 ["start","steps"] (zii K)):FnOk P w K mg base CX0 2 f fd ["size","runs","struck","one","other"] (zi2 K):=by
 refine F.ok scSomeLine (fun vs H Q E h=>?_) (fun cdv A outer s0 H vs Q E hr h=>?_)
 .obtain ⟨n,a,s,rs,hs,one,oJ,rfl,_⟩:=h
  rfl
 .obtain ⟨n,a,s,rs,hs,one,oJ,rfl,ha,R,VM,hsq,h0,h1,hn,hz,k⟩:=h
  have nd:=scSomeLine.nd
  have hu:=zlC hr
  refine ⟨_,zai (zaM (i:=5) nd rfl (Or.inl rfl) (zdu cR hr rfl (zaf (pv 3) (zaf (zdu cF hr rfl (zaf (pv 0) (zaf (pv 1) (zaf (pv 2) pa_nil)))) pa_nil))))
   (zai (zc2 (zdZ (zer hu (pv 4) (pv 5))) (zap (za3 zgr)) zba)
   (zai (zcT (zew hu (pv 5) (pv 4) (fun _ _=>rfl)) (zbM (n:=2) rfl (zag (zas (i:=6) nd rfl (Or.inl rfl)) (zag (zas (i:=7) nd rfl (Or.inl rfl)) zaG))))
   (zap (za3 (pv 7))))),?_⟩
  refine ⟨_,rfl,_,rfl,_,rfl,_,rfl,n,a,s,rs,hs,rfl,ha,R,VM,hsq,hn,hz,fun ls ad cs H1 S1 hal St So _ _=>?_⟩
  refine ⟨one,ls,n,ad,cs,rs,hs,rfl,h0,h1,St,hal,So,VM,hn,hz,fun dt ns H2 S2 hdt TH TO hk hT=>?_⟩
  have S3:=S1.trans S2
  refine ⟨_,rfl,_,rfl,dt,_,rfl,DGet.k (k:=Sum.inl oJ) TH.dict,_,rfl,?_⟩
  cases hv:valV (ns.map ndK) (Sum.inl oJ) with
  | none=>
   refine iteT ?_
   exact k .non H2 S3 ⟨ns,TO,hT,hk,.inl ⟨rfl,valV_none.mp hv⟩⟩
  | some v=>
   have hk1:oJ ∈ zau ns:=by
    by_cases c:oJ ∈ zau ns
    .exact c
    .rw [valV_none.mpr c] at hv;cases hv
   obtain ⟨x,hx,rfl⟩:=mem_keys.mp hk1
   have dg:DGet H2 dt (.int x.m) (some (.ref x.t)):=by
    have:=DGet.k (k:=Sum.inl x.m) TH.dict
    rw [zeu TO.nod hx] at this
    exact this
   refine iteF ⟨_,rfl,_,rfl,dt,_,rfl,dg,x.t,_,rfl,SqT.of (TH.node x hx).1,rfl,_,_,rfl,_,_,rfl,rfl,?_⟩
   exact ⟨_,rfl,k _ H2 S3 ⟨ns,TO,hT,hk,.inr ⟨x,hx,rfl,rfl,(TH.node x hx).2⟩⟩⟩
def scTrees:FnScope ["size","runs","struck","steps","trees","reached","mark","tree"] ["size","runs","struck"] (zan zcL):=⟨rfl,rfl,rfl,by decide +kernel,rfl,by decide +kernel,by decide +kernel⟩
def zk2 {f:Addr} {fd:FuncData} (F:Fun K "trees_of" "trees_of" zcL f fd) (T:Txt K mg) (cF:Cal P w K mg base "steps_from" 1 ["size","runs","struck"] (zf4 K)) (cR:Cal P w K mg base "tree_from" 1 ["start","steps"] (zii K)):FnOk P w K mg base CX0 2 f fd ["size","runs","struck"] (zc4 K):=by
 refine F.ok scTrees (fun vs H Q E h=>?_) (fun cdv A outer s0 H vs Q E hr h=>?_)
 .obtain ⟨n,a,s,rs,hs,rfl,_⟩:=h
  rfl
 .obtain ⟨n,a,s,rs,hs,rfl,ha,R,VM,hsq,hn,hz,k⟩:=h
  have nd:=scTrees.nd
  have hu:=zlC hr
  refine ⟨_,zai (zaM (i:=3) nd rfl (Or.inl rfl) (zdu cF hr rfl (zaf (pv 0) (zaf (pv 1) (zaf (pv 2) pa_nil)))))
   (zai (zaM (i:=4) nd rfl (Or.inl rfl) (zcS pa_nil))
   (zai (zaM (i:=5) nd rfl (Or.inl rfl) ziw)
   (zai (zbO YBd rfl (zes rfl T.range (zaf (pv 0) pa_nil)) (zas (i:=6) nd rfl (Or.inl rfl))
    (zap (zc2 (zdZ (zer hu (pv 6) (pv 5)))
     (zai (zaM (i:=7) nd rfl (Or.inl rfl) (zdu cR hr rfl (zaf (pv 6) (zaf (pv 3) pa_nil))))
     (zai (zcG (zjJ (pv 5) (pv 7) ⟨rfl,rfl,rfl,rfl⟩))
     (zap (zcG (ziK YBA YBt YBu zbs (pv 4) (zaf (pv 7) pa_nil)))))) zba)))
   (zap (za3 (pv 4)))))),?_⟩
  refine ⟨_,rfl,_,rfl,_,rfl,n,a,s,rs,hs,rfl,ha,R,VM,hsq,hn,hz,fun ls ad cs H1 S1 hal St So _ _=>?_⟩
  refine ⟨by show 0 <= sizeLine;exact YAD _,fun lt hlt=>?_⟩
  intro dr hdr
  have S2:=zaj (o:=.lst []) hlt
  have S3:=S2.trans (zaj (o:=.dK []) hdr)
  have hlt3:upd (upd H1 lt (.lst [])) dr (.dK []) lt = some (.lst (([]:List TR).map trV)):=zaj hdr _ _ zac
  have hdr3:upd (upd H1 lt (.lst [])) dr (.dK []) dr = some (.dK (([]:List Nd).map ndK)):=zac
  have fdr:H1 dr = none:=S2.free hdr
  generalize upd (upd H1 lt (.lst [])) dr (.dK []) = H3 at *
  refine ⟨_,rfl,n,rfl,by omega,by omega,?_⟩
  refine zkc (n:=((n:Nat):Int).toNat) (fun i Y H4=>∃ (ts:List TR) (rns:List Nd) (o6 o7:Option V),Y = [some (.int n),some (.ref a),some (.ref s),some (.ref ls),some (.ref lt),some (.ref dr),o6,o7]/\Same H1 H4/\H4 lt = some (.lst (ts.map trV))/\H4 dr = some (.dK (rns.map ndK))/\(∀ t ∈ ts,TreeAt K H4 n rs hs t/\t.d ≠ dr)/\Firsts i (usable hs rs) (ts.map TR.st)/\(zau rns).Nodup/\(∀ x ∈ rns,0 <= x.m/\x.m < n)/\(∀ j,j ∈ zau rns ↔ ∃ m:Int,0 <= m/\m < i/\Conn (usable hs rs) m j)/\ts.length <= i/\(∀ t ∈ ts,H1 t.d = none)/\(ts.map TR.d).Nodup)
   ⟨[],[],_,_,rfl,S3,hlt3,hdr3,(fun t h=>by cases h),⟨List.Pairwise.nil,fun m=>⟨(fun h=>by cases h),fun h=>absurd h.2.1 (by have:=h.1;omega)⟩⟩,YCb,(fun x h=>by cases h),(fun j=>⟨(fun h=>by cases h),fun ⟨m,h0,h1,_⟩=>absurd h1 (by omega)⟩),YAl _,(fun t h=>by cases h),YCb⟩ ?_ ?_
  .rintro i Y H4 hi ⟨ts,rns,o6,o7,rfl,S4,h4t,h4r,hts,hF,hnd,hin,hk,hlen,hfd,hdd⟩
   rw [YAE] at hi
   have e0:(0:Int) + (i:Int) = (i:Int):=by omega
   have i0:(0:Int) <= 0 + (i:Int):=by omega
   have i1:(0:Int) + (i:Int) < (n:Int):=by omega
   have hrl:rns.length <= n:=by
    have h:=zaQ (xs:=(List.range n).map Int.ofNat) hnd fun k hk=>by
     obtain ⟨x,hx,rfl⟩:=mem_keys.mp hk
     have:=hin x hx
     refine YAB.mpr ⟨x.m.toNat,YAW.mpr (by omega),?_⟩
     show ((x.m.toNat:Nat):Int) = x.m
     omega
    unfold zau at h
    simpa using h
   refine ⟨_,rfl,_,rfl,dr,_,rfl,DGet.k (k:=Sum.inl (0 + (i:Int))) h4r,_,rfl,?_⟩
   cases hv:valV (rns.map ndK) (Sum.inl (0 + (i:Int))) with
   | some v=>
    have hk1:(0 + (i:Int)) ∈ zau rns:=by
     by_cases c:(0 + (i:Int)) ∈ zau rns
     .exact c
     .rw [valV_none.mpr c] at hv;cases hv
    have hex:=(hk _).mp hk1
    rw [e0] at hex
    refine iteF ⟨ts,rns,_,_,rfl,S4,h4t,h4r,hts,hF.no hex,hnd,hin,(fun j=>?_),by omega,hfd,hdd⟩
    rw [hk j]
    constructor
    .rintro ⟨m,a1,a2,a3⟩;exact ⟨m,a1,by omega,a3⟩
    .rintro ⟨m,a1,a2,a3⟩
     by_cases e:m = i
     .obtain ⟨q,q0,q1,qc⟩:=hex
      exact ⟨q,q0,q1,qc.trans (e ▸ a3)⟩
     .exact ⟨m,a1,by omega,a3⟩
   | none=>
    have hk1:=valV_none.mp hv
    have hex:¬ ∃ m:Int,0 <= m/\m < i/\Conn (usable hs rs) m i:=fun h=>hk1 ((hk _).mpr (by rw [e0];exact h))
    refine iteT ?_
    refine ⟨_,rfl,_,rfl,0 + i,ls,n,ad,cs,rs,hs,rfl,i0,i1,St.same S4,hal,So,VM,hn,hz,fun dt ns H5 S5 hdt TH TO hkk hT=>?_⟩
    have h5r:=S5 _ _ h4r
    have h5t:=S5 _ _ h4t
    have ndt:dr ≠ dt:=zad h4r hdt
    have hnl:=TO.len
    refine ⟨_,rfl,dr,rfl,.inl ⟨_,.inl h5r⟩,_,rfl,dt,_,_,rfl,ndt,h5r,TH.dict,(by rw [YAc,YAc,YAL];omega),?_⟩
    have hdis:∀ j ∈ zau ns,j ∉ zau rns:=fun j hj hj2=>by
     obtain ⟨m,m0,m1,mc⟩:=(hk j).mp hj2
     have:=(hkk j).mp hj
     rw [e0] at this
     exact hex ⟨m,m0,m1,mc.trans this.symm⟩
    have kk1:∀ l:List Nd,(l.map ndK).map (·.1) = (zau l).map Sum.inl:=fun l=>by unfold zau;rw [YAF,YAF];rfl
    have emg:mergeK (rns.map ndK) (ns.map ndK) = (rns ++ ns).map ndK:=by
     rw [zcl,YAv]
     .intro kk hkx hkr
      rw [kk1] at hkx hkr
      obtain ⟨x,hx,rfl⟩:=YAB.mp hkx
      obtain ⟨y,hy,e⟩:=YAB.mp hkr
      have e':y = x:=Sum.inl.inj e
      exact hdis x hx (e' ▸ hy)
     .rw [kk1]
      exact List.Pairwise.map _ (fun a b h z=>h (Sum.inl.inj z)) TO.nod
    rw [emg]
    have ltr:lt ≠ dr:=fun z=>by rw [z,h5r] at h5t;cases h5t
    have h6t:upd H5 dr (.dK ((rns ++ ns).map ndK)) lt = some (.lst (ts.map trV)):=by rw [zae ltr];exact h5t
    refine ⟨_,rfl,.inl ⟨rfl,_,SqL.of h6t⟩,_,rfl,lt,_,_,rfl,rfl,h6t,(by rw [YAc,YAL];omega),?_⟩
    have new:TreeAt K H5 n rs hs ⟨dt,0 + i,ns⟩:=⟨TH,TO,hkk,hT,i0,i1⟩
    refine ⟨ts ++ [⟨dt,0 + i,ns⟩],rns ++ ns,_,_,rfl,fun c o e=>?_,?_,?_,fun t ht=>?_,?_,?_,fun x hx=>?_,(fun j=>?_),by rw [YAw];exact YC2 hlen 1,(fun t ht=>?_),?_⟩
    .rw [zae (zad e hlt),zae (zad e fdr)];exact S5 _ _ (S4 c o e)
    .rw [zac,YAv];rfl
    .rw [zae ltr.symm,zac]
    .have up:∀ t:TR,TreeAt K H5 n rs hs t->t.d ≠ dr->TreeAt K (upd (upd H5 dr (.dK ((rns ++ ns).map ndK))) lt (.lst (ts.map trV ++ [.ref dt]))) n rs hs t:=fun t ht hne=>by
      have t6:=ht.upd (o':=.dK ((rns ++ ns).map ndK)) h5r trivial hne
      refine t6.upd h6t trivial fun z=>?_
      have:=t6.th.dict
      rw [z,h6t] at this;cases this
     rcases YAm.mp ht with q | q
     .exact ⟨up t ((hts t q).1.same S5) (hts t q).2,(hts t q).2⟩
     .rw [YAg.mp q]
      exact ⟨up _ new ndt.symm,ndt.symm⟩
    .rw [YAv]
     show Firsts (i + 1) _ (ts.map TR.st ++ [0 + (i:Int)])
     rw [e0]
     exact hF.yes hex
    .unfold zau
     rw [YAv]
     exact YBU.mpr ⟨hnd,TO.nod,fun x hx y hy e=>hdis y hy (e ▸ hx)⟩
    .rcases YAm.mp hx with q | q
     .exact hin x q
     .exact TO.inm x q
    .unfold zau
     rw [YAv,YAm]
     show (j ∈ zau rns\/j ∈ zau ns) ↔ _
     rw [hk j,hkk j,e0]
     constructor
     .rintro (⟨m,a1,a2,a3⟩ | a3)
      .exact ⟨m,a1,by omega,a3⟩
      .exact ⟨i,by omega,by omega,a3⟩
     .rintro ⟨m,a1,a2,a3⟩
      by_cases e:m = i
      .exact .inr (e ▸ a3)
      .exact .inl ⟨m,a1,by omega,a3⟩
    .rcases YAm.mp ht with q | q
     .exact hfd t q
     .rw [YAg.mp q];exact S4.free hdt
    .rw [YAv]
     refine zgg hdd fun q=>?_
     obtain ⟨t,ht,e⟩:=YAB.mp q
     have:=(hts t ht).1.th.dict
     rw [e] at this
     exact zad this hdt rfl
  .rintro Y H4 ⟨ts,rns,o6,o7,rfl,S4,h4t,h4r,hts,hF,hnd,hin,hk,hlen,hfd,hdd⟩
   rw [YAE] at hF hlen
   exact ⟨_,rfl,k lt ts H4 (S1.trans S4) (S1.free hlt) h4t (fun t ht=>(hts t ht).1) hF hlen (fun t ht=>S1.free (hfd t ht)) hdd⟩
def scFlat:FnScope ["size","runs","heights","tree","mark","height","line"] ["size","runs"] (zan zhI):=⟨rfl,rfl,rfl,by decide +kernel,rfl,by decide +kernel,by decide +kernel⟩
def zho {f:Addr} {fd:FuncData} (F:Fun K "flat" "flat" zhI f fd) (cT:Cal P w K mg base "trees_of" 2 ["size","runs","struck"] (zc4 K)) (cH:Cal P w K mg base "holds" 1 ["runs","heights"] (zhv K)):FnOk P w K mg base CX0 3 f fd ["size","runs"] (znN K):=by
 refine F.ok scFlat (fun vs H Q E h=>?_) (fun cdv A outer s0 H vs Q E hr h=>?_)
 .obtain ⟨n,a,rs,rfl,_⟩:=h
  rfl
 .obtain ⟨n,a,rs,rfl,ha,R,VM,hn,hz,kN,k⟩:=h
  have nd:=scFlat.nd
  have hr1:Room 1 _:=hr.mono (by decide)
  refine ⟨_,zai (zaM (i:=2) nd rfl (Or.inl rfl) (zbA zl7 (zcS (zaf zaC pa_nil)) (pv 0)))
   (zai (zbO YBd rfl (zbR (zdu cT hr rfl (zaf (pv 0) (zaf (pv 1) (zaf (zcS pa_nil) pa_nil))))) (zas (i:=3) nd rfl (Or.inl rfl))
    (zap (zbO YBd rfl (zll (pv 3)) (zbM (n:=2) rfl (zag (zas (i:=4) nd rfl (Or.inl rfl)) (zag (zbM (n:=2) rfl (zag (zas (i:=5) nd rfl (Or.inl rfl)) (zag (zas (i:=6) nd rfl (Or.inl rfl)) zaG))) zaG)))
     (zap (zcT (pv 5) (zgF (pv 2) (pv 4) zca))))))
   (zai (zc2 (zmf (zdu cH hr1 rfl (zaf (pv 1) (zaf (pv 2) pa_nil)))) (zap (za3 (pv 2))) zba)
   (zap (za3 zgr)))),?_⟩
  refine ⟨by show 1 <= sizeLine;decide,fun l0 hl0=>?_⟩
  have S0:=zaj (o:=.lst [.int 0]) hl0
  refine ⟨_,rfl,l0,n,_,rfl,rfl,zac,by omega,by omega,(by rw [YAL];show 1 * _ <= _;omega),fun lh hlh=>?_⟩
  have S1:=S0.trans (zaj (o:=.lst (List.replicate ((n:Int)).toNat [V.int 0]).flatten) hlh)
  have fh:H lh = none:=S0.free hlh
  have efl:(List.replicate ((n:Int)).toNat [V.int 0]).flatten = (List.replicate n (0:Int)).map V.int:=by
   rw [YAE,List.map_replicate]
   exact zih _ n
  have hlh1:(upd (upd H l0 (.lst [.int 0])) lh (.lst (List.replicate ((n:Int)).toNat [V.int 0]).flatten)) lh = some (.lst ((List.replicate n (0:Int)).map V.int)):=by rw [zac,efl]
  generalize (upd (upd H l0 (.lst [.int 0])) lh (.lst (List.replicate ((n:Int)).toNat [V.int 0]).flatten)) = H1 at *
  refine ⟨_,rfl,_,rfl,by show 0 <= sizeLine;exact YAD _,fun le hle=>?_⟩
  have S2:=S1.trans (zaj (o:=.lst []) hle)
  have hlh2:=zaj (o:=.lst []) hle _ _ hlh1
  refine ⟨n,a,le,rs,[],rfl,S2.seq ha,R.same S2,VM,SqL.of zac,hn,hz,fun lt ts H3 S3 hlt hlt3 hts hF htl hfd hdd=>?_⟩
  have S4:=S2.trans S3
  have hlh3:=S3 _ _ hlh2
  have nlt:lt ≠ lh:=(zad hlh2 hlt).symm
  have flt:H lt = none:=S2.free hlt
  have ffd:∀ t ∈ ts,H t.d = none:=fun t h=>S2.free (hfd t h)
  generalize upd H1 le (.lst []) = H2 at *
  have one:=fun {t u:TR} (a1:t ∈ ts) (b1:u ∈ ts) {x y:Nd} (hx:x ∈ t.ns) (hy:y ∈ u.ns) (e:x.m = y.m)=>zkh hts hF a1 b1 hx hy e
  have cover:=fun {i:Int} (h0:0 <= i) (h1:i < n)=>zc1 hts hF h0 h1
  refine ⟨lt,rfl,⟨_,SqL.of hlt3⟩,zeo (K:=K) (a:=lt) (xs:=ts.map trV) (fun i Y H4=>∃ (hts':List Int) (o3 o4 o5 o6:Option V),Y = [some (.int n),some (.ref a),some (.ref lh),o3,o4,o5,o6]/\Same H H4/\H4 lt = some (.lst (ts.map trV))/\H4 lh = some (.lst (hts'.map V.int))/\hts'.length = n/\(∀ t ∈ ts.drop i,TreeAt K H4 n rs [] t)/\∀ t ∈ ts.take i,∀ x ∈ t.ns,gI hts' x.m = x.h)
   ⟨_,_,_,_,_,rfl,S4,hlt3,hlh3,by simp,hts,(fun t h=>by cases h)⟩ (fun i Y H4 _ ⟨_,_,_,_,_,_,_,h,_⟩=>SqL.of h) ?_ ?_⟩
  .rintro i v Y H4 hv ⟨hts1,o3,o4,o5,o6,rfl,S5,h4t,h4h,l1,hT,hW⟩
   obtain ⟨t,ht,rfl⟩:∃ t,ts[i]? = some t/\v = .ref t.d:=by
    rw [YAk] at hv
    cases e:ts[i]? with
    | none=>rw [e] at hv;cases hv
    | some t=>rw [e] at hv;exact ⟨t,rfl,(Option.some.inj hv).symm⟩
   obtain ⟨hi1,hi2⟩:=YAh.mp ht
   have htm:t ∈ ts:=YAA ht
   have edrop:ts.drop i = t :: ts.drop (i + 1):=by rw [YAJ hi1,hi2]
   have Tt:TreeAt K H4 n rs [] t:=hT t (by rw [edrop];exact YAi)
   have rest:∀ u ∈ ts.drop (i + 1),u.d ≠ t.d:=fun u hu e=>by
    obtain ⟨j,hj⟩:=YA4 hu
    rw [List.getElem?_drop] at hj
    have h1:(ts.map TR.d)[i + 1 + j]? = some t.d:=by rw [YAk,hj,<- e];rfl
    have h2:(ts.map TR.d)[i]? = some t.d:=by rw [YAk,ht];rfl
    have:=ziu hdd h1 h2
    omega
   refine ⟨_,rfl,t.d,_,rfl,Tt.th.dict,fun o=>?_⟩
   have n1:t.d ≠ lt:=fun z=>by have:=Tt.th.dict;rw [z,h4t] at this;cases this
   have n2:t.d ≠ lh:=fun z=>by have:=Tt.th.dict;rw [z,h4h] at this;cases this
   refine zjf (d:=t.d) (o:=o) (kvs:=t.ns.map ndK) (fun j Y H5=>∃ (hts':List Int) (o4 o5 o6:Option V),Y = [some (.int n),some (.ref a),some (.ref lh),some (.ref t.d),o4,o5,o6]/\Same H H5/\H5 lt = some (.lst (ts.map trV))/\H5 t.d = some (.frz o (.dK (t.ns.map ndK)))/\H5 lh = some (.lst (hts'.map V.int))/\hts'.length = n/\(∀ u ∈ ts.drop (i + 1),TreeAt K H5 n rs [] u)/\(∀ u ∈ ts.take i,∀ x ∈ u.ns,gI hts' x.m = x.h)/\(∀ x ∈ t.ns.take j,gI hts' x.m = x.h)/\∀ x ∈ t.ns,H5 x.t = some (.tup [.int x.h,.ref x.lt]))
    ⟨hts1,_,_,_,rfl,fun c o' e=>?_,?_,zac,?_,l1,fun u hu=>?_,hW,(fun x h=>by cases h),fun x hx=>?_⟩ (fun j Y H5 _ ⟨_,_,_,_,_,_,_,h,_⟩=>h) ?_ ?_
   .rw [zae (zad e (ffd t htm))];exact S5 c o' e
   .rw [zae n1.symm];exact h4t
   .rw [zae n2.symm];exact h4h
   .exact (hT u (by rw [edrop];exact YAn _ hu)).upd Tt.th.dict trivial (rest u hu)
   .exact zdF (Tt.th.node x hx).1 Tt.th.dict trivial
   .rintro j kk vv tt Y H5 hkv htt ⟨hts2,q4,q5,q6,rfl,S6,h5t,h5d,h5h,l2,hT5,hW5,hV5,hN5⟩
    obtain ⟨x,hx,ek⟩:∃ x,t.ns[j]? = some x/\(kk,vv) = ndK x:=by
     rw [YAk] at hkv
     cases e:t.ns[j]? with
     | none=>rw [e] at hkv;cases hkv
     | some x=>rw [e] at hkv;exact ⟨x,rfl,(Option.some.inj hkv).symm⟩
    unfold ndK at ek
    injection ek with ek1 ek2
    subst ek1 ek2
    have hxm:x ∈ t.ns:=YAA hx
    have xb:=Tt.tok.inm x hxm
    have Sn:=zaj (o:=.tup [kV (Sum.inl x.m),.ref x.t]) htt
    refine ⟨tt,_,rfl,SqT.of zac,rfl,_,_,rfl,_,_,rfl,x.t,_,rfl,SqT.of (Sn _ _ (hN5 x hxm)),rfl,_,_,rfl,_,_,rfl,rfl,rfl,?_⟩
    have h6h:=Sn _ _ h5h
    refine ⟨_,rfl,_,rfl,_,rfl,lh,_,x.m,_,rfl,rfl,h6h,zod xb.1 (by rw [YAc,l2];exact xb.2),?_⟩
    have n3:t.d ≠ lh:=n2
    refine ⟨hts2.set x.m.toNat x.h,_,_,_,rfl,fun c o' e=>?_,?_,?_,by rw [zac,zlN],by rw [YBH];exact l2,fun u hu=>?_,fun u hu y hy=>?_,fun y hy=>?_,fun y hy=>?_⟩
    .rw [zae (zad e fh)];exact Sn _ _ (S6 c o' e)
    .rw [zae nlt];exact Sn _ _ h5t
    .rw [zae n3];exact Sn _ _ h5d
    .have u6:=(hT5 u hu).same Sn
     refine u6.upd h6h trivial fun z=>?_
     have:=u6.th.dict
     rw [z,h6h] at this;cases this
    .have hum:u ∈ ts:=YC4 hu
     have yb:=(hts u hum).tok.inm y hy
     rw [ziv (by omega) yb.1]
     by_cases c:y.m = ((x.m.toNat:Nat):Int)
     .rw [if_pos c];exact one htm hum hxm hy (by omega)
     .rw [if_neg c];exact hW5 u hu y hy
    .rw [zbG hx] at hy
     have yt:y ∈ t.ns:=by
      rcases YAm.mp hy with q | q
      .exact YC4 q
      .rw [YAg.mp q];exact hxm
     have yb:=Tt.tok.inm y yt
     rw [ziv (by omega) yb.1]
     by_cases c:y.m = ((x.m.toNat:Nat):Int)
     .rw [if_pos c];exact one htm htm hxm yt (by omega)
     .rw [if_neg c]
      rcases YAm.mp hy with q | q
      .exact hV5 y q
      .rw [YAg.mp q] at c;exact absurd (by omega) c
    .exact zdF (Sn _ _ (hN5 y hy)) h6h trivial
   .rintro Y H5 ⟨hts2,q4,q5,q6,rfl,S6,h5t,h5d,h5h,l2,hT5,hW5,hV5,hN5⟩
    rw [YAc,YBK] at hV5
    refine ⟨hts2,_,_,_,_,rfl,S6,h5t,h5h,l2,hT5,fun u hu y hy=>?_⟩
    rw [zbG ht] at hu
    rcases YAm.mp hu with q | q
    .exact hW5 u q y hy
    .rw [YAg.mp q] at hy;exact hV5 y hy
  .rintro Y H4 ⟨hts1,o3,o4,o5,o6,rfl,S5,h4t,h4h,l1,hT,hW⟩
   rw [YAc,YBK] at hW
   refine ⟨_,rfl,_,rfl,a,lh,rs,hts1,rfl,S5.seq ha,R.same S5,SqL.of h4h,by rw [l1];exact VM,hz,fun l o hl=>⟨_,rfl,?_⟩⟩
   have S6:=S5.trans (zaj (o:=o) hl)
   refine ite2 (fun hb=>?_) (fun hb=>?_)
   .refine ⟨_,rfl,k lh hts1 _ S6 fh (zaj hl _ _ h4h) ⟨l1,holds_iff.mp hb,fun m m0 m1 mf=>?_⟩⟩
    have hm:=(hF.2 m).mpr ⟨m0,m1,by rw [zb4];exact mf⟩
    obtain ⟨t,htm,e⟩:=YAB.mp hm
    obtain ⟨x,hx,ex⟩:=mem_keys.mp (hts t htm).tok.start
    rw [<- e,<- ex,hW t htm x hx]
    exact zjR (hts t htm) hx ex
   .refine kN _ S6 fun f hf=>hb (holds_iff.mpr fun r hr=>?_)
    have V0:=VM r hr
    obtain ⟨t,htm,x,hx,ex⟩:=cover V0.1 V0.2.1
    have Tt:=hts t htm
    have ko:r.oJ ∈ zau t.ns:=(Tt.keys _).mpr (by
     have:=(Tt.keys _).mp (mem_keys.mpr ⟨x,hx,ex⟩)
     rw [zb4] at this ⊢
     exact this.trans (Conn.edge hr))
    obtain ⟨y,hy,ey⟩:=mem_keys.mp ko
    have h1:=zfU hf (Tt.tok.walk x hx)
    have h2:=zfU hf (Tt.tok.walk y hy)
    have h3:=hf r hr
    have e1:=hW t htm x hx
    have e2:=hW t htm y hy
    rw [ex] at e1 h1
    rw [ey] at e2 h2
    rw [e1,e2]
    omega
def zlB:FnScope ["size","runs"] ["size","runs"] (zan zcI):=⟨rfl,rfl,rfl,by decide +kernel,rfl,by decide +kernel,by decide +kernel⟩
def zeU {f:Addr} {fd:FuncData} (F:Fun K "groups" "groups" zcI f fd) (T2:Txt2 mg) (cT:Cal P w K mg base "trees_of" 2 ["size","runs","struck"] (zc4 K)):FnOk P w K mg base CX0 3 f fd ["size","runs"] (zlV K):=by
 refine F.ok zlB (fun vs H Q E h=>?_) (fun cdv A outer s0 H vs Q E hr h=>?_)
 .obtain ⟨n,a,rs,rfl,_⟩:=h
  rfl
 .obtain ⟨n,a,rs,rfl,ha,R,VM,hn,hz,k⟩:=h
  refine ⟨_,zap (za3 (zfE rfl (CompScope.of (N:=["size","runs"]) (osc:=zan zcI) (Nc:=["tree"]) (sub:=[none]) (by decide +kernel)) (zbR (zdu cT hr rfl (zaf (pv 0) (zaf (pv 1) (zaf (zcS pa_nil) pa_nil)))))
   (fun _ _ _ _ _=>zas (i:=0) zli rfl (Or.inl rfl) (Or.inr rfl)) (zc0 rfl) zaX (fun _ _ _ _ _=>pif0)
   (fun _ _ _ _ _=>zbp (r:=zme) (zgm rfl) rfl T2.sorted YCG (zaf (pv 0) pa_nil)))),?_⟩
  refine ⟨_,rfl,_,rfl,by show 0 <= sizeLine;exact YAD _,fun le hle=>?_⟩
  have S1:=zaj (o:=.lst []) hle
  refine ⟨n,a,le,rs,[],rfl,S1.seq ha,R.same S1,VM,SqL.of zac,by omega,hz,fun lt ts H3 S3 hlt hlt3 hts hF htl hfd hdd=>?_⟩
  have S4:=S1.trans S3
  clear S1 S3 hlt hle hfd
  rw [zb4] at hF
  refine ⟨lt,rfl,⟨_,SqL.of hlt3⟩,fun l hl=>?_⟩
  have nlt:lt ≠ l:=zad hlt3 hl
  refine zgq (ys:=ts.map trV) (fun i xs H2=>∃ gs:List GR,xs = gs.map grV/\H2 l = some (.lst xs)/\Same H3 H2/\(∀ g ∈ gs,H2 g.a = some (.lst (g.ms.map V.int))/\zmB n rs g/\H3 g.a = none)/\gs.map GR.st = (ts.take i).map TR.st/\gs.length = i/\i <= ts.length)
   ⟨[],rfl,zac,zaj hl,(fun g h=>by cases h),rfl,rfl,YAD _⟩ ?_ ?_ ?_
  .rintro i xs H2 hi ⟨gs,rfl,h2,S2,_⟩
   exact ⟨S2.seq (SqL.of hlt3),h2⟩
  .rintro i x xs H2 hx ⟨gs,rfl,h2,S2,hg,hs,hgl,hi⟩
   obtain ⟨t,ht,rfl⟩:∃ t,ts[i]? = some t/\x = .ref t.d:=by
    rw [YAk] at hx
    cases e:ts[i]? with
    | none=>rw [e] at hx;cases hx
    | some t=>rw [e] at hx;exact ⟨t,rfl,(Option.some.inj hx).symm⟩
   have hil:i < ts.length:=(YAh.mp ht).1
   have X:=hts t (YAA ht)
   have hnl:=X.tok.len
   refine zpi ?_
   have ek:(t.ns.map fun x=>(x.m,V.ref x.t)).map (·.1) = zau t.ns:=by unfold zau;rw [YAF];rfl
   refine ⟨_,rfl,t.d,t.ns.map fun x=>(x.m,V.ref x.t),rfl,?_,by rw [YAc];omega,by rw [ek];exact X.tok.nod,fun l2 ms hl2 hp hm=>?_⟩
   .rw [YAF];exact S2 _ _ X.th.dict
   .rw [ek] at hm
    have n2:l ≠ l2:=zad h2 hl2
    have f2:H3 l2 = none:=S2.free hl2
    refine ⟨zaj hl2 _ _ h2,?_,gs ++ [⟨l2,t.st,ms⟩],by rw [YAv];rfl,zac,fun c o e=>?_,fun g hgm=>?_,?_,by rw [YAw,hgl];rfl,by omega⟩
    .rw [YAc,YAL];omega
    .rw [zae (zad e hl)];exact zaj hl2 _ _ (S2 c o e)
    .have old:∀ c o,c ≠ l->H2 c = some o->upd (upd H2 l2 (.lst (ms.map V.int))) l (.lst (gs.map grV ++ [.ref l2])) c = some o:=fun c o hc e=>by rw [zae hc];exact zaj hl2 _ _ e
     rcases YAm.mp hgm with h | h
     .obtain ⟨g1,g2,g3⟩:=hg g h
      refine ⟨old _ _ (fun z=>?_) g1,g2,g3⟩
      rw [z,h2] at g1
      cases gs with
      | nil=>cases h
      | cons y ys=>
       cases e:g.ms with
       | nil=>rw [e] at g1;cases g1
       | cons z zs=>rw [e] at g1;cases g1
     .rw [YAg.mp h]
      refine ⟨?_,⟨hp,fun j=>?_⟩,f2⟩
      .show upd _ l _ l2 = _
       rw [zae n2.symm,zac]
      .show j ∈ ms ↔ _
       rw [hm j]
       constructor
       .intro q
        obtain ⟨x,hx1,rfl⟩:=mem_keys.mp q
        have b:=X.tok.inm x hx1
        have c:=(X.keys _).mp q
        rw [zb4] at c
        exact ⟨b.1,b.2,c⟩
       .rintro ⟨_,_,c⟩
        exact (X.keys j).mpr (by rw [zb4];exact c)
    .rw [zbG ht,YAv,YAv,hs];rfl
  .rintro xs H2 ⟨gs,rfl,h2,S2,hg,hs,hgl,_⟩
   rw [YAc,YBK] at hs
   exact k l gs H2 (S4.trans S2) (S4.free hl) ⟨h2,fun g hgm=>⟨(hg g hgm).1,(hg g hgm).2.1⟩,by rw [hs];exact hF⟩ fun g hgm=>S4.free (hg g hgm).2.2
def scAcross:FnScope ["first","second","shared"] ["first","second"] (zan zdT):=⟨rfl,rfl,rfl,by decide +kernel,rfl,by decide +kernel,by decide +kernel⟩
def zjy {f:Addr} {fd:FuncData} (F:Fun K "across" "across" zdT f fd) (T:Txt K mg) (T6:mg "min" = none):FnOk P w K mg base CX0 1 f fd ["first","second"] (zgb K):=by
 refine F.ok scAcross (fun vs H Q E h=>?_) (fun cdv A0 outer s0 H vs Q E hr h=>?_)
 .obtain ⟨a,b,A,B,rfl,_⟩:=h
  rfl
 .obtain ⟨a,b,A,B,rfl,ha,hb,hA,hB,k⟩:=h
  have nd:=scAcross.nd
  refine ⟨_,zai (zaM (i:=2) nd rfl (Or.inl rfl) zaC)
   (zai (zoh (zhQ YBd (PW.pt (zjk (zci zm8 (pv 2) (zbp (zgx rfl) rfl T6 PyProof.Rows.boot_min (zaf (zbp zbL rfl T.len YDo (zaf (pv 0) pa_nil)) (zaf (zbp zbL rfl T.len YDo (zaf (pv 1) pa_nil)) pa_nil))) (zb3 _))
     (zhs (zci znM (zcs ix_tup (pv 0) (pv 2) (fun _ _=>rfl)) (zcs ix_tup (pv 1) (pv 2) (fun _ _=>rfl)) (zb3 _)))))
    (zap (zo0 (i:=2) nd rfl (Or.inl rfl) zaC zjF))))
   (zap (za3 (zbA zhh (zm7 (zfK zkC (pv 0) (zhx (pv 2)) zhC) (zlm zhT zaC)) (zfK zkC (pv 1) (zhx (pv 2)) zhC))))),?_⟩
  refine ⟨fun Y' H'=>Y' = [some (.ref a),some (.ref b),some (.int (comm A B:Nat))]/\H' = H,?_,?_⟩
  .refine ⟨fun m Y H2=>∃ j:Nat,Y = [some (.ref a),some (.ref b),some (.int j)]/\H2 = H/\j <= A.length/\j <= B.length/\A.take j = B.take j/\m = A.length - j,⟨_,0,rfl,rfl,YAD _,YAD _,rfl,rfl⟩,?_⟩
   rintro m Y H2 ⟨j,rfl,rfl,j1,j2,je,rfl⟩
   refine ⟨_,rfl,_,rfl,a,_,rfl,.inr ha,_,rfl,b,_,rfl,.inr hb,_,_,rfl,_,_,rfl,rfl,_,rfl,?_⟩
   rw [YAc,YAc]
   refine ite2 (fun h=>?_) (fun h=>?_)
   .have hlt:=YAV h
    have l1:j < A.length:=by split at hlt <;> omega
    have l2:j < B.length:=by split at hlt <;> omega
    refine ⟨_,rfl,_,rfl,a,_,_,_,rfl,rfl,ha,zph (by omega) (by omega),_,rfl,_,rfl,b,_,_,_,rfl,rfl,hb,zph (by omega) (by omega),rfl,_,rfl,?_⟩
    refine ite2 (fun h2=>?_) (fun h2=>?_)
    .have e:=V.int.inj (YAV h2)
     refine ⟨fun Y' H'=>Y' = [some (.ref a),some (.ref b),some (.int (j + 1:Nat))]/\H' = H2,fun Y' H' ⟨e1,e2⟩=>⟨_,by omega,j + 1,e1,e2,l1,l2,zkn je l1 l2 e,rfl⟩,?_⟩
     exact ⟨_,rfl,_,_,rfl,rfl,rfl,rfl⟩
    .refine ⟨?_,rfl⟩
     have:j = comm A B:=zhc j1 j2 je (.inr (.inr fun z=>h2 (YAS (by
      unfold gI
      rw [YAE,YAC,YAC,z]))))
     rw [<- this]
   .refine iteF ⟨?_,rfl⟩
    have:j = comm A B:=zhc j1 j2 je (by
     have:¬ (j:Int) < _:=fun z=>h (YAS z)
     split at this
     .right;left;omega
     .left;omega)
    rw [<- this]
  .rintro Y H2 ⟨rfl,rfl⟩
   obtain ⟨c1,c2,_,_⟩:=zc8 A B
   refine ⟨_,rfl,_,rfl,(comm A B:Nat),rfl,a,_,rfl,ha,fun p1 H1 S1 q1=>?_⟩
   rw [zh1 c1] at q1
   refine ⟨_,rfl,p1,_,rfl,rfl,q1,fun p2 hp2=>?_⟩
   have S2:=S1.trans (zaj (o:=.tup ((A.drop (comm A B)).map V.int).reverse) hp2)
   refine ⟨_,rfl,_,rfl,(comm A B:Nat),rfl,b,_,rfl,zbQ (tp:=true) S2 hb,fun p3 H3 S3 q3=>?_⟩
   rw [zh1 c2] at q3
   refine ⟨p2,p3,_,_,rfl,rfl,zbQ (tp:=true) S3 (SqT.of zac),q3,?_,fun p H' S q=>?_⟩
   .simp only [YCF,YAc,YCD];rw [YAL];omega
   .refine k p H' ((S2.trans S3).trans S) ?_
    unfold zaT
    rw [YAv,List.map_reverse]
    exact q
def scRing:FnScope Nr ["size","runs","struck"] (zan zbH):=⟨rfl,rfl,rfl,by decide +kernel,rfl,by decide +kernel,by decide +kernel⟩
def zmM {f:Addr} {fd:FuncData} (F:Fun K "open_ring" "open_ring" zbH f fd) (T4:mg "enumerate" = none) (cT:Cal P w K mg base "trees_of" 2 ["size","runs","struck"] (zc4 K)) (cA:Cal P w K mg base "across" 1 ["first","second"] (zgb K)):FnOk P w K mg base CX0 3 f fd ["size","runs","struck"] (zoS K):=by
 refine F.ok scRing (fun vs H Q E h=>?_) (fun cdv A outer s0 H vs Q E hr h=>?_)
 .obtain ⟨n,a,s,rs,hs,rfl,_⟩:=h
  rfl
 .obtain ⟨n,a,s,rs,hs,rfl,ha,R,VM,hsq,hn,hz,k⟩:=h
  have nd:=scRing.nd
  have hr1:Room 1 _:=hr.mono (by decide)
  have hu:=zlC hr
  refine ⟨_,zai (zaM (i:=3) nd rfl (Or.inl rfl) ziw)
   (zai (zbO YBd rfl (zbR (zdu cT hr rfl (zaf (pv 0) (zaf (pv 1) (zaf (pv 2) pa_nil))))) (zas (i:=4) nd rfl (Or.inl rfl))
    (zap (zcG (zjJ (pv 3) (pv 4) ⟨rfl,rfl,rfl,rfl⟩))))
   (zai (zbO YBd rfl (zkJ rfl T4 (zaf (pv 1) pa_nil)) (zbM (n:=2) rfl (zag (zas (i:=5) nd rfl (Or.inl rfl)) (zag (zbM (n:=4) rfl (zag (zas (i:=6) nd rfl (Or.inl rfl)) (zag (zas (i:=7) nd rfl (Or.inl rfl)) (zag (zas (i:=8) nd rfl (Or.inl rfl)) (zag (zas (i:=9) nd rfl (Or.inl rfl)) zaG))))) zaG)))
    (zai (zcT (zew hu (pv 3) (pv 6) (fun _ _=>rfl)) (zbM (n:=2) rfl (zag (zas (i:=10) nd rfl (Or.inl rfl)) (zag (zas (i:=11) nd rfl (Or.inl rfl)) zaG))))
    (zai (zcT (zew hu (pv 3) (pv 7) (fun _ _=>rfl)) (zbM (n:=2) rfl (zag (zas (i:=12) nd rfl (Or.inl rfl)) (zag (zas (i:=13) nd rfl (Or.inl rfl)) zaG))))
    (zap (zc2 (PW.pt (zjk (zci zdY (pv 9) (pv 2) (by with_unfolding_all rfl)) (zhs (zci zpJ (zbA zko (pv 12) (pv 10)) (pv 8) (zb3 _)))))
     (zap (za3 (pe_tup (zaf (pv 6) (zaf (zbA zhh (pe_tup (zaf (pv 5) pa_nil)) (zdu cA hr1 rfl (zaf (pv 13) (zaf (pv 11) pa_nil)))) pa_nil))))) zba)))))
   (zap (za3 zgr)))),?_⟩
  intro dr hdr
  have S1:=zaj (o:=.dK []) hdr
  have hdr1:upd H dr (.dK []) dr = some (.dK (([]:List Nd).map ndK)):=zac
  generalize upd H dr (.dK []) = H1 at *
  refine ⟨_,rfl,_,rfl,_,rfl,n,a,s,rs,hs,rfl,S1.seq ha,R.same S1,VM,S1.seq hsq,by omega,hz,fun lt ts H3 S3 hlt hlt3 hts hF htl hfd hdd=>?_⟩
  have ndl:lt ≠ dr:=(zad hdr1 hlt).symm
  have ntd:∀ t ∈ ts,t.d ≠ dr:=fun t ht=>(zad hdr1 (hfd t ht)).symm
  refine ⟨lt,rfl,⟨_,SqL.of hlt3⟩,zeo (K:=K) (a:=lt) (xs:=ts.map trV) (fun i Y H4=>∃ (o4 o5 o6 o7 o8 o9 o10 o11 o12 o13:Option V),Y = [some (.int n),some (.ref a),some (.ref s),some (.ref dr),o4,o5,o6,o7,o8,o9,o10,o11,o12,o13]/\Same H H4/\H4 lt = some (.lst (ts.map trV))/\H4 dr = some (.dK ((za8 (ts.take i)).map ndK))/\(∀ t ∈ ts,TreeAt K H4 n rs hs t)/\(zau (za8 (ts.take i))).Nodup)
   ⟨_,_,_,_,_,_,_,_,_,_,rfl,S1.trans S3,hlt3,S3 _ _ hdr1,hts,YCb⟩ (fun i Y H4 _ ⟨_,_,_,_,_,_,_,_,_,_,_,_,h,_⟩=>SqL.of h) ?_ ?_⟩
  .rintro i v Y H4 hv ⟨o4,o5,o6,o7,o8,o9,o10,o11,o12,o13,rfl,S4,h4t,h4r,hT,hnd⟩
   obtain ⟨t,ht,rfl⟩:∃ t,ts[i]? = some t/\v = .ref t.d:=by
    rw [YAk] at hv
    cases e:ts[i]? with
    | none=>rw [e] at hv;cases hv
    | some t=>rw [e] at hv;exact ⟨t,rfl,(Option.some.inj hv).symm⟩
   have htm:=YAA ht
   have Tt:=hT t htm
   have hdis:∀ j ∈ zau t.ns,j ∉ zau (za8 (ts.take i)):=fun j hj hj2=>by
    obtain ⟨x,hx,rfl⟩:=mem_keys.mp hj2
    obtain ⟨u,hu1,hxu⟩:=mem_reach.mp hx
    obtain ⟨i',hi'⟩:=YA4 hu1
    have li:=(YAh.mp hi').1
    rw [YBC] at li
    rw [YCh (by omega)] at hi'
    exact zhn hT hF hi' ht (by omega) (mem_keys.mpr ⟨x,hxu,rfl⟩) hj
   have ereach:za8 (ts.take (i + 1)) = za8 (ts.take i) ++ t.ns:=by
    unfold za8;rw [zbG ht,YDd];simp
   have hlenr:(za8 (ts.take i)).length <= n:=by
    have h:=zaQ (xs:=(List.range n).map Int.ofNat) hnd fun kk hk=>by
     obtain ⟨x,hx,rfl⟩:=mem_keys.mp hk
     obtain ⟨u,hu1,hxu⟩:=mem_reach.mp hx
     have:=(hT u (YC4 hu1)).tok.inm x hxu
     refine YAB.mpr ⟨x.m.toNat,YAW.mpr (by omega),?_⟩
     show ((x.m.toNat:Nat):Int) = x.m
     omega
    unfold zau at h
    simpa using h
   have hnl:=Tt.tok.len
   refine ⟨_,rfl,dr,rfl,.inl ⟨_,.inl h4r⟩,_,rfl,t.d,_,_,rfl,(ntd t htm).symm,h4r,Tt.th.dict,(by rw [YAc,YAc,YAL];omega),?_⟩
   have kk1:∀ l:List Nd,(l.map ndK).map (·.1) = (zau l).map Sum.inl:=fun l=>by unfold zau;rw [YAF,YAF];rfl
   have emg:mergeK ((za8 (ts.take i)).map ndK) (t.ns.map ndK) = (za8 (ts.take (i + 1))).map ndK:=by
    rw [zcl,ereach,YAv]
    .intro kk hkx hkr
     rw [kk1] at hkx hkr
     obtain ⟨x,hx,rfl⟩:=YAB.mp hkx
     obtain ⟨y,hy,e⟩:=YAB.mp hkr
     have e':y = x:=Sum.inl.inj e
     exact hdis x hx (e' ▸ hy)
    .rw [kk1]
     exact List.Pairwise.map _ (fun a b h z=>h (Sum.inl.inj z)) Tt.tok.nod
   rw [emg]
   refine ⟨_,_,_,_,_,_,_,_,_,_,rfl,fun c o e=>?_,?_,zac,fun u hu1=>(hT u hu1).upd h4r trivial (ntd u hu1),?_⟩
   .rw [zae (zad e hdr)];exact S4 c o e
   .rw [zae ndl];exact h4t
   .rw [ereach]
    unfold zau at hnd hdis ⊢
    rw [YAv,YBU]
    exact ⟨hnd,Tt.tok.nod,fun x hx y hy e=>hdis y hy (e ▸ hx)⟩
  .rintro Y H4 ⟨o4,o5,o6,o7,o8,o9,o10,o11,o12,o13,rfl,S4,h4t,h4r,hT,hnd⟩
   rw [YAc,YBK] at h4r hnd
   have RC:Reach K H4 n rs hs ts:=⟨hT,hF,hnd⟩
   have R4:=R.same S4
   have node:∀ m:Int,0 <= m->m < n->∃ x ∈ za8 ts,x.m = m:=fun m m0 m1=>by
    obtain ⟨t,ht,x,hx,e⟩:=zc1 hT hF m0 m1
    exact ⟨x,mem_reach.mpr ⟨t,ht,hx⟩,e⟩
   have dg:∀ (x:Nd),x ∈ za8 ts->∀ H5,Same H4 H5->DGet H5 dr (.int x.m) (some (.ref x.t))/\H5 x.t = some (.tup [.int x.h,.ref x.lt])/\SqT K H5 x.lt (x.line.map V.int)/\x.line.length <= 40:=fun x hx H5 S5=>by
    have:=DGet.k (k:=Sum.inl x.m) (S5 _ _ h4r)
    rw [zeu hnd hx] at this
    obtain ⟨t,ht,hxt⟩:=mem_reach.mp hx
    have q:=(hT t ht).th.node x hxt
    have q1:=(hT t ht).tok.few x hxt
    have q2:=(hT t ht).tok.len
    exact ⟨this,S5 _ _ q.1,zbQ (tp:=true) S5 q.2,by omega⟩
   have look:=fun (x:Nd) (hx:x ∈ za8 ts)=>zbx hnd hx
   refine ⟨_,rfl,a,_,rfl,S4.seq ha,zh4 (K:=K) (a:=a) (xs:=rs.map runV) (fun i Y H5=>∃ (o5 o6 o7 o8 o9 o10 o11 o12 o13:Option V),Y = [some (.int n),some (.ref a),some (.ref s),some (.ref dr),o4,o5,o6,o7,o8,o9,o10,o11,o12,o13]/\Same H4 H5/\ringF ((za8 ts).map za9) hs 0 rs = ringF ((za8 ts).map za9) hs i (rs.drop i))
    ⟨_,_,_,_,_,_,_,_,_,rfl,zj0 _,rfl⟩ (fun i Y H5 _ ⟨_,_,_,_,_,_,_,_,_,_,S,_⟩=>(S4.trans S).seq ha) ?_ ?_⟩
   .rintro i x t Y H5 hx ht ⟨o5,o6,o7,o8,o9,o10,o11,o12,o13,rfl,S5,hF5⟩
    obtain ⟨r,hr,rfl,hrt⟩:=R4.at_ hx
    have V0:=VM r (YAA hr)
    have hil:i < rs.length:=(YAh.mp hr).1
    have edrop:rs.drop i = r :: rs.drop (i + 1):=by rw [YAJ hil,(YAh.mp hr).2]
    have S6:=S5.trans (zaj (o:=.tup [.int i,.ref r.p]) ht)
    refine ⟨t,_,rfl,SqT.of zac,rfl,_,_,rfl,_,_,rfl,r.p,_,rfl,ziz S6 hrt,rfl,_,_,rfl,_,_,rfl,_,_,rfl,_,_,rfl,rfl,rfl,?_⟩
    generalize upd H5 t (.tup [.int i,.ref r.p]) = H6 at *
    obtain ⟨x,hx1,ex⟩:=node r.one V0.1 V0.2.1
    obtain ⟨y,hy1,ey⟩:=node r.oJ V0.2.2.1 V0.2.2.2
    obtain ⟨x1,x2,x3,x4⟩:=dg x hx1 H6 S6
    obtain ⟨y1,y2,y3,y4⟩:=dg y hy1 H6 S6
    have lx:=look x hx1
    have ly:=look y hy1
    rw [ex] at x1 lx
    rw [ey] at y1 ly
    refine ⟨_,rfl,_,rfl,dr,_,rfl,x1,x.t,_,rfl,SqT.of x2,rfl,_,_,rfl,_,_,rfl,rfl,?_⟩
    refine ⟨_,rfl,_,rfl,dr,_,rfl,y1,y.t,_,rfl,SqT.of y2,rfl,_,_,rfl,_,_,rfl,rfl,?_⟩
    refine ⟨_,rfl,_,rfl,s,_,rfl,.inl ((S4.trans S6).seq hsq),rfl,zgO hs,_,rfl,?_⟩
    rw [if_pos rfl,ziA]
    rw [edrop,zdQ,lx,ly] at hF5
    cases hc:hs.contains r.hand with
    | true=>
     rw [if_neg (fun z=>by rw [hc] at z;cases z.1)] at hF5
     exact iteF (iteF ⟨_,_,_,_,_,_,_,_,_,rfl,S6,hF5⟩)
    | false=>
     refine iteT ⟨_,rfl,_,rfl,_,_,rfl,rfl,_,rfl,rfl,_,rfl,?_⟩
     by_cases e:y.h - x.h = r.rise
     .rw [if_neg (fun z=>z.2 e)] at hF5
      exact zpI (by show V.int (y.h - x.h) = _;rw [e]) ⟨_,_,_,_,_,_,_,_,_,rfl,S6,hF5⟩
     .rw [if_pos ⟨hc,e⟩] at hF5
      refine ite2 (fun _=>?_) (fun h2=>absurd (nb2 h2) fun z=>e (V.int.inj z))
      refine ⟨_,rfl,_,rfl,by show 1 <= sizeLine;decide,fun tq htq=>?_⟩
      have S7:=zaj (o:=.tup [.int i]) htq
      refine ⟨_,rfl,_,rfl,y.lt,x.lt,y.line,x.line,rfl,zbQ (tp:=true) S7 y3,zbQ (tp:=true) S7 x3,by omega,by omega,fun p7 H7 S8 q7=>?_⟩
      have hal:=zfj y.line x.line
      refine ⟨tq,p7,_,_,rfl,rfl,zbQ (tp:=true) S8 (SqT.of zac),q7,?_,fun p8 H8 S9 q8=>?_⟩
      .rw [YAc,YAL];show 1 + _ <= _;omega
      .refine ⟨by show 2 <= sizeLine;decide,fun p9 hp9=>?_⟩
       have SA:=zaj (o:=.tup [.int r.one,.ref p8]) hp9
       have SB:=(((S6.trans S7).trans S8).trans S9).trans SA
       refine k _ ts _ (S4.trans SB) (RC.same SB) ?_
       rw [hF5]
       exact ⟨p9,p8,rfl,zac,zbQ (tp:=true) SA q8⟩
   .rintro Y H5 ⟨o5,o6,o7,o8,o9,o10,o11,o12,o13,rfl,S5,hF5⟩
    refine k .non ts H5 (S4.trans S5) (RC.same S5) ?_
    rw [hF5,YAc,YBq]
    rfl
end
end Fen
namespace Fd
open PySem L2
section
variable {P:Program} {w:World} {K:oS} {mg:Str->Option Value} {base:Heap}
theorem zcC {f:Addr} {fd:FuncData} (F:Fun K "some_line" "some_line" Fen.zbC f fd) (cF:Fen.Cal P w K mg base "steps_from" 1 ["size","runs","struck"] (Fen.zf4 K)) (cR:Fen.Cal P w K mg base "tree_from" 1 ["start","steps"] (Fen.zii K)):FnOk P w K mg base CX0 2 f fd ["size","runs","struck","one","other"] (spD K 5 zce):=by
 refine (Fen.zcC F cF cR).imp fun vs H Q E ⟨β,G,ds,gh,bx,hv,hl,P',q,hP⟩=>?_
 obtain ⟨n,a,b,rs,hs,one,oJ,rfl,VM,h0,h1,hn,hz,k⟩:=q
 obtain ⟨v1,ws1,rfl,e1,hv⟩:=hv
 obtain ⟨v2,ws2,rfl,e2,hv⟩:=hv
 obtain ⟨v3,ws3,rfl,e3,hv⟩:=hv
 obtain ⟨v4,ws4,rfl,e4,hv⟩:=hv
 obtain ⟨v5,ws5,rfl,e5,hv⟩:=hv
 cases hv;cases e1;cases e4;cases e5
 obtain ⟨x,vs,rfl,gx,hx⟩:=zdO e2
 obtain ⟨y,us,rfl,gy,hy⟩:=zdO e3
 obtain ⟨rs',rfl,R,er⟩:=zcu hx
 rw [reps_ints] at hy;subst hy
 refine ⟨n,x,y,rs',hs,one,oJ,rfl,SqL.of (gh _ _ gx),R.same gh,er.symm.inMarks VM,SqL.of (gh _ _ gy),h0,h1,hn,by rw [er.len];exact hz,fun v H' S SL=>?_⟩
 obtain ⟨ns,a1,a2,a3,a4⟩:=SL
 have st:=zcE (nl:=fun _=>False) gh bx S (fun a z=>z.elim)
 rcases a4 with ⟨rfl,k2⟩ | ⟨z,hz,ez,rfl,q⟩
 .exact hP _ (k none (er.lineIs ⟨ns,a1,a2,a3,.inl ⟨rfl,k2⟩⟩)) _ H' _ st rfl
 .exact hP _ (k (some z.line) (er.lineIs ⟨ns,a1,a2,a3,.inr ⟨z,hz,ez,rfl⟩⟩)) _ H' _ st (zgD (zeG (gh.trans S) q))
def zgY {f:Addr} {fd:FuncData} (F:Fun K "open_ring" "open_ring" Fen.zbH f fd) (T4:mg "enumerate" = none) (cT:Fen.Cal P w K mg base "trees_of" 2 ["size","runs","struck"] (Fen.zc4 K)) (cA:Fen.Cal P w K mg base "across" 1 ["first","second"] (Fen.zgb K)):FnOk P w K mg base CX0 3 f fd ["size","runs","struck"] (spD K 3 zcg):=by
 refine (Fen.zmM F T4 cT cA).imp fun vs H Q E ⟨β,G,ds,gh,bx,hv,hl,P',q,hP⟩=>?_
 obtain ⟨n,a,b,rs,hs,rfl,VM,hn,hz,k⟩:=q
 obtain ⟨v1,ws1,rfl,e1,hv⟩:=hv
 obtain ⟨v2,ws2,rfl,e2,hv⟩:=hv
 obtain ⟨v3,ws3,rfl,e3,hv⟩:=hv
 cases hv;cases e1
 obtain ⟨x,vs,rfl,gx,hx⟩:=zdO e2
 obtain ⟨y,us,rfl,gy,hy⟩:=zdO e3
 obtain ⟨rs',rfl,R,er⟩:=zcu hx
 rw [reps_ints] at hy;subst hy
 refine ⟨n,x,y,rs',hs,rfl,SqL.of (gh _ _ gx),R.same gh,er.symm.inMarks VM,SqL.of (gh _ _ gy),hn,by rw [er.len];exact hz,fun v ts H' S Re Rr=>?_⟩
 have st:=zcE (nl:=fun _=>False) gh bx S (fun a z=>z.elim)
 have key:=k _ (er.ringIs ⟨K,H',ts,Re,rfl⟩)
 refine hP _ key _ H' _ st ?_
 cases z:Fen.ringF ((Fen.za8 ts).map Fen.za9) hs 0 rs' with
 | none=>rw [z] at Rr;exact Rr
 | some ml=>
  rw [z] at Rr
  obtain ⟨p,lt,rfl,hp,hq⟩:=Rr
  exact ⟨p,_,rfl,zeG (gh.trans S) (SqT.of hp),_,_,rfl,rfl,_,_,rfl,zgD (zeG (gh.trans S) hq),rfl⟩
theorem zho {f:Addr} {fd:FuncData} (F:Fun K "flat" "flat" Fen.zhI f fd) (cT:Fen.Cal P w K mg base "trees_of" 2 ["size","runs","struck"] (Fen.zc4 K)) (cH:Fen.Cal P w K mg base "holds" 1 ["runs","heights"] (Fen.zhv K)):FnOk P w K mg base CX0 3 f fd ["size","runs"] (spD K 2 zcW):=by
 refine (Fen.zho F cT cH).imp fun vs H Q E ⟨β,G,ds,gh,bx,hv,hl,P',q,hP⟩=>?_
 obtain ⟨n,a,rs,rfl,VM,hn,hz,k1,k2⟩:=q
 obtain ⟨v1,ws1,rfl,e1,hv⟩:=hv
 obtain ⟨v2,ws2,rfl,e2,hv⟩:=hv
 cases hv;cases e1
 obtain ⟨x,vs,rfl,gx,hx⟩:=zdO e2
 obtain ⟨rs',rfl,R,er⟩:=zcu hx
 refine ⟨n,x,rs',rfl,SqL.of (gh _ _ gx),R.same gh,er.symm.inMarks VM,hn,by rw [er.len];exact hz,fun H' S no=>?_,fun l hts H' S hl' hl2 fo=>?_⟩
 .exact hP _ (k1 (er.noHts no)) _ H' _ (zcE (nl:=fun _=>False) gh bx S (fun a z=>z.elim)) rfl
 .exact hP _ (k2 hts (er.flatOk fo)) _ H' _ (zcE (nl:=fun a=>a = l) gh bx S (fun a z=>z ▸ hl')) ⟨l,_,rfl,zey (gh.trans S) rfl hl2,fun _=>hl',reps_ints.mpr rfl⟩
theorem zeU {f:Addr} {fd:FuncData} (F:Fun K "groups" "groups" Fen.zcI f fd) (T2:Fen.Txt2 mg) (cT:Fen.Cal P w K mg base "trees_of" 2 ["size","runs","struck"] (Fen.zc4 K)):FnOk P w K mg base CX0 3 f fd ["size","runs"] (spD K 2 zcR):=by
 refine (Fen.zeU F T2 cT).imp fun vs H Q E ⟨β,G,ds,gh,bx,hv,hl,P',q,hP⟩=>?_
 obtain ⟨n,a,rs,rfl,VM,hn,hz,k⟩:=q
 obtain ⟨v1,ws1,rfl,e1,hv⟩:=hv
 obtain ⟨v2,ws2,rfl,e2,hv⟩:=hv
 cases hv;cases e1
 obtain ⟨x,vs,rfl,gx,hx⟩:=zdO e2
 obtain ⟨rs',rfl,R,er⟩:=zcu hx
 refine ⟨n,x,rs',rfl,SqL.of (gh _ _ gx),R.same gh,er.symm.inMarks VM,hn,by rw [er.len];exact hz,fun l gs H' S hl' GA hg=>?_⟩
 have gg:=gh.trans S
 have st:=zcE (nl:=fun a=>a = l\/a ∈ gs.map Fen.GR.a) gh bx S (fun a z=>by
  rcases z with rfl | z
  .exact hl'
  .obtain ⟨g,h1,rfl⟩:=YAB.mp z;exact hg g h1)
 refine hP _ (k (gs.map Fen.GR.ms) (er.grpsIs ⟨gs,fun g hg=>(GA.rows g hg).2,GA.firsts,rfl⟩)) _ H' _ st ⟨l,_,rfl,zey gg (.inl rfl) GA.lst,fun _=>hl',?_⟩
 rw [YAF]
 have go:∀ ds:List Fen.GR,(∀ g ∈ ds,g ∈ gs)->Reps ⟨K,β,H,G⟩ (zeb G H' fun a=>a = l\/a ∈ gs.map Fen.GR.a) (ds.map ((fun g=>D.lst true (g.map D.int)) ∘ Fen.GR.ms)) (ds.map Fen.grV):=by
  intro ds
  induction ds with
  | nil=>intro _;rfl
  | cons g ds ih=>
   intro hm
   refine ⟨_,_,rfl,⟨g.a,_,rfl,zey gg (.inr (YAO (hm g YAi))) (GA.rows g (hm g YAi)).1,fun _=>hg g (hm g YAi),reps_ints.mpr rfl⟩,ih fun g' h'=>hm g' (YAn _ h')⟩
 exact go gs fun g h=>h
end
end Fd
namespace Fd
open PySem L2 Fen
section
variable {P:Program} {w:World} {K:oS} {mg:Str->Option Value} {base:Heap}
local macro_rules | `(tactic| decreasing_trivial)=>`(tactic| first | assumption | exact Bt.len ‹_› | exact Bt.range ‹_› | exact Bt.list ‹_› | exact Bt.isinstance ‹_› | exact Bt.all ‹_› | exact Bt.tuple ‹_› | exact Bt.sorted ‹_› | exact Bt.set ‹_› | exact Bt.zip ‹_› | exact Bt.enumerate ‹_› | exact Bt.any ‹_› | exact Bt.min ‹_› | exact Bt.max ‹_› | exact Bt.int ‹_› | exact Bt.bool ‹_› | exact Bt.str ‹_› | exact Room.mono ‹_› (by first | decide | omega) | exact Room.units ‹_› | exact YB0 | exact PyProof.Rows.boot_tuple | exact PyProof.Rows.boot_int | exact PyProof.Rows.boot_bool | exact PyProof.Rows.boot_str | decide | exact ndB_of (by kernel_rfl))
def zhF (F:Fun K "hands_of" "hands_of" zdq f fd) (T:Bt mg)  : FnOk P w K mg base CX0 1 f fd ["runs"] (spD K 1 za1):=
 zcc (N:=["runs"]) F fun _ _=>
 (zaK (zbr (DF.de (zly (Nc:=["one","other","rise","hand"]) (.tp 4 (.cons (.nm 0) (.cons (.nm 1) (.cons (.nm 2) (.cons (.nm 3) .nil))))) (zck (dv 0)) (zdg (n:=4) rfl (zag (gn 0) (zag (gn 1) (zag (gn 2) (zag (gn 3) zaG))))) zbb (dv 3)))))
def zm4 (F:Fun K "left" "left" zjp f fd) (T:Bt mg)  : FnOk P w K mg base CX0 1 f fd ["runs","struck"] (spD K 2 zcz):=
 zcc (N:=["runs","struck"]) F fun _ _=>
 (zaK (zbr (DF.de (zbI (Nc:=["one","other","rise","hand","struck"]) (.tp 4 (.cons (.nm 0) (.cons (.nm 1) (.cons (.nm 2) (.cons (.nm 3) .nil))))) (zck (dv 0)) (zdg (n:=4) rfl (zag (gn 0) (zag (gn 1) (zag (gn 2) (zag (gn 3) zaG))))) (zl4 (zmu (dv 3) (dv 4))) (zcp (zaa (dv 0) (zaa (dv 1) (zaa (dv 2) (zaa (dv 3) zal)))))))))
def zf3 (F:Fun K "holds" "holds" zdf f fd) (T:Bt mg)  : FnOk P w K mg base CX0 1 f fd ["runs","heights"] (spD K 2 zmr):=
 zcc (N:=["runs","heights"]) F fun _ _=>
 (zaK (zbr (zoJ (zaa (DF.de (zbI (Nc:=["one","other","rise","hand","heights"]) (.tp 4 (.cons (.nm 0) (.cons (.nm 1) (.cons (.nm 2) (.cons (.nm 3) .nil))))) (zck (dv 0)) (zdg (n:=4) rfl (zag (gn 0) (zag (gn 1) (zag (gn 2) (zag (gn 3) zaG))))) zbb (d_eq (ziQ (zb9 4 (dv 1)) (zb9 4 (dv 0))) (dv 2)))) zal))))
def zhe (F:Fun K "lists_of" "lists_of" zdB f fd) (T:Bt mg)  : FnOk P w K mg base CX0 1 f fd ["hands","length"] (spD K 2 zbn):=
 zcc (N:=["hands","length","lists","turn"]) F fun _ _=>
 (zao (za4 2 (DF.de (zd9 (zaa (DF.de (zd9 zal)) zal))))
  (zao (zdL (.nm 3) (zb8 (dv 1)) (gn 3) (zaK (zmE 2 (Nc:=["chosen","hand","hands"]) (.nm 0) (.nm 1) (zck (dv 2)) (gn 0) (zck (dv 2)) (gn 1) (zl4 (DW.dt (w_or (znF (zm1 (dv 0))) (zpp (t_lt (zb9 0 (zns zaq)) (dv 1)))))) (zdr (dv 0) (DF.de (zd9 (zaa (dv 1) zal)))))))
  (zaK (zbr (dv 2)))))
def zf6 (F:Fun K "false_sets" "false_sets" zbW f fd) (T:Bt mg) (oe:Cal P w K mg base "hands_of" 1 ["runs"] (spD K 1 za1)) (om:Cal P w K mg base "lists_of" 1 ["hands","length"] (spD K 2 zbn)) (oj:Cal P w K mg base "flat" 3 ["size","runs"] (spD K 2 zcW)) (ol:Cal P w K mg base "left" 1 ["runs","struck"] (spD K 2 zcz)):FnOk P w K mg base CX0 4 f fd ["size","runs","many"] (spD K 3 zaV):=
 zcc (N:=["size","runs","many","hands","found","length","struck"]) F fun _ _=>
 (zao (za4 3 (zam oe (zaa (dv 1) zal)))
  (zao (zlE 4 (zd9 zal))
  (zao (zdL (.nm 5) (zb8 (zdr (zoM (zaa (dv 2) (zaa (zin 3) zal))) zaq)) (gn 5) (zaK (zdL (.nm 6) (zck (zam om (zaa (dv 3) (zaa (dv 5) zal)))) (gn 6) (zaK (s_if (zkf (zam oj (zaa (dv 0) (zaa (zam ol (zaa (dv 1) (zaa (dv 6) zal))) zal)))) (zaK (zlM 4 (dv 6))) zed)))))
  (zaK (zjQ 4 (zbr (dv 4)))))))
def ziE (F:Fun K "reading" "reading" zdz f fd) (T:Bt mg) (oe:Cal P w K mg base "hands_of" 1 ["runs"] (spD K 1 za1)) (om:Cal P w K mg base "lists_of" 1 ["hands","length"] (spD K 2 zbn)) (oj:Cal P w K mg base "flat" 3 ["size","runs"] (spD K 2 zcW)) (ol:Cal P w K mg base "left" 1 ["runs","struck"] (spD K 2 zcz)):FnOk P w K mg base CX0 4 f fd ["size","runs","many"] (spD K 3 zcx):=
 zcc (N:=["size","runs","many","hands","length","struck","heights"]) F fun _ _=>
 (zao (za4 3 (zam oe (zaa (dv 1) zal)))
  (zao (zdL (.nm 4) (zb8 (zdr (zoM (zaa (dv 2) (zaa (zin 3) zal))) zaq)) (gn 4) (zaK (zdL (.nm 5) (zck (zam om (zaa (dv 3) (zaa (dv 4) zal)))) (gn 5) (zao (za4 6 (zam oj (zaa (dv 0) (zaa (zam ol (zaa (dv 1) (zaa (dv 5) zal))) zal))))
  (zaK (s_if (zkf (dv 6)) (zaK (zbr (zcp (zaa (dv 5) (zaa (dv 6) zal))))) zed))))))
  (zaK (zbr zj4))))
def zfB (F:Fun K "line_hands" "line_hands" zb1 f fd) (T:Bt mg) (oe:Cal P w K mg base "hands_of" 1 ["runs"] (spD K 1 za1)):FnOk P w K mg base CX0 2 f fd ["runs","line"] (spD K 2 zbd):=
 zcc (N:=["runs","line"]) F fun _ _=>
 (zaK (zbr (zam oe (zaa (DF.de (zbI (Nc:=["number","runs"]) (.nm 0) (zck (dv 1)) (gn 0) zbb (zb9 1 (dv 0)))) zal))))
theorem zcm (F:Fun K "paper_without" "paper_without" zbj f fd) (hm:mg "paper_without" = some (.ref f)) (hb:Binds K fd ["size","runs","many","struck","ends"] []) (T:Bt mg) (ox:Cal P w K mg base "open_ring" 3 ["size","runs","struck"] (spD K 3 zcg)) (ot:Cal P w K mg base "line_hands" 2 ["runs","line"] (spD K 2 zbd)) (oy:Cal P w K mg base "some_line" 2 ["size","runs","struck","one","other"] (spD K 5 zce)):∀ n,FnOk P w K mg base CX0 (4 + n) f fd ["size","runs","many","struck","ends"] (spD K 5 (zay n))
 | 0=>⟨fun vs H Q E ⟨β,G,ds,_,_,_,h,_⟩=>h,fun A outer s H args us vs Q E _ _ _ _ ⟨β,G,ds,_,_,_,_,P,z,_⟩=>z.elim⟩
 | n + 1=>by
  have cSelf:Cal P w K mg base "paper_without" (4 + n) ["size","runs","many","struck","ends"] (spD K 5 (zay n)):=Cal.of F (zcm F hm hb T ox ot oy n) hm hb
  exact zcc (N:=["size","runs","many","struck","ends","kind","found","one","other","mark","line","hands","rest"]) (k:=4 + n) F fun _ _=>
   (zao (za4 5 zd1)
  (zao (za4 6 (zam ox (zaa (dv 0) (zaa (dv 1) (zaa (dv 3) zal)))))
  (zao (s_if (zoo (dv 6)) (zao (za4 5 zd1)
  (zao (zlD (.tp 2 (.cons (.nm 7) (.cons (.nm 8) .nil))) (dv 4) (zdg (n:=2) rfl (zag (gn 7) (zag (gn 8) zaG))))
  (zaK (za4 6 (zcp (zaa (dv 7) (zaa (zam oy (zaa (dv 0) (zaa (dv 1) (zaa (dv 3) (zaa (dv 7) (zaa (dv 8) zal)))))) zal))))))) zed)
  (zao (zlD (.tp 2 (.cons (.nm 9) (.cons (.nm 10) .nil))) (dv 6) (zdg (n:=2) rfl (zag (gn 9) (zag (gn 10) zaG))))
  (zao (za4 11 (d_if (t_gt (dv 2) zaq) (zam ot (zaa (dv 1) (zaa (dv 10) zal))) (DF.de (zd9 zal))))
  (zao (zkz 12 (Nc:=["hand","size","runs","ends","many","struck"]) (.nm 0) (zck (dv 11)) (gn 0) zbb (zcp (zaa (dv 0) (zaa (zam cSelf (zaa (dv 1) (zaa (dv 2) (zaa (ziQ (dv 4) zaq) (zaa (zdr (dv 5) (DF.de (zd9 (zaa (dv 0) zal)))) (zaa (dv 3) zal)))))) zal))))
  (zaK (zbr (zcp (zaa (dv 5) (zaa (dv 9) (zaa (dv 10) (zaa (zj1 (zaa (dv 12) zal)) zal)))))))))))))
def zgc (F:Fun K "some_paper" "some_paper" zb0 f fd) (T:Bt mg) (oG:Cal P w K mg base "paper_without" (4 + 6) ["size","runs","many","struck","ends"] (spD K 5 (zay 6))):FnOk P w K mg base CX0 11 f fd ["size","runs","many","one","other"] (spD K 5 zaY):=
 zcc (N:=["size","runs","many","one","other"]) F fun _ _=>
 (zaK (zbr (zam oG (zaa (dv 0) (zaa (dv 1) (zaa (dv 2) (zaa (DF.de (zd9 zal)) (zaa (zcp (zaa (dv 3) (zaa (dv 4) zal))) zal))))))))
def zfX (F:Fun K "none_paper" "none_paper" zb7 f fd) (T:Bt mg) (og:Cal P w K mg base "some_paper" 11 ["size","runs","many","one","other"] (spD K 5 zaY)) (oD:Cal P w K mg base "reading" 4 ["size","runs","many"] (spD K 3 zcx)):FnOk P w K mg base CX0 12 f fd ["size","runs","many"] (spD K 3 zbu):=
 zcc (N:=["size","runs","many"]) F fun _ _=>
 (zao (s_if (zkf (zam oD (zaa (dv 0) (zaa (dv 1) (zaa (dv 2) zal))))) (zaK (zbr zj4)) zed)
  (zaK (zbr (zam og (zaa (dv 0) (zaa (dv 1) (zaa (dv 2) (zaa zaq (zaa zaq zal)))))))))
def zkB (F:Fun K "lifted" "lifted" zeA f fd) (T:Bt mg) (ow:Cal P w K mg base "groups" 3 ["size","runs"] (spD K 2 zcR)):FnOk P w K mg base CX0 4 f fd ["size","runs","heights","mark"] (spD K 4 zdc):=
 zcc (N:=["size","runs","heights","mark","higher","group","each"]) F fun _ _=>
 (zao (zlE 4 (zfn (dv 2)))
  (zao (zdL (.nm 5) (zck (zam ow (zaa (dv 0) (zaa (dv 1) zal)))) (gn 5) (zaK (s_if (t_in (dv 3) (dv 5)) (zaK (zdL (.nm 6) (zck (dv 5)) (gn 6) (zaK (znf 4 (dv 6) zaq)))) zed)))
  (zaK (zjQ 4 (zbr (dv 4))))))
def zcr (F:Fun K "readings_to_compare" "readings_to_compare" zaH f fd) (T:Bt mg) (oh:Cal P w K mg base "false_sets" 4 ["size","runs","many"] (spD K 3 zaV)) (ol:Cal P w K mg base "left" 1 ["runs","struck"] (spD K 2 zcz)) (oj:Cal P w K mg base "flat" 3 ["size","runs"] (spD K 2 zcW)) (oE:Cal P w K mg base "lifted" 4 ["size","runs","heights","mark"] (spD K 4 zdc)):FnOk P w K mg base CX0 5 f fd ["size","runs","many","mark"] (spD K 4 zaB):=
 zcc (N:=["size","runs","many","mark","found","false","kept","heights"]) F fun _ _=>
 (zao (zlE 4 (zd9 zal))
  (zao (zdL (.nm 5) (zck (zam oh (zaa (dv 0) (zaa (dv 1) (zaa (dv 2) zal))))) (gn 5) (zao (za4 6 (zam ol (zaa (dv 1) (zaa (dv 5) zal))))
  (zao (za4 7 (zam oj (zaa (dv 0) (zaa (dv 6) zal))))
  (zao (zlM 4 (zcp (zaa (DF.de (zfn (dv 5))) (zaa (dv 7) zal))))
  (zaK (zlM 4 (zcp (zaa (DF.de (zfn (dv 5))) (zaa (zam oE (zaa (dv 0) (zaa (dv 6) (zaa (dv 7) (zaa (dv 3) zal))))) zal)))))))))
  (zaK (zjQ 4 (zbr (dv 4))))))
def zeL (F:Fun K "rise_between" "rise_between" zbt f fd) (T:Bt mg)  : FnOk P w K mg base CX0 1 f fd ["heights","one","other"] (spD K 3 zaR):=
 zcc (N:=["heights","one","other"]) F fun _ _=>
 (zaK (zbr (ziQ (zb9 0 (dv 2)) (zb9 0 (dv 1)))))
def znd (F:Fun K "told" "told" zkN f fd) (T:Bt mg) (oi:Cal P w K mg base "readings_to_compare" 5 ["size","runs","many","mark"] (spD K 4 zaB)) (oo:Cal P w K mg base "rise_between" 1 ["heights","one","other"] (spD K 3 zaR)) (og:Cal P w K mg base "some_paper" 11 ["size","runs","many","one","other"] (spD K 5 zaY)) (oA:Cal P w K mg base "none_paper" 12 ["size","runs","many"] (spD K 3 zbu)):FnOk P w K mg base CX0 13 f fd ["size","runs","many","one","other"] (spD K 5 zd6):=
 zcc (N:=["size","runs","many","one","other","found","false","heights","rise","unlike","others"]) F fun _ _=>
 (zao (za4 5 (zam oi (zaa (dv 0) (zaa (dv 1) (zaa (dv 2) (zaa (dv 4) zal))))))
  (zao (s_if (znF (zm1 (dv 5))) (zaK (zbr (zcp (zaa zd1 (zaa (zam oA (zaa (dv 0) (zaa (dv 1) (zaa (dv 2) zal)))) zal))))) zed)
  (zao (zlD (.tp 2 (.cons (.nm 6) (.cons (.nm 7) .nil))) (zb9 5 zaq) (zdg (n:=2) rfl (zag (gn 6) (zag (gn 7) zaG))))
  (zao (za4 8 (zam oo (zaa (dv 7) (zaa (dv 3) (zaa (dv 4) zal)))))
  (zao (zdL (.tp 2 (.cons (.nm 9) (.cons (.nm 10) .nil))) (zck (dv 5)) (zdg (n:=2) rfl (zag (gn 9) (zag (gn 10) zaG))) (zaK (s_if (t_ne (zam oo (zaa (dv 10) (zaa (dv 3) (zaa (dv 4) zal)))) (dv 8)) (zaK (zbr (zcp (zaa zd1 (zaa (zcp (zaa (dv 6) (zaa (dv 7) zal))) (zaa (zcp (zaa (dv 9) (zaa (dv 10) zal))) zal)))))) zed)))
  (zaK (zbr (zcp (zaa zd1 (zaa (dv 8) (zaa (zam og (zaa (dv 0) (zaa (dv 1) (zaa (dv 2) (zaa (dv 3) (zaa (dv 4) zal)))))) zal)))))))))))
def zkG (F:Fun K "places" "places" zeB f fd) (T:Bt mg) (oj:Cal P w K mg base "flat" 3 ["size","runs"] (spD K 2 zcW)) (ow:Cal P w K mg base "groups" 3 ["size","runs"] (spD K 2 zcR)):FnOk P w K mg base CX0 4 f fd ["size","runs"] (spD K 2 zds):=
 zcc (N:=["size","runs","heights","found","group","mark"]) F fun _ _=>
 (zao (za4 2 (zam oj (zaa (dv 0) (zaa (dv 1) zal))))
  (zao (znV 3 (Nc:=["mark"]) (.nm 0) (zb8 (dv 0)) (gn 0) zbb (zcp (zaa (dv 0) (zaa zaq zal))))
  (zao (zdL (.nm 4) (zck (zam ow (zaa (dv 0) (zaa (dv 1) zal)))) (gn 4) (zaK (zdL (.nm 5) (zck (dv 4)) (gn 5) (zaK (zp5 3 (zcp (zaa (zb9 4 zaq) (zaa (zb9 2 (dv 5)) zal))) (dv 5))))))
  (zaK (zjQ 3 (zbr (dv 3)))))))
def zfd (F:Fun K "sure_groups" "sure_groups" zbJ f fd) (T:Bt mg) (oF:Cal P w K mg base "places" 4 ["size","runs"] (spD K 2 zds)) (ol:Cal P w K mg base "left" 1 ["runs","struck"] (spD K 2 zcz)) (oh:Cal P w K mg base "false_sets" 4 ["size","runs","many"] (spD K 3 zaV)):FnOk P w K mg base CX0 5 f fd ["size","runs","many"] (spD K 3 zbk):=
 zcc (N:=["size","runs","many","tables","together","mark","level","key"]) F fun _ _=>
 (zao (zkz 3 (Nc:=["false","size","runs"]) (.nm 0) (zck (zam oh (zaa (dv 0) (zaa (dv 1) (zaa (dv 2) zal))))) (gn 0) zbb (zam oF (zaa (dv 1) (zaa (zam ol (zaa (dv 2) (zaa (dv 0) zal))) zal))))
  (zao (s_if (znF (zm1 (dv 3))) (zaK (zbr zj4)) zed)
  (zpE 4 5 6 7 (zb8 (dv 0)) (d_ix (d_ix (zb9 3 zaq) (dv 5)) zaq) (zj1 (zaa (DF.de (zbI (Nc:=["lowest","height","level"]) (.tp 2 (.cons (.nm 0) (.cons (.nm 1) .nil))) (zck (DF.de (zbI (Nc:=["table","mark"]) (.nm 0) (zck (dv 3)) (gn 0) zbb (zb9 0 (dv 1))))) (zdg (n:=2) rfl (zag (gn 0) (zag (gn 1) zaG))) zbb (zcp (zaa (dv 0) (zaa (ziQ (dv 1) (dv 2)) zal))))) zal)))))
def zfS (F:Fun K "_law_great" "_law_great" zgv f fd) (T:Bt mg) (oa:Cal P w K mg base "_law_take" 1 ["_law_box_here","_law_many"] (spD K 2 zah)):FnOk P w K mg base CX0 2 f fd ["_law_box_here"] (spD K 1 zbc):=
 zcc (N:=["_law_box_here","_law_ways","_law_found","_law_k"]) F fun _ _=>
 (zao (za4 1 (zam oa (zaa (dv 0) (zaa zaq zal))))
  (zao (s_if (t_eq (dv 1) zaq) (zaK (zbr (zam oa (zaa (dv 0) (zaa zaq zal))))) zed)
  (zao (s_if (t_eq (dv 1) zaq) (zaK (zbr (zam oa (zaa (dv 0) (zaa zaq zal))))) zed)
  (zao (za4 2 zaq)
  (zao (zdL (.nm 3) (zb8 zaq) (gn 3) (zaK (za4 2 (zdr (zmS (dv 2) zaq) (zam oa (zaa (dv 0) (zaa zaq zal)))))))
  (zaK (zbr (dv 2))))))))
def zdm (F:Fun K "_law_other_rise" "_law_other_rise" zgJ f fd) (T:Bt mg) (oa:Cal P w K mg base "_law_take" 1 ["_law_box_here","_law_many"] (spD K 2 zah)) (ou:Cal P w K mg base "_law_great" 2 ["_law_box_here"] (spD K 1 zbc)):FnOk P w K mg base CX0 3 f fd ["_law_box_here","_law_rise"] (spD K 2 zaL):=
 zcc (N:=["_law_box_here","_law_rise"]) F fun _ _=>
 (zaK (zbr (zdr (dv 1) (d_ix (DF.de (zd9 (zaa zaq (zaa (zns zaq) (zaa (zdr zaq (zam oa (zaa (dv 0) (zaa zaq zal)))) (zaa (zam ou (zaa (dv 0) zal)) (zaa (zns (zam ou (zaa (dv 0) zal))) zal))))))) (zam oa (zaa (dv 0) (zaa zaq zal)))))))
def zfY (F:Fun K "_law_world" "_law_world" zgX f fd) (T:Bt mg) (oa:Cal P w K mg base "_law_take" 1 ["_law_box_here","_law_many"] (spD K 2 zah)) (oq:Cal P w K mg base "_law_other_rise" 3 ["_law_box_here","_law_rise"] (spD K 2 zaL)):FnOk P w K mg base CX0 4 f fd ["_law_box_here","_law_most_marks","_law_most_hands","_law_most_runs"] (spD K 4 zbw):=
 zcc (N:=["_law_box_here","_law_most_marks","_law_most_hands","_law_most_runs","_law_size","_law_hands","_law_wide","_law_heights","_law_names","_law_false","_law_bad","_law_runs","_law_k","_law_one","_law_other","_law_hand","_law_rise"]) F fun _ _=>
 (zao (za4 4 (zdr zaq (zam oa (zaa (dv 0) (zaa (dv 1) zal)))))
  (zao (za4 5 (zdr zaq (zam oa (zaa (dv 0) (zaa (dv 2) zal)))))
  (zao (za4 6 (d_ix (DF.de (zd9 (zaa zaq (zaa zaq (zaa (zpU zaq zaq) zal))))) (zam oa (zaa (dv 0) (zaa zaq zal)))))
  (zao (zkz 7 (Nc:=["_law_k","_law_box_here","_law_wide"]) (.nm 0) (zb8 (dv 4)) (gn 0) zbb (zam oa (zaa (dv 1) (zaa (dv 2) zal))))
  (zao (za4 8 (DF.de (zbI (Nc:=["_law_k","_law_box_here"]) (.nm 0) (zb8 (dv 5)) (gn 0) zbb (d_if (t_eq (zam oa (zaa (dv 1) (zaa zaq zal))) zaq) (zn3 (zmS zaq (dv 0)) zaq) (dv 0)))))
  (zao (za4 9 (DF.de (zkx (DF.de (zbI (Nc:=["_law_k","_law_names","_law_box_here","_law_hands"]) (.nm 0) (zb8 (zam oa (zaa (dv 0) (zaa zaq zal)))) (gn 0) zbb (zb9 1 (zam oa (zaa (dv 2) (zaa (dv 3) zal)))))))))
  (zao (za4 10 (zdr zaq (zam oa (zaa (dv 0) (zaa zaq zal)))))
  (zao (zlE 11 (zd9 zal))
  (zao (zdL (.nm 12) (zb8 (zmS (zam oa (zaa (dv 0) (zaa (zdr (dv 3) zaq) zal))) (zpg (zaa (d_gt (dv 4) zaq) zal)))) (gn 12) (zao (za4 13 (zam oa (zaa (dv 0) (zaa (dv 4) zal))))
  (zao (za4 14 (zn3 (zdr (zdr (dv 13) zaq) (zam oa (zaa (dv 0) (zaa (ziQ (dv 4) zaq) zal)))) (dv 4)))
  (zao (za4 15 (zb9 8 (zam oa (zaa (dv 0) (zaa (dv 5) zal)))))
  (zao (za4 16 (ziQ (zb9 7 (dv 14)) (zb9 7 (dv 13))))
  (zao (s_if (DW.dt (zpo (t_in (dv 15) (dv 9)) (zpf (t_lt (zam oa (zaa (dv 0) (zaa zaq zal))) (dv 10))))) (zaK (za4 16 (zam oq (zaa (dv 0) (zaa (dv 16) zal))))) zed)
  (zaK (zlM 11 (zcp (zaa (dv 13) (zaa (dv 14) (zaa (dv 16) (zaa (dv 15) zal)))))))))))))
  (zaK (zjQ 11 (zbr (zcp (zaa (dv 4) (zaa (dv 11) (zaa (dv 7) (zaa (dv 9) zal)))))))))))))))))
def zos (F:Fun K "law" "law" sLaw f fd) (T:Bt mg) (cB:Cal P w K mg base "_law_box" 1 ["_law_script"] (Fen.zmZ K)) (oC:Cal P w K mg base "_law_world" 4 ["_law_box_here","_law_most_marks","_law_most_hands","_law_most_runs"] (spD K 4 zbw)) (oa:Cal P w K mg base "_law_take" 1 ["_law_box_here","_law_many"] (spD K 2 zah)) (oz:Cal P w K mg base "sure_groups" 5 ["size","runs","many"] (spD K 3 zbk)) (oH:Cal P w K mg base "told" 13 ["size","runs","many","one","other"] (spD K 5 zd6)) (hw:lawW 14 zc9):FnOk P w K mg base CX0 14 f fd ["_law_script"] (zja K):=by
 refine zom (N:=["_law_size","_law_runs","_law_heights","_law_false","_law_many","_law_some","_law_spots","_law_home","_law_rises","_law_one","_law_other","_law_found","_law_together","_law_third"]) (k:=13) F rfl cB (fun _ _=>?_) hw
 unfold zc9
 exact (zao (zlD (.tp 4 (.cons (.nm 2) (.cons (.nm 3) (.cons (.nm 4) (.cons (.nm 5) .nil))))) (zam oC (zaa (dv 1) (zaa zaq (zaa zaq (zaa zaq zal))))) (zdg (n:=4) rfl (zag (gn 2) (zag (gn 3) (zag (gn 4) (zag (gn 5) zaG))))))
  (zao (za4 6 (zam oa (zaa (dv 1) (zaa zaq zal))))
  (zao (za4 7 (zam oz (zaa (dv 2) (zaa (DF.de (zfn (dv 3))) (zaa (dv 6) zal)))))
  (zao (za4 8 (DF.de (zbI (Nc:=["_law_k","_law_box_here","_law_size"]) (.nm 0) (zb8 zaq) (gn 0) zbb (zam oa (zaa (dv 1) (zaa (dv 2) zal))))))
  (zao (s_if (zoo (dv 7)) (zaK (zbr (zoJ (zaa (DF.de (zbI (Nc:=["_law_at","_law_size","_law_many","_law_runs","_law_spots"]) (.nm 0) (zb8 (dv 2)) (gn 0) zbb (d_eq (d_ix (zam oH (zaa (dv 1) (zaa (DF.de (zfn (dv 3))) (zaa (dv 2) (zaa (zb9 4 zaq) (zaa (dv 0) zal)))))) zaq) zd1))) zal)))) zed)
  (zao (za4 9 (zb9 7 (zam oa (zaa (dv 1) (zaa (zin 7) zal)))))
  (zao (za4 8 (zdr (dv 8) (DF.de (zbI (Nc:=["_law_k","_law_home","_law_box_here"]) (.nm 0) (zb8 zaq) (gn 0) zbb (zb9 1 (zam oa (zaa (dv 2) (zaa (zin 1) zal))))))))
  (zpk 10 8 11 12 13 14 15 (zam oH (zaa (dv 2) (zaa (DF.de (zfn (dv 3))) (zaa (dv 6) (zaa (dv 11) (zaa (dv 12) zal)))))) (zpq (zaa (DF.de (zbI (Nc:=["_law_row","_law_one","_law_other"]) (.nm 0) (zck (dv 7)) (gn 0) zbb (zpD (d_in (dv 1) (dv 0)) (zpl (d_in (dv 2) (dv 0)))))) zal)) (t_ne (zb9 13 zaq) (d_ix (DF.de (zd9 (zaa zd1 (zaa zd1 zal)))) (zpg (zaa (dv 14) zal)))) (zb9 13 zaq)))))))))
end
end Fd
namespace Hd
open PySem L2 Fen PySem.W PySem.Calls PyProof.Rows
noncomputable section
noncomputable abbrev dE (P:Params) (k:Str) (n:Nat) (v:Value):DictEntry:=⟨PyData.keyHash P k,.str k n,v⟩
noncomputable def dN:Stmt->Str
 | .FunctionDef x ..=>x
 | _ => ""
noncomputable abbrev cO (s:Stmt) (a:Nat) (l:Int) (lt:Nat) (n:Int) (v:Addr) (g h:Value) (q:Addr) (d:Nat):Obj:=⟨.type "code",none,.fields #[.str (dN s) a,.str (dN s) (a+1),.str "/claim/cut.py" (a+2),.int l lt,.int n 0,.int 0 0,.int 0 0,.int 3 0,.ref v,.bool true,.int 181 0,.ref (v+1),.none,g,h,.ref q,.int (d-1) 0,.int l lt,.str "/claim/cut.py" d],#[]⟩
noncomputable abbrev cP (s:Stmt) (a:Nat) (l:Int) (lt:Nat) (n:Int) (v:Addr) (d:Nat):Obj:=cO s a l lt n v .none .none (v+2) d
noncomputable abbrev fD (x:Str) (s:Stmt) (m:Str) (t:Nat) (c:Addr):FuncData:=PySem.W.fnOf x x (zcB s) (zbE s) (zan s) .none .none .none (.str m t) none (.ref c) .none
noncomputable abbrev fO (s:Stmt) (m:Str) (t:Nat) (c:Addr):Obj:=⟨.type "function",none,.func (fD (dN s) s m t c),#[]⟩
noncomputable abbrev fI (s:Stmt):Obj:=⟨.none,none,.func ⟨dN s,dN s,zcB s,.stmts (zbE s),zan s,0,[],.none,.none,.none,.none,none,.none,.none,0⟩,#[]⟩
noncomputable abbrev cT:Obj:=⟨.type "tuple",none,.seq #[] 0,#[]⟩
noncomputable abbrev cF:Obj:=⟨.none,none,.fields #[],#[]⟩
noncomputable def tS:Nat->List Str->List Value
 | _,[]=>[]
 | n,x :: l=>.str x n :: tS (n + 1) l
noncomputable abbrev cN (n:Nat) (l:List Str):Obj:=⟨.type "tuple",none,.seq (tS n l).toArray 0,#[]⟩
noncomputable def cV:List (Int × Nat × Nat)->List Value
 | []=>[]
 | (l,t,c) :: r=>.int l t :: .int 0 0 :: .ref c :: cV r
noncomputable def bT (f:Nat->Obj) (n:Nat):Nat->Nat->Nat->BT
 | 0,_,_=>.nil
 | k + 1,a,b=>match Nat.blt b n with
  | true=>.node (f b) (bT f n k (Nat.mul 2 a) (Nat.add a b)) (bT f n k (Nat.mul 2 a) (Nat.add (Nat.mul 2 a) b))
  | false=>.nil
noncomputable abbrev u0:Str := "fenlevel.trees"
noncomputable abbrev u1:Str := "fenlevel.runs"
noncomputable abbrev u2:Str := "fenlevel.readings"
noncomputable abbrev u3:Str := "fenlevel.rings"
noncomputable abbrev u4:Str := "fenlevel.papers"
noncomputable abbrev u5:Str := "fenlevel.sure"
noncomputable abbrev u6:Str := "law_fenlevel_k17_whole_sure_goes_on"
noncomputable def c0 (P:Params) (d c:Obj):List Obj:=[PySem.W.boot_o_0 P,PySem.W.boot_o_1 P,PySem.W.boot_o_2 P,d,PySem.W.boot_o_4 P,PySem.W.boot_o_5 P,PySem.W.boot_o_6 P,PySem.W.boot_o_7 P,PySem.W.boot_o_8 P,PySem.W.boot_o_9 P,PySem.W.boot_o_10 P,cT,c,⟨.type "code",none,.fields #[.str "<module>" 182,.str "<module>" 183,.str "/claim/cut.py" 184,.int 1 0,.int 0 0,.int 0 0,.int 0 0,.int 0 0,.ref 11,.bool false,.int 181 0,.ref 12,.none,.none,.none,.none,.int 185 0,.int 1 0,.str "/claim/cut.py" 186],#[]⟩,⟨.type "frame",none,.plain,#[some (.ref 13),some (.ref 3),some (.ref 3),none,some (.str "__main__" 164),none,some (.ref 0)]⟩,cT,cF,fI zbl,cP zbl 189 2 0 3 15 193,fO zbl u0 187 18,cT,cF,cN 198 ["start","steps","tree","newest","fresh","mark","height","line","number","end","rise"],cT]
noncomputable def c1 (P:Params):List Obj:=[fI zb6,cO zb6 195 9 0 2 20 (.ref 22) (.ref 23) 24 210,fO zb6 u0 187 25,cT,cF,cN 215 ["size","runs","struck","steps","trees","reached","mark","tree"],cT,fI zcL,cO zcL 212 22 0 3 27 (.ref 29) (.ref 30) 31 224,fO zcL u0 187 32,cT,cF,fI zdq,cP zdq 228 33 0 1 34 232,fO zdq u1 226 37,cT,cF,fI zjp,cP zjp 234 35 0 2 39 238,fO zjp u1 226 42,cT,cF,fI zdf,cP zdf 240 37 0 2 44 244]
noncomputable def c2 (P:Params):List Obj:=[fO zdf u1 226 47,cT,cF,fI zcI,cP zcI 246 39 0 2 49 250,fO zcI u1 226 52,cT,cF,cN 255 ["size","runs","heights","tree","mark","height","line"],cT,fI zhI,cO zhI 252 41 0 2 54 (.ref 56) (.ref 57) 58 263,fO zhI u1 226 59,cT,cF,fI zdB,cP zdB 267 50 0 2 61 271,fO zdB u2 265 64,cT,cF,cN 276 ["size","runs","many","hands","found","length","struck"],cT,fI zbW,cO zbW 273 55 0 3 66 (.ref 68) (.ref 69) 70 284]
noncomputable def c3 (P:Params):List Obj:=[fO zbW u2 265 71,cT,cF,cN 289 ["size","runs","many","hands","length","struck","heights"],cT,fI zdz,cO zdz 286 63 0 3 73 (.ref 75) (.ref 76) 77 297,fO zdz u2 265 78,cT,cF,fI zb1,cP zb1 301 72 0 2 80 305,fO zb1 u3 299 83,cT,cF,cN 310 ["size","runs","struck","one","other","tree","height","line"],cT,fI zbC,cO zbC 307 74 0 5 85 (.ref 87) (.ref 88) 89 319,fO zbC u3 299 90,cT,cF,cN 324 ["first","second","shared"],cT]
noncomputable def c4 (P:Params):List Obj:=[fI zdT,cO zdT 321 80 0 2 92 (.ref 94) (.ref 95) 96 328,fO zdT u3 299 97,cT,cF,cN 333 ["size","runs","struck","reached","tree","number","one","other","rise","hand","low","to_one","high","to_other"],cT,fI zbH,cO zbH 330 85 0 3 99 (.ref 101) (.ref 102) 103 348,fO zbH u3 299 104,cT,cF,fI zbj,cP zbj 352 96 0 5 106 356,fO zbj u4 350 109,cT,cF,cN 361 ["size","runs","many","one","other"],cT,fI zb0,cO zb0 358 107 0 5 111 (.ref 113) (.ref 114) 115 367,fO zb0 u4 350 116,cT,cF]
noncomputable def c5 (P:Params):List Obj:=[cN 372 ["size","runs","many"],cT,fI zb7,cO zb7 369 109 0 3 118 (.ref 120) (.ref 121) 122 376,fO zb7 u4 350 123,cT,cF,cN 383 ["size","runs","heights","mark","higher","group","each"],cT,fI zeA,cO zeA 380 114 0 4 125 (.ref 127) (.ref 128) 129 391,fO zeA u5 378 130,cT,cF,cN 396 ["size","runs","many","mark","found","false","kept","heights"],cT,fI zaH,cO zaH 393 121 0 4 132 (.ref 134) (.ref 135) 136 405,fO zaH u5 378 137,cT,cF,cN 410 ["heights","one","other"],cT,fI zbt]
noncomputable def c6 (P:Params):List Obj:=[cO zbt 407 129 0 3 139 (.ref 141) (.ref 142) 143 414,fO zbt u5 378 144,cT,cF,cN 419 ["size","runs","many","one","other","found","false","heights","rise","unlike","others"],cT,fI zkN,cO zkN 416 131 0 5 146 (.ref 148) (.ref 149) 150 431,fO zkN u5 378 151,cT,cF,fI zeB,cP zeB 433 141 0 2 153 437,fO zeB u5 378 156,cT,cF,fI zbJ,cP zbJ 439 148 0 3 158 443,fO zbJ u5 378 161,cT,cF,cN 450 ["_law_script"],cT,fI sBox]
noncomputable def c7 (P:Params):List Obj:=[cO sBox 447 159 0 1 163 (.ref 165) (.ref 166) 167 452,fO sBox u6 445 168,cT,cF,cN 457 ["_law_box_here","_law_many","_law_rest","_law_cell","_law_seed"],cT,fI zhb,cO zhb 454 161 0 2 170 (.ref 172) (.ref 173) 174 463,fO zhb u6 445 175,cT,cF,cN 468 ["_law_box_here","_law_ways","_law_found","_law_k"],cT,fI zgv,cO zgv 465 177 0 1 177 (.ref 179) (.ref 180) 181 473,fO zgv u6 445 182,cT,cF,cN 478 ["_law_box_here","_law_rise"],cT,fI zgJ,cO zgJ 475 187 0 2 184 (.ref 186) (.ref 187) 188 481,fO zgJ u6 445 189,cT]
noncomputable def c8 (P:Params):List Obj:=[cF,fI zgX,cP zgX 483 189 0 4 191 487,fO zgX u6 445 194,cT,cF,fI sLaw,cP sLaw 489 207 0 1 196 493,fO sLaw u6 445 199]
noncomputable def oB (P:Params) (d c:Obj):List Obj:=c0 P d c ++ (c1 P ++ (c2 P ++ (c3 P ++ (c4 P ++ (c5 P ++ (c6 P ++ (c7 P ++ (c8 P))))))))
noncomputable def e3 (P:Params):List DictEntry:=[dE P "__doc__" 166 (.none),dE P "__package__" 167 (.none),dE P "__loader__" 168 (.builtin "__main__.__loader__#opaque"),dE P "__spec__" 169 (.none),dE P "__annotations__" 170 (.ref 6),dE P "__builtins__" 171 (.ref 4),dE P "__file__" 173 (.str "/claim/cut.py" 172),dE P "__cached__" 174 (.none),dE P "steps_from" 194 (.ref 19),dE P "tree_from" 211 (.ref 26),dE P "trees_of" 225 (.ref 33),dE P "hands_of" 233 (.ref 38),dE P "left" 239 (.ref 43),dE P "holds" 245 (.ref 48),dE P "groups" 251 (.ref 53),dE P "flat" 264 (.ref 60),dE P "lists_of" 272 (.ref 65),dE P "false_sets" 285 (.ref 72),dE P "reading" 298 (.ref 79),dE P "line_hands" 306 (.ref 84),dE P "some_line" 320 (.ref 91),dE P "across" 329 (.ref 98),dE P "open_ring" 349 (.ref 105),dE P "paper_without" 357 (.ref 110),dE P "some_paper" 368 (.ref 117),dE P "none_paper" 377 (.ref 124),dE P "lifted" 392 (.ref 131),dE P "readings_to_compare" 406 (.ref 138),dE P "rise_between" 415 (.ref 145),dE P "told" 432 (.ref 152),dE P "places" 438 (.ref 157),dE P "sure_groups" 444 (.ref 162),dE P "_law_box" 453 (.ref 169),dE P "_law_take" 464 (.ref 176),dE P "_law_great" 474 (.ref 183),dE P "_law_other_rise" 482 (.ref 190),dE P "_law_world" 488 (.ref 195),dE P "law" 494 (.ref 200)]
noncomputable def d3 (P:Params) (x:Str) (t k:Nat):Obj:=⟨.type "dict",none,.dict (dE P "__name__" 165 (.str x t) :: (e3 P).take k).toArray (k + 1),#[]⟩
noncomputable def v4:List Value:=cV [(2,0,18),(9,0,25),(22,0,32),(33,0,37),(35,0,42),(37,0,47),(39,0,52),(41,0,59),(50,0,64),(55,0,71),(63,0,78),(72,0,83),(74,0,90),(80,0,97),(85,0,104),(96,0,109),(107,0,116),(109,0,123),(114,0,130),(121,0,137),(129,0,144),(131,0,151),(141,0,156),(148,0,161),(159,0,168),(161,0,175),(177,0,182),(187,0,189),(189,0,194),(207,0,199)]
noncomputable def d4 (k:Nat):Obj:=⟨.none,none,.fields (v4.take k).toArray,#[]⟩
noncomputable def bE:List Stmt:=PySem.W.behindTheImports PySem.Challenge.pw_fenlevel_k17_whole_sure_goes_on
noncomputable def eN:PySem.Env:={ scope:=(PySem.Challenge.pw_fenlevel_k17_whole_sure_goes_on).main.scope,locals:=mainNs,globals:=mainNs,cells:=[],code:=.ref 13,frame:=some 14 }
noncomputable def cB:Code:=.body bE eN
noncomputable def fB:List Frame:=[topFrame ⟨0,0,0,0⟩]
noncomputable def sA (w:PySem.World) (os:OsState):Shared:=⟨⟨⟨(oB w.params (d3 w.params "__main__" 164 8) (d4 0)).take 15⟩,{}⟩,#[],{},187,os⟩
noncomputable def sB0 (w:PySem.World) (os:OsState):SharedT:=⟨bT (fun i=>(oB w.params (d3 w.params "__main__" 164 8) (d4 0)).getD i cT) 15 12 1 0,15,{},#[],{},187,os⟩
noncomputable def sB1 (w:PySem.World) (os:OsState):SharedT:=⟨bT (fun i=>(oB w.params (d3 w.params "fenlevel.rings" 299 20) (d4 36)).getD i cT) 85 12 1 0,85,{},#[],{},307,os⟩
noncomputable def sB2 (w:PySem.World) (os:OsState):SharedT:=⟨bT (fun i=>(oB w.params (d3 w.params "fenlevel.sure" 378 31) (d4 69)).getD i cT) 158 12 1 0,158,{},#[],{},439,os⟩
noncomputable def sB3 (w:PySem.World) (os:OsState):SharedT:=⟨bT (fun i=>(oB w.params (d3 w.params "law_fenlevel_k17_whole_sure_goes_on" 445 38) (d4 90)).getD i cT) 201 12 1 0,201,{},#[],{},495,os⟩
noncomputable def hE (P:Params):Heap:=⟨⟨oB P (d3 P "law_fenlevel_k17_whole_sure_goes_on" 445 38) (d4 90)⟩,{}⟩
noncomputable def St0:Prop:=∀ (w:PySem.World) (os:OsState),topGo treeTable PySem.Challenge.pw_fenlevel_k17_whole_sure_goes_on w 11 (some (.ref 6)) 12 ⟨PySem.W.boot_heap w.params,Array.mk [],PySem.W.boot_drawn,PySem.W.boot_toks,os⟩ (topStub PySem.Challenge.pw_fenlevel_k17_whole_sure_goes_on) = some (sA w os,⟨denote treeTable cB,cB,⟨0,0,0,0⟩,fB⟩)
noncomputable def St1:Prop:=∀ (w:PySem.World) (os:OsState),segRun treeTable PySem.Challenge.pw_fenlevel_k17_whole_sure_goes_on w 11 (some (.ref 6)) 1 1 (sA w os) (blockOf bE eN cB ⟨0,0,0,0⟩ fB) = some (.next,(sB0 w os).abs,cB,⟨0,0,0,0⟩)
noncomputable def St2:Prop:=∀ (w:PySem.World) (os:OsState),segRunT treeTable PySem.Challenge.pw_fenlevel_k17_whole_sure_goes_on w 11 (some (.ref 6)) 1 399 (sB0 w os) (piecesOf ((bE.drop 0).take 16) eN cB ⟨0,0,0,0⟩ fB) = some (.next,sB1 w os,cB,⟨72,0,73,54⟩)
noncomputable def St3:Prop:=∀ (w:PySem.World) (os:OsState),segRunT treeTable PySem.Challenge.pw_fenlevel_k17_whole_sure_goes_on w 11 (some (.ref 6)) 1 385 (sB1 w os) (piecesOf ((bE.drop 16).take 13) eN cB ⟨72,0,73,54⟩ fB) = some (.next,sB2 w os,cB,⟨141,0,147,16⟩)
noncomputable def St4:Prop:=∀ (w:PySem.World) (os:OsState),segRunT treeTable PySem.Challenge.pw_fenlevel_k17_whole_sure_goes_on w 11 (some (.ref 6)) 1 212 (sB2 w os) (piecesOf ((bE.drop 29).take 8) eN cB ⟨141,0,147,16⟩ fB) = some (.next,sB3 w os,cB,⟨207,0,233,15⟩)
noncomputable def St5:Prop:=∀ (w:PySem.World) (os:OsState),topRun treeTable PySem.Challenge.pw_fenlevel_k17_whole_sure_goes_on w 11 (some (.ref 6)) 2 (sB3 w os).abs ⟨doneF .next,cB,⟨207,0,233,15⟩,fB⟩ = some ⟨hE w.params,#[],{},495,os⟩
noncomputable def vw:Program:={ PySem.Challenge.pw_fenlevel_k17_whole_sure_goes_on with main:={ (PySem.Challenge.pw_fenlevel_k17_whole_sure_goes_on).main with body:=[top 1,top 2,top 3,top 5,top 6,top 7,top 8,top 9,top 11,top 12,top 13,top 15,top 16,top 17,top 18,top 20,top 21,top 22,top 24,top 25,top 26,top 27,top 28,top 29,top 31,top 32,top 33,top 34,top 35,top 36] } }
noncomputable def hA:List Addr:=[3,18,19,25,26,32,33,37,38,42,43,47,48,52,53,59,60,64,65,71,72,78,79,83,84,90,91,97,98,104,105,109,110,116,117,123,124,130,131,137,138,144,145,151,152,156,157,161,162,168,169,175,176,182,183,189,190,194,195,199,200]
noncomputable def hK (P:Params):List (Nat × Obj):=hA.map fun a=>(a,(oB P (d3 P "law_fenlevel_k17_whole_sure_goes_on" 445 38) (d4 90)).getD a cT)
noncomputable def hH:PySem.W.Hook:=kHook hK hA (fun _=>by kernel_rfl)
noncomputable def xT (s:Shared):Bool:=xlAt vw [] s && recOk (RowW.records (PySem.Challenge.rw_fenlevel_k17_whole_sure_goes_on).row.toRowW) s
noncomputable def StZ:Prop:=∀ w:PySem.World,((PySem.W.boot_heap w.params).isNs mainGlobals && (Array.mk []:Array GenState).size == 0,(PySem.W.boot_heap w.params).objs.size,(PySem.W.boot_heap w.params).nsMap mainGlobals "__annotations__") = (true,11,some (.ref 6))
noncomputable def StA:Prop:=∀ (w:PySem.World) (os:OsState),(staticsOk (importedModules (PySem.Challenge.pw_fenlevel_k17_whole_sure_goes_on).main.body) (PySem.W.boot_heap w.params) (hE w.params) && namesBound PySem.Challenge.pw_fenlevel_k17_whole_sure_goes_on (hE w.params) && gensDone ⟨hE w.params,#[],{},495,os⟩ && laidKept (PySem.W.boot_heap w.params) (hE w.params)) = true
noncomputable def StB:Prop:=∀ (w:PySem.World) (os:OsState),openSeen vw [] (importedModules (PySem.Challenge.pw_fenlevel_k17_whole_sure_goes_on).main.body) xT true ⟨hE w.params,#[],{},495,os⟩ = openGood vw []
noncomputable def StC:Prop:=∀ (w:PySem.World) (os:OsState),hH.obs ⟨hE w.params,#[],{},495,os⟩ = hH.val w
def pr0:(Function.const Prop true (St0/\St1/\St2/\St3/\St4/\St5/\StZ/\StA/\StB/\StC)) = true:=by k_qdec
def th0:St0:=PySem.W.Fast.te937873346748051313.mpr (fun _ _=>by kernel_rfl)
def th1:St1:=PySem.W.Fast.te13982121027552719780.mpr (fun _ _=>by kernel_rfl)
def th2:St2:=PySem.W.Fast.te10105581574835445100.mpr (fun _ _=>by kernel_rfl)
def th3:St3:=PySem.W.Fast.te16437609458486848278.mpr (fun _ _=>by kernel_rfl)
def th4:St4:=PySem.W.Fast.te13904560402631476566.mpr (fun _ _=>by kernel_rfl)
def th5:St5:=PySem.W.Fast.te6988618110474044161.mpr (fun _ _=>by kernel_rfl)
def thZ:StZ:=PySem.W.Fast.te16988565736444548789.mpr (fun _=>by kernel_rfl)
def thA:StA:=PySem.W.Fast.te17744963595637626835.mpr (fun _ _=>by kernel_rfl)
def thB:StB:=PySem.W.Fast.te8016293489012441566.mpr (fun _ _=>by kernel_rfl)
def thC:StC:=PySem.W.Fast.te1647357278597937641.mpr (fun _ _=>by kernel_rfl)
def gr {tb:String->Option Builtin} {p:Program} {w:PySem.World} {n₀:Nat} {ann:Option Value} {env:PySem.Env} {q:Pos} {n N:Nat} {s s' r:Shared} {c:Code} {pos p':Pos} (l:List Stmt) (a k:Nat) (h:segRun tb p w n₀ ann 1 n s (piecesOf ((l.drop a).take k) env c pos [topFrame q]) = some (.next,s',c,p'))
  (z:topRun tb p w n₀ ann N s' (restOf (l.drop (a + k)) env c p' [topFrame q]) = some r):topRun tb p w n₀ ann (n + N) s (restOf (l.drop a) env c pos [topFrame q]) = some r:=by
 have:=piece_app (rest:=(l.drop a).drop k) h (by rw [List.drop_drop];exact z)
 rwa [YB6] at this
def zno:bE.drop 37 = []:=by kernel_rfl
def znE:∀ (w:PySem.World) (os:OsState),topRun treeTable PySem.Challenge.pw_fenlevel_k17_whole_sure_goes_on w 11 (some (.ref 6)) (12 + (1 + (399 + (385 + (212 + 2))))) ⟨PySem.W.boot_heap w.params,Array.mk [],PySem.W.boot_drawn,PySem.W.boot_toks,os⟩ (topStub PySem.Challenge.pw_fenlevel_k17_whole_sure_goes_on) = some ⟨hE w.params,#[],{},495,os⟩:=fun w os=>
 go_top (th0 w os) (piece_block (th1 w os) (gr bE 0 16 (segRun_of (th2 w os)) (gr bE 16 13 (segRun_of (th3 w os)) (gr bE 29 8 (segRun_of (th4 w os)) (by rw [zno];exact piece_nil (th5 w os))))))
def left_o:LeftO PySem.Challenge.pw_fenlevel_k17_whole_sure_goes_on vw [] xT hH.obs hH.val 2112:=
 LeftO.of_pieces (boot_open (by kernel_rfl) (by kernel_rfl) (fun _=>by kernel_rfl)) thZ znE (by kernel_rfl) fun w=>funext fun os=>looks_pair (thA w os) (looks_pair (thB w os) (thC w os))
end
end Hd
namespace Fd
open PySem L2 Fen Hd
def us0 {p:List Value->Prop} (k:p []):∀ us:List Value,us.length = 0->p us
 | [],_=>k
def usS {p:List Value->Prop} {n:Nat} (k:∀ (a:Value) (us:List Value),us.length = n->p (a :: us)):∀ us:List Value,us.length = n + 1->p us
 | a :: us,h=>k a us (Nat.succ.inj h)
noncomputable def fdOf (P:Params) (f:Addr):FuncData:=match List.lookup f (hK P) with
 | some ⟨_,_,.func d,_⟩=>d
 | _=>fD "" (.Pass ⟨0,0,0,0⟩) "" 0 0
noncomputable def fcOf (P:Params) (f:Addr):Addr:=match (fdOf P f).code with
 | .ref c=>c
 | _=>0
noncomputable def fmOf (P:Params) (f:Addr):Value:=(fdOf P f).pyModule
noncomputable abbrev fE (P:Params) (x:Str) (s:Stmt) (f:Addr):FuncData:=PySem.W.fnOf x x (zcB s) (zbE s) (zan s) .none .none .none (fmOf P f) none (.ref (fcOf P f)) .none
def fF {P:Params} (x:Str) (s:Stmt) (f:Addr) (l:List.lookup f (hK P) = some ⟨.type "function",none,.func (fE P x s f),#[]⟩:=by kernel_rfl) (y:PySem.W.codeIn (hK P) (.ref (fcOf P f)) x = true:=by kernel_rfl):Fun (hK P) x x s f (fE P x s f):=zo3 l y (by simp only [PySem.W.keepIn,l])
def mkC {P:Program} {w:PySem.World} {base h:Heap} {mg:Str->Option Value} (X:PySem.W.Frag.In (hK w.params) h) (G:h.Ns mainGlobals mg) {k:Nat} {ps:List Str} {sp:Sp} (x:Str) (s:Stmt) (f:Addr) (ok:∀ {fd:FuncData},Fun (hK w.params) x x s f fd->FnOk P w (hK w.params) mg base CX0 k f fd ps sp)
  (F:Fun (hK w.params) x x s f (fE w.params x s f):=by exact fF _ _ _) (m:PySem.W.nsIn (hK w.params) mainGlobals x = some (some (.ref f)):=by kernel_rfl)
  (b:∀ (kV doc pm:Value) (an:Option Addr) (cdv ct:Value) (us:List Value),us.length = ps.length->bindArgs (PySem.W.fnOf x x (zcB s) (zbE s) (zan s) .none kV doc pm an cdv ct) ⟨us,[]⟩ = pure (ps.zip us):=by (intro _ _ _ _ _ _;repeat (first | exact us0 rfl | refine usS fun _=>?_))):Cal P w (hK w.params) mg base x k ps sp:=
 Cal.of F (ok F) (YCq X G m) (F.binds b)
def all_mk {l:PySem.W.OpenLaw} {w:PySem.World} {h:Heap} {mg:Str->Option Value} {fa:Addr} (X:PySem.W.Frag.In (hK w.params) h) (G:h.Ns mainGlobals mg) (hfa:mg "law" = some (.ref fa)) :
  ∃ fd:FuncData,(∀ (s:Shared) (v:Value),BindsTo s fd ⟨[v],[]⟩ [("_law_script",v)])/\∀ base:Heap,PySem.W.Frag.In (hK w.params) base->base.Ns mainGlobals mg->FnOk l.prog w (hK w.params) mg base CX0 14 fa fd ["_law_script"] (zja (hK w.params)):=by
 have e:=hfa.symm.trans (YCq X G (v:=.ref 200) (by kernel_rfl))
 cases e
 have oR:∀ {x:Str},PySem.W.nsIn (hK w.params) mainGlobals x = some none->mg x = none:=PySem.W.mg_none_of X G
 have T:Bt mg:=⟨oR (by kernel_rfl),oR (by kernel_rfl),oR (by kernel_rfl),oR (by kernel_rfl),oR (by kernel_rfl),oR (by kernel_rfl),oR (by kernel_rfl),oR (by kernel_rfl),oR (by kernel_rfl),oR (by kernel_rfl),oR (by kernel_rfl),oR (by kernel_rfl),oR (by kernel_rfl),oR (by kernel_rfl),oR (by kernel_rfl),oR (by kernel_rfl)⟩
 have F:=fF (P:=w.params) "law" sLaw 200
 refine ⟨fE w.params "law" sLaw 200,fun s v=>.of_eq rfl,fun base _ _=>?_⟩
 have M:=@mkC l.prog w base h mg X G
 have F0:=fF (P:=w.params) "steps_from" zbl 19
 have b0:=F0.binds (ps:=["size","runs","struck"]) fun _ _ _ _ _ _=>usS fun _=>usS fun _=>usS fun _=>us0 rfl
 have m0:mg "steps_from" = _:=YCq X G (v:=.ref 19) (by kernel_rfl)
 have h_steps:=Fen.Cal.of F0 (Fen.zkX (P:=l.prog) (w:=w) (base:=base) F0 ⟨T.list,T.len,T.range⟩ T.enumerate) m0 b0
 have F1:=fF (P:=w.params) "tree_from" zb6 26
 have b1:=F1.binds (ps:=["start","steps"]) fun _ _ _ _ _ _=>usS fun _=>usS fun _=>us0 rfl
 have m1:mg "tree_from" = _:=YCq X G (v:=.ref 26) (by kernel_rfl)
 have h_tree:=Fen.Cal.of F1 (Fen.zng (P:=l.prog) (w:=w) (base:=base) F1 ) m1 b1
 have F2:=fF (P:=w.params) "trees_of" zcL 33
 have b2:=F2.binds (ps:=["size","runs","struck"]) fun _ _ _ _ _ _=>usS fun _=>usS fun _=>usS fun _=>us0 rfl
 have m2:mg "trees_of" = _:=YCq X G (v:=.ref 33) (by kernel_rfl)
 have h_trees:=Fen.Cal.of F2 (Fen.zk2 (P:=l.prog) (w:=w) (base:=base) F2 ⟨T.list,T.len,T.range⟩ h_steps h_tree) m2 b2
 have oe:=M "hands_of" zdq 38 fun F=>zhF F T
 have ol:=M "left" zjp 43 fun F=>zm4 F T
 have oI:=M "holds" zdf 48 fun F=>zf3 F T
 have ow:=M "groups" zcI 53 fun F=>zeU F ⟨T.all,T.isinstance,T.tuple,T.bool,T.int,T.str,T.sorted,T.set⟩ h_trees
 have F5:=fF (P:=w.params) "holds" zdf 48
 have b5:=F5.binds (ps:=["runs","heights"]) fun _ _ _ _ _ _=>usS fun _=>usS fun _=>us0 rfl
 have m5:mg "holds" = _:=YCq X G (v:=.ref 48) (by kernel_rfl)
 have h_holds:=Fen.Cal.of F5 (Fen.zf3 (P:=l.prog) (w:=w) (base:=base) F5 ⟨T.all,T.isinstance,T.tuple,T.bool,T.int,T.str,T.sorted,T.set⟩) m5 b5
 have oj:=M "flat" zhI 60 fun F=>zho F h_trees h_holds
 have om:=M "lists_of" zdB 65 fun F=>zhe F T
 have oh:=M "false_sets" zbW 72 fun F=>zf6 F T oe om oj ol
 have oD:=M "reading" zdz 79 fun F=>ziE F T oe om oj ol
 have ot:=M "line_hands" zb1 84 fun F=>zfB F T oe
 have oy:=M "some_line" zbC 91 fun F=>zcC F h_steps h_tree
 have F13:=fF (P:=w.params) "across" zdT 98
 have b13:=F13.binds (ps:=["first","second"]) fun _ _ _ _ _ _=>usS fun _=>usS fun _=>us0 rfl
 have m13:mg "across" = _:=YCq X G (v:=.ref 98) (by kernel_rfl)
 have h_across:=Fen.Cal.of F13 (Fen.zjy (P:=l.prog) (w:=w) (base:=base) F13 ⟨T.list,T.len,T.range⟩ T.min) m13 b13
 have ox:=M "open_ring" zbH 105 fun F=>zgY F T.enumerate h_trees h_across
 have F15:=fF (P:=w.params) "paper_without" zbj 110
 have b15:=F15.binds (ps:=["size","runs","many","struck","ends"]) fun _ _ _ _ _ _=>usS fun _=>usS fun _=>usS fun _=>usS fun _=>usS fun _=>us0 rfl
 have m15:mg "paper_without" = _:=YCq X G (v:=.ref 110) (by kernel_rfl)
 have r_paper_without:=zcm (P:=l.prog) (w:=w) (base:=base) F15 m15 b15 T ox ot oy
 have og:=M "some_paper" zb0 117 fun F=>zgc F T (Cal.of F15 (r_paper_without 6) m15 b15)
 have oA:=M "none_paper" zb7 124 fun F=>zfX F T og oD
 have oE:=M "lifted" zeA 131 fun F=>zkB F T ow
 have oi:=M "readings_to_compare" zaH 138 fun F=>zcr F T oh ol oj oE
 have oo:=M "rise_between" zbt 145 fun F=>zeL F T
 have oH:=M "told" zkN 152 fun F=>znd F T oi oo og oA
 have oF:=M "places" zeB 157 fun F=>zkG F T oj ow
 have oz:=M "sure_groups" zbJ 162 fun F=>zfd F T oF ol oh
 have cB:=M "_law_box" sBox 169 fun F=>Fen.zoI F ⟨T.list,T.len,T.range⟩
 have oa:=M "_law_take" zhb 176 fun F=>zhl F T
 have ou:=M "_law_great" zgv 183 fun F=>zfS F T oa
 have oq:=M "_law_other_rise" zgJ 190 fun F=>zdm F T oa ou
 have oC:=M "_law_world" zgX 195 fun F=>zfY F T oa oq
 exact zos F T cB oC oa oz oH zmA
def walk {l:PySem.W.OpenLaw} {q:Program} {loose:List Str} {XP:(Str->Option Value)->Heap->Prop} {YP:PySem.World->Heap->Prop} {d:DefRec} {K:Params->oS} (hn:l.most = some 63) (hdf:d.params.defaults = [])
  (hY:∀ (w:PySem.World) (h:Heap),YP w h->(K w.params).In h)
  (F:∀ (w:PySem.World) (mg:Str->Option Value) (fa:Addr) (h:Heap),(K w.params).In h->h.Ns mainGlobals mg->mg d.name = some (.ref fa) ->
   ∃ fd:FuncData,(∀ (s:Shared) (u:Value),BindsTo s fd ⟨[u],[]⟩ [("_law_script",u)])/\∀ base:Heap,(K w.params).In base->base.Ns mainGlobals mg->FnOk l.prog w (K w.params) mg base CX0 14 fa fd ["_law_script"] (zja (K w.params))) :
  PySem.W.WalkO q loose XP YP l.row.toRowW d [] (fun f vs=>PySem.call f vs):=
 L2.zm0 (n:=63) (k:=14) (x := "_law_script") (CX:=fun _=>CX0) (sp:=fun w=>zja (K w.params)) hn (by decide) hdf ⟨rfl,by decide,by decide⟩ hY F (fun _ _ a ns hl _ hS=>⟨a,ns,rfl,hS,hl,fun _=>rfl⟩) fun _ _ _ _ _ z=>z
end Fd
open PySem PySem.W PyProof.Rows
set_option maxRecDepth 100000 in
set_option maxHeartbeats 0 in
theorem PySem.Challenge.cw_fenlevel_k17_whole_sure_goes_on_holds : PySem.Challenge.rw_fenlevel_k17_whole_sure_goes_on.Holds := by
 w_on;o_law
 refine holds_open (q:=Hd.vw) (loose:=[]) (Xt:=Hd.xT) (XP:=XL Hd.vw []) (Yf:=Hd.hH.obs) (Ya:=Hd.hH.val) (YP:=Hd.hH.says) (N:=2112) Hd.left_o Hd.hH.of Hd.hH.keeps (fun s e=>xl_of s (YCe.mp e).1) XL.keeps (by rfl) (by rfl) (by rfl) (fun s e=>recFacts_of (YCe.mp e).2) (by rfl) (by first | assumption | decide +kernel) (by decide +kernel) ⟨rfl,rfl,rfl,rfl,rfl,by decide +kernel⟩ ?hw ?hc
 (case hw=>w_witness2)
 exact Fd.walk (l:=PySem.Challenge.rw_fenlevel_k17_whole_sure_goes_on) rfl rfl (fun w h oQ=>PySem.W.kIn_of oQ) (fun w mg fa h KX G hmg=>Fd.all_mk KX G hmg)
