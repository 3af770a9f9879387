import PyProof.Rows.All
import Wide.All
import OpenK.AllK
import Wide.FinOn
import Lean
import PyProof.EqAt
import PyProof.EqKinds
import PyProof.TupleCall
import PyProof.SetKind
import PyProof.Rows.SortShell
import PyProof.SetRoads
import PyProof.ListNew
import PyProof.CollectWalk
import PyProof.Rows.SetFrom
import PyProof.NeKinds
import PyProof.IsiHeapPairs
import PyProof.IsiNone
import PyProof.IsiPairs
import PyProof.ZipIter
import PyProof.Draws
import PyProof.WalksMore
import PyProof.EnumMake
import PyProof.EnumFor
import PyProof.ListRange
import PyProof.RangeFor
import PyProof.DictUpdate
import PyProof.DictItemsLoops
import PyProof.DictWalks
import PyProof.DictIter
import PyProof.P3Eq
import PyProof.P3In
import PyProof.NeData
import KE.KSortAsk
import KE.KSortTup
import PySem.Challenge.RW_fenlevel_k24_whole_a_foe_has_two_truths
abbrev qg:=PySem.W.Frag
set_option compiler.extract_closed false
noncomputable section
set_option linter.all false
def YAa:=@PySem.wpAny_bind
def YAb:=@List.map_cons
def YAc:=@List.length_map
def YAd:=@PySem.Heap.get?_push_of_some
def YAe:=@List.getElem?_eq_getElem
def YAf:=@PySem.wpAny_pure
def YAg:=@List.mem_singleton
def YAh:=@List.getElem?_eq_some_iff
def YAi:=@List.mem_cons_self
def YAj:=@Nat.le_refl
def YAk:=@List.mem_append
def YAl:=@List.mem_append_right
def YAm:=@PySem.Heap.lt_size
def YAn:=@List.mem_cons
def YAo:=@List.getElem?_map
def YAp:=@List.mem_cons_of_mem
def YAq:=@List.length_append
def YAr:=@PySem.Heap.get?_push_size
def YAs:=@List.getD_eq_getElem?_getD
def YAt:=@Nat.lt_of_lt_of_le
def YAu:=@List.size_toArray
def YAv:=@Nat.ne_of_lt
def YAw:=@PyProof.Rows.wpS_bind
def YAx:=@List.mem_append_left
def YAy:=@List.map_append
def YAz:=@List.mem_of_getElem?
def YAA:=@Bool.false_ne_true
def YAB:=@List.append_assoc
def YAC:=@Nat.zero_le
def YAD:=@List.getElem?_set_ne
def YAE:=@Int.toNat_natCast
def YAF:=@List.mem_map
def YAG:=@PyProof.Rows.wpS_pure
def YAH:=@decide_eq_true
def YAI:=@List.getElem?_set_self
def YAJ:=@Bool.and_eq_true
def YAK:=@List.map_map
def YAL:=@List.drop_eq_getElem_cons
def YAM:=@PyProof.Rows.slot_tuple_getitem
def YAN:=@decide_eq_false
def YAO:=@PySem.sizeLine_eq
def YAP:=@List.not_mem_nil
def YAQ:=@List.mem_map_of_mem
def YAR:=@List.append_nil
def YAS:=@List.length_cons
def YAT:=@List.take_of_length_le
def YAU:=@Nat.le_trans
def YAV:=@List.replicate_succ
def YAW:=@PySem.wpAny_setField_rec
def YAX:=@PySem.wpAny_newObj_type
def YAY:=@PySem.wpAny_call_entry
def YAZ:=@PySem.wpAny_holding
def YA0:=@Bool.false_eq_true
def YA1:=@List.filterMap_cons
def YA2:=@PySem.wpAny_mono
def YA3:=@PySem.wpAny_callSpecial?_slot
def YA4:=@List.pairwise_iff_getElem
def YA5:=@Array.getElem?_eq_getElem
def YA6:=@Array.getElem?_toList
def YA7:=@of_decide_eq_true
def YA8:=@List.length_take
def YA9:=@Nat.lt_succ_of_lt
def YBa:=@List.mem_filter
def YBb:=@List.take_append_drop
def YBc:=@Array.length_toList
def YBd:=@PySem.wpAny_field
def YBe:=@Nat.lt_irrefl
def YBf:=@List.length_drop
def YBg:=@List.mem_range
def YBh:=@List.pairwise_cons
def YBi:=@Nat.ne_of_gt
def YBj:=@List.flatten_cons
def YBk:=@PySem.Heap.size_push
def YBl:=@List.nodup_cons
def YBm:=@PySem.wpAny_loadPart'
def YBn:=@List.contains_iff_mem
def YBo:=@List.filter_cons
def YBp:=@PySem.wpAny_standAt
def YBq:=@List.getElem?_append_right
def YBr:=@PySem.wpAny_rule
def YBs:=@List.nil_append
def YBt:=@PySem.PassesOwn.never
def YBu:=@List.lookup_cons
def YBv:=@PySem.mem_of_lookup
def YBw:=@Int.toNat_of_nonneg
def YBx:=@PySem.Heap.get?_update_self
def YBy:=@List.length_singleton
def YBz:=@List.length_range
def YBA:=@PySem.F.slot_list_append
def YBB:=@PySem.F.type_list_append
def YBC:=@PySem.wpAny_seqItems
def YBD:=@List.getElem?_replicate
def YBE:=@PySem.codeAny_builtin
def YBF:=@PySem.F.called_set
def YBG:=@PySem.F.plainAttrs_list
def YBH:=@Int.emod_lt_of_pos
def YBI:=@Nat.le_add_right
def YBJ:=@List.take_length
def YBK:=@Array.getElem?_eq_some_iff
def YBL:=@PySem.Heap.get?_update_other
def YBM:=@PySem.wpAny_truthy_bool
def YBN:=@List.map_congr_left
def YBO:=@List.getElem?_append_left
def YBP:=@Nat.le_of_lt
def YBQ:=@List.getElem?_eq_none
def YBR:=@List.drop_length
def YBS:=@List.pairwise_append
def YBT:=@List.getElem?_of_mem
def YBU:=@or_false
def YBV:=@List.getElem?_cons_succ
def YBW:=@PyProof.Rows.F.plain_set_update_loop
def YBX:=@PyProof.Rows.wpS_forRange
def YBY:=@Array.toList_push
def YBZ:=@Nat.lt_of_succ_lt
def YB0:=@PyProof.Rows.callWith_type1
def YB1:=@List.find?_cons
def YB2:=@List.take_succ_cons
def YB3:=@Int.emod_nonneg
def YB4:=@Array.toList_append
def YB5:=@PySem.F.slot_tuple_iterator_next
def YB6:=@if_false
def YB7:=@PySem.W.mg_of
def YB8:=@List.getElem?_eq_none_iff
def YB9:=@PySem.Around.under_plainId
def YCa:=@List.mem_of_mem_take
def YCb:=@PySem.wpAny_passesOwn
def YCc:=@List.getElem?_take_of_lt
def YCd:=@PySem.F.args_tuple_add_2
def YCe:=@PySem.wpAny_comprehension_free
def YCf:=@bne_self_eq_false
def YCg:=@PyProof.Rows.boot_sorted
def YCh:=@PySem.Heap.get?_push_ne
def YCi:=@PySem.F.entry_tuple_add
def YCj:=@PySem.Heap.SameBut.update
def YCk:=@List.length_eq_zero_iff
def YCl:=@List.all_eq_true
def YCm:=@PySem.wpAny_askSetting
def YCn:=@Nat.lt_succ_self
def YCo:=@List.ext_getElem
def YCp:=@List.mem_flatMap
def YCq:=@PySem.F.slot_tuple_add
def YCr:=@PyProof.Rows.boot_list
def YCs:=@PySem.wpAny_typeOf
def YCt:=@PySem.F.slot_zip_next
def YCu:=@Nat.sub_eq_zero_of_le
def YCv:=@List.perm_append_comm
def YCw:=@PySem.wpAny_pyIter_list
def YCx:=@List.any_cons
def YCy:=@decide_eq_true_eq
def YCz:=@List.nodup_append
def YCA:=@List.flatMap_cons
def YCB:=@List.mem_of_mem_drop
def YCC:=@PySem.Calls.call_function_entry
def YCD:=@PySem.wpAny_isInstance
def YCE:=@List.getElem_map
def YCF:=@PySem.Heap.size_update
def YCG:=@List.getElem?_range
def YCH:=@List.length_reverse
def YCI:=@Bool.eq_iff_iff
def YCJ:=@PySem.SeqAt.EqAt.int_int
def YCK:=@PySem.wpAny_attempt
def YCL:=@PySem.plainId_quiet
def YCM:=@PySem.wpAny_newList
def YCN:=@PySem.wpAny_pyIter_tuple
def YCO:=@List.filter_append
def YCP:=@PyProof.Rows.wpS_modify
def YCQ:=@List.drop_zero
def YCR:=@List.nodup_nil
def YCS:=@List.length_replicate
def YCT:=@List.getElem?_toArray
def YCU:=@List.length_filter_le
def YCV:=@Nat.lt_or_ge
def YCW:=@PySem.noFill_tuple_add
def YCX:=@if_true
def YCY:=@List.zipIdx_cons
def YCZ:=@PySem.wpAny_newFunctionEnv
def YC0:=@Array.getElem_toList
def YC1:=@PySem.wpAny_updateSeq_pair
def YC2:=@Bool.and_eq_true_iff
def YC3:=@Nat.add_le_add_right
def YC4:=@Nat.pow_le_pow_right
def YC5:=@PySem.wpAny_onRaise
def YC6:=@List.sum_cons
def YC7:=@beq_eq_false_iff_ne
def YC8:=@PySem.wpAny_execs_nil
def YC9:=@PyProof.Rows.entry_tuple_getitem
def YDa:=@List.foldl_cons
def YDb:=@List.length_nil
def YDc:=@PySem.wpAny_specialOf
def YDd:=@List.forIn_cons
def YDe:=@PySem.codeAny_of_tree
def YDf:=@List.Perm.of_eq
def YDg:=@PySem.wpAny_setEntries_of
def YDh:=@List.reverse_append
def YDi:=@PySem.wpAny_updateSeq
def YDj:=@List.filter_eq_self
def YDk:=@List.flatMap_append
def YDl:=@PySem.codeAny_mono
def YDm:=@PySem.wpAny_Call_Name_kw
def YDn:=@PyProof.Rows.args_tuple_getitem
def YDo:=@PySem.tupleKind_room_in1
def YDp:=@PySem.Code.quiet_builtin
def YDq:=@List.getElem?_drop
def YDr:=@List.map_replicate
def YDs:=@PyProof.Rows.slicePart_none
def YDt:=@PySem.wpAny_runValue
def YDu:=@PySem.boot_len
def YDv:=@PyProof.Rows.wpS_get
def YDw:=@List.drop_drop
def YDx:=@List.drop_take
def YDy:=@PySem.wpAny_assign_Name
def YDz:=@PySem.wpAny_sequenceKey
def YDA:=@PySem.wpAny_pyIter_slot
def YDB:=@PySem.intKind_is
def YDC:=@PySem.fits_of_scanBound
def YDD:=@PySem.F.args_zip_next_1
def YDE:=@List.ext_getElem?
def YDF:=@List.reverse_cons
def YDG:=@Option.some.injEq
def YDH:=@List.take_add_one
def YDI:=@List.drop_sublist
def YDJ:=@PySem.seq_tuple_add
def YDK:=@List.all_cons
def YDL:=@Nat.le_succ
def YDM:=@PyProof.Rows.wpS_mono
def YDN:=@List.getElem_inj
def YDO:=@Nat.le_of_not_lt
def YDP:=@List.getElem_mem
def YDQ:=@List.mem_reverse
def YDR:=@PySem.F.entry_zip_next
def YDS:=@List.cons_append
def YDT:=@Option.bind_some
def YDU:=@List.map_flatMap
def YDV:=@List.of_mem_zip
def YDW:=@PySem.concat_meets
def YDX:=@List.map_nil
def YDY:=@PySem.codeAny_loop
def YDZ:=@List.range_succ
def YD0:=@PyProof.Rows.entry_list_sort
def YD1:=@Int.ne_of_lt
def YD2:=@List.zipIdx_nil
def YD3:=@Int.lt_trans
def YD4:=@Option.map_some
def YD5:=@Nat.min_eq_left
def YD6:=@List.filter_nil
def YD7:=@Int.ediv_nonneg
def YD8:=@PyProof.Rows.size_push'
def YD9:=@PyProof.Rows.wpS_lift
def YEa:=@PySem.entryFor_alias
def YEb:=@PySem.isSubtype_stop
def YEc:=@PySem.wpAny_newTuple
def YEd:=@PyProof.Rows.slot_list_sort
def YEe:=@PyProof.Rows.args_list_sort
def YEf:=@List.forIn_nil
def YEg:=@Bool.and_false
def YEh:=@PyProof.Rows.pairsOf_toList
def YEi:=@PySem.wpAny_noted
def YEj:=@PySem.wpAny_of_eq
set_option Elab.async false
set_option linter.all false
set_option maxRecDepth 100000
namespace L2
open PySem PySem.Spec PyProof.Rows
abbrev Key:=Sum Int Str
def keyIs:Key->Value->Bool
 |.inl k,v=>Value.isInt k v
 |.inr x,v=>Value.isStrOf x v
def keyH(w:World):Key->Int
 |.inl k=>hashInt k
 |.inr x=>hashStr w x
def zaY:∀{k:Key}{v:Value},keyIs k v=true->(∃i t,k=Sum.inl i/\v=Value.int i t)\/(∃x t,k=Sum.inr x/\v=Value.str x t)
 |.inl i,v,h=>by
  obtain⟨t,e⟩:=Value.isInt_shape (k:=i) (v:=v) h;exact .inl ⟨i,t,rfl,e⟩
 |.inr x,v,h=>by
  obtain⟨t,e⟩:=Value.isStrOf_shape (x:=x) (v:=v) h;exact .inr ⟨x,t,rfl,e⟩
def zlA(i:Int)(t:Tok):keyIs (.inl i) (.int i t)=true:=by simp[keyIs,Value.isInt]
def zm9(x:Str)(t:Tok):keyIs (.inr x) (.str x t)=true:=by simp[keyIs,Value.isStrOf]
def zqi(a b:Int):decide ((Sum.inl a:Key)=Sum.inl b)=(a==b):=by
 by_cases e:a=b
 .subst e;simp
 .have h:¬ (Sum.inl a:Key)=Sum.inl b:=λq=>e (Sum.inl.inj q);rw[YAN h];exact(YC7.mpr e).symm
def zqF(a b:Str):decide ((Sum.inr a:Key)=Sum.inr b)=decide (a=b):=by
 by_cases e:a=b
 .subst e;simp
 .have h:¬ (Sum.inr a:Key)=Sum.inr b:=λq=>e (Sum.inr.inj q);rw[YAN h,YAN e]
def zqA(a:Int)(b:Str):decide ((Sum.inl a:Key)=Sum.inr b)=false:=YAN (λq=>nomatch q)
def zql(a:Str)(b:Int):decide ((Sum.inr a:Key)=Sum.inl b)=false:=YAN (λq=>nomatch q)
noncomputable def zaF(prog:Program)(w:World):PySem.KeyKind prog w Key where
 is:=keyIs
 hash:=keyH w
 inj:=λv a b ha hb=>by
  rcases zaY ha with⟨i,t,rfl,rfl⟩|⟨x,t,rfl,rfl⟩
  .rcases zaY hb with⟨j,u,rfl,e⟩|⟨y,u,rfl,e⟩
   .injection e with e1 _;rw[e1]
   .exact nomatch e
  .rcases zaY hb with⟨j,u,rfl,e⟩|⟨y,u,rfl,e⟩
   .exact nomatch e
   .injection e with e1 _;rw[e1]
 byValue:=λk v h=>by
  rcases zaY h with⟨i,t,rfl,rfl⟩|⟨x,t,rfl,rfl⟩<;>rfl
 pyHash:=λhv h=>by
  rcases zaY hv with⟨i,t,rfl,rfl⟩|⟨x,t,rfl,rfl⟩
  .exact wpAny_pyHash_int h
  .exact wpAny_pyHash_str h
 eqBool:=λhu hv h=>by
  rcases zaY hu with⟨i,t,rfl,rfl⟩|⟨x,t,rfl,rfl⟩
  .rcases zaY hv with⟨j,u,rfl,rfl⟩|⟨y,u,rfl,rfl⟩
   .rw[zqi]at h;exact wpAny_eqBool_int h
   .rw[zqA]at h;exact SeqAt.EqAt.int_str i t y u _ _ _ _ h
  .rcases zaY hv with⟨j,u,rfl,rfl⟩|⟨y,u,rfl,rfl⟩
   .rw[zql]at h;exact SeqAt.EqAt.str_int x t j u _ _ _ _ h
   .rw[zqF]at h;exact wpAny_eqBool_str h
 «strs»:=λk x t v h=>by
  rcases zaY h with⟨i,u,rfl,e⟩|⟨y,u,rfl,e⟩
  .exact nomatch e
  .injection e with e1 _
   subst e1;cases v<;>rfl
def zjn(prog:Program)(w:World)(i:Int)(t:Tok):(zaF prog w).is (.inl i) (.int i t)=true:=zlA i t
def zjy(prog:Program)(w:World)(x:Str)(t:Tok):(zaF prog w).is (.inr x) (.str x t)=true:=zm9 x t
inductive V where
 |non|bl (b:Bool)|int (i:Int)|str (x:Str)|byt (b:Array UInt8)|flt (b:UInt64)|ref (a:Addr)|ty (n:String)
 deriving DecidableEq
def RelV:V->Value->Prop
 |.non,u=>u=Value.none
 |.bl b,u=>u=Value.bool b
 |.int i,u=>∃t,u=Value.int i t
 |.str x,u=>∃t,u=Value.str x t
 |.byt b,u=>∃t,u=Value.bytes b t
 |.flt b,u=>∃t,u=Value.float b t
 |.ref a,u=>u=Value.ref a
 |.ty n,u=>u=Value.type n
abbrev Vals:List V->List Value->Prop:=Paired RelV
theorem Vals.length{xs:List V}{us:List Value}(r:Vals xs us):xs.length=us.length:=Paired.length r
theorem Vals.get:∀{xs:List V}{us:List Value}{i:Nat}{x:V},Vals xs us->xs[i]?=some x->∃u,us[i]?=some u/\RelV x u
 |_,_,_,_,.nil,e=>by simp at e
 |_,_,0,_,.cons r _,e=>by simp at e;subst e;exact⟨_,rfl,r⟩
 |_,_,i+1,x,.cons _ t,e=>by
  obtain⟨u,h1,h2⟩:=Vals.get (i:=i) (x:=x) t (by simpa using e);exact⟨u,by simpa using h1,h2⟩
theorem Vals.set(r:RelV x u):∀{xs:List V}{us:List Value}(i:Nat),Vals xs us->Vals (xs.set i x) (us.set i u)
 |_,_,_,.nil=>.nil
 |_,_,0,.cons _ t=>.cons r t
 |_,_,i+1,.cons q t=>.cons q (Vals.set r i t)
theorem Vals.append:∀{xs ys:List V}{us ws:List Value},Vals xs us->Vals ys ws->Vals (xs++ys) (us++ws)
 |_,_,_,_,.nil,s=>s
 |_,_,_,_,.cons r t,s=>.cons r (Vals.append t s)
theorem Vals.take:∀{xs:List V}{us:List Value}(n:Nat),Vals xs us->Vals (xs.take n) (us.take n)
 |_,_,0,_=>.nil
 |_,_,_+1,.nil=>.nil
 |_,_,n+1,.cons r t=>.cons r (Vals.take n t)
theorem Vals.drop:∀{xs:List V}{us:List Value}(n:Nat),Vals xs us->Vals (xs.drop n) (us.drop n)
 |_,_,0,r=>r
 |_,_,_+1,.nil=>.nil
 |_,_,n+1,.cons _ t=>Vals.drop n t
def RelO:Option V->Option Value->Prop
 |some v,some u=>RelV v u
 |none,none=>True
 |_,_=>False
def KV{κ:Type}:List (κ×V)->List (κ×Value)->Prop:=Paired λ(p:κ×V) (q:κ×Value)=>p.1=q.1/\RelV p.2 q.2
def kV:Key->V
 |.inl i=>.int i
 |.inr x=>.str x
inductive HO where
 /-- a list -/
 |lst (xs:List V)
 /-- a tuple (never changes) -/
 |tup (xs:List V)
 /-- a dict whose keys are ints and texts;one whose keys are tuples of ints and texts (the empty one is both) -/
 |dK (kvs:List (Key×V))|dT (kvs:List (List Key×V))
 /-- a set of ints: its members,its size -/
 |set (S:Int->Bool) (n:Nat)
 /-- an instance of the class at C,its dict at dx,its attributes -/
 |ins (C dx:Addr) (fs:List (Str×V))
 /-- the dict of the instance at x -/
 |own (x:Addr)
 /-- the dict of an exception -/
 |xd (fs:List (Str×V))
 /-- a bound method,f of x -/
 |met (f x:Addr)
 /-- a range object lo,lo + 1,.. below hi -/
 |rng (lo hi:Int)
 /-- a thing that is known to the object (the script;a dict while a loop walks it): read,never written while it is so -/
 |frz (o:Obj) (u:HO)
 /-- a code object's table -/
 |tbl (ps:Array Value)
 /-- any oW thing,by what is true of its one object (a def of one's own: SetO a S n:=HO.ext λh=>..) -/
 |ext (φ:Heap->Prop)
abbrev Hp:=Addr->Option HO
def upd(H:Hp)(a:Addr)(o:HO):Hp:=λb=>if b=a then some o else H b
def zac:upd H a o a=some o:=by unfold upd;rw[if_pos rfl]
def zaf(h:b≠a):upd H a o b=H b:=by unfold upd;rw[if_neg h]
def zpN:upd (upd H a o) a u=upd H a u:=by
 funext b;unfold upd;split<;>rfl
def zr0{H:Hp}{a b:Addr}{o u:HO}(h:H a=some o)(h':H b=some u)(d:o≠u):a≠b:=by
 intro e;subst e;rw[h]at h';exact d (Option.some.inj h')
def zae{H:Hp}{a b:Addr}{o:HO}(h:H a=some o)(h':H b=none):a≠b:=by
 intro e;subst e;rw[h]at h';cases h'
section
variable(P:Program)(w:World)
noncomputable def ObjOk(H:Hp)(h:Heap)(a:Addr):HO->Prop
 |.lst xs=>xs.length<=sizeLine/\∃(its:List Value)(n:Nat),Vals xs its/\h.get? a=some {cls:=.type "list",data:=.seq its.toArray n}
 |.tup xs=>xs.length<=sizeLine/\∃its:List Value,Vals xs its/\IsTup h a its.toArray
 |.dK kvs=>kvs.length<=sizeLine/\(a==sysModules)=false/\∃vs,KV kvs vs/\h.DictOf (zaF P w) a vs
 |.dT kvs=>kvs.length<=sizeLine/\(a==sysModules)=false/\∃xs:List (List Key×Addr×Value),
   Paired (λ(p:List Key×V) (q:List Key×Addr×Value)=>p.1=q.1/\H q.2.1=some (.tup (p.1.map kV))/\RelV p.2 q.2.2) kvs xs /\
   ∃o es ep,h.get? a=some o/\o.ExactDict/\o.data=.dict es ep/\es.toList=xs.map (entryOfKey (tupleKind (zaF P w)))/\(xs.map (·.1)).Nodup
 |.set S n=>h.SetOf (intKind P w) a S n
 |.ins C dx fs=>H dx=some (.own a)/\fs.length<=1000/\dx≠a/\h.get? a=some (PySem.W.instObj C dx) /\
   ∃mA,h.Ns1 dx mA/\(∀f,RelO (fs.lookup f) (mA f))/\PySem.Within mA (fs.map (·.1))
 |.own _=>∃o,h.get? a=some o
 |.xd fs=>∃mA,h.Ns1 a mA/\∀f,RelO (fs.lookup f) (mA f)
 |.rng lo hi=>∃t u v,h.get? a=some {cls:=.type "range",data:=.fields #[.int lo t,.int hi u,.int 1 v]}
 |.frz o u=>h.get? a=some o/\ObjOk H h a u
 |.tbl ps=>h.get? a=some {cls:=.none,data:=.fields ps}
 |.met f x=>h.get? a=some (PySem.W.methodObj (.ref f) (.ref x))
 |.ext φ=>φ h/\(∃o,h.get? a=some o)/\∀h1 h2:Heap,φ h1->(∀o,h1.get? a=some o->h2.get? a=some o)->φ h2
def HOk(H:Hp)(h:Heap):Prop:=∀a o,H a=some o->ObjOk P w H h a o
end
section
variable{P:Program}{w:World}{H H':Hp}{h h':Heap}{a:Addr}{o:HO}
theorem ObjOk.lt(x:ObjOk P w H h a o):a<h.objs.size:=by
 cases o with
 |lst xs=>obtain⟨_,_,_,_,e⟩:=x;exact YAm e
 |tup xs=>obtain⟨_,_,_,p⟩:=x;exact p.lt
 |dK kvs=>obtain⟨_,_,_,_,o,_,_,e,_⟩:=x;exact YAm e
 |dT kvs=>obtain⟨_,_,_,_,o,_,_,e,_⟩:=x;exact YAm e
 |set S n=>obtain⟨o,_,_,_,e,_⟩:=x;exact YAm e
 |ins C dx fs=>obtain⟨_,_,_,e,_⟩:=x;exact YAm e
 |own y=>obtain⟨_,e⟩:=x;exact YAm e
 |xd fs=>obtain⟨_,⟨_,_,_,e,_⟩,_⟩:=x;exact YAm e
 |rng lo hi=>obtain⟨_,_,_,e⟩:=x;exact YAm e
 |frz ob u=>obtain⟨e,_⟩:=x;exact YAm e
 |tbl ps=>exact YAm (show h.get? a=some _ from x)
 |met f y=>exact YAm (show h.get? a=some _ from x)
 |ext φ=>obtain⟨_,⟨_,e⟩,_⟩:=x;exact YAm e
theorem Paired.mapP{α β:Type}{F G:α->β->Prop}:∀{l₁:List α}{l₂:List β},Paired F l₁ l₂->(∀a b,F a b->G a b)->Paired G l₁ l₂
 |_,_,.nil,_=>.nil
 |_,_,.cons r t,f=>.cons (f _ _ r) (Paired.mapP t f)
def ObjOk.stay(x:ObjOk P w H h a o)(k:∀b u,(b=a\/H b=some (.own a))->h.get? b=some u->h'.get? b=some u)
  (ho:∀b,H b=some (.own a)->H' b=some (.own a)) (ht:∀b xs,H b=some (.tup xs)->H' b=some (.tup xs)):ObjOk P w H' h' a o:=by
 induction o with
 |lst xs=>obtain⟨z,its,n,r,e⟩:=x;exact⟨z,its,n,r,k _ _ (.inl rfl) e⟩
 |tup xs=>obtain⟨z,its,r,ob,e,c⟩:=x;exact⟨z,its,r,ob,k _ _ (.inl rfl) e,c⟩
 |dK kvs=>obtain⟨z,y,vs,r,ob,es,ep,e,c⟩:=x;exact⟨z,y,vs,r,ob,es,ep,k _ _ (.inl rfl) e,c⟩
 |dT kvs=>
  obtain⟨z,y,xs,r,ob,es,ep,e,c⟩:=x;exact⟨z,y,xs,Paired.mapP r λp q z=>⟨z.1,ht _ _ z.2.1,z.2.2⟩,ob,es,ep,k _ _ (.inl rfl) e,c⟩
 |set S n=>obtain⟨ob,es,ep,t,e,c⟩:=x;exact⟨ob,es,ep,t,k _ _ (.inl rfl) e,c⟩
 |ins C dx fs=>
  obtain⟨d,z,ne,e,mA,⟨od,es,ep,e2,c⟩,r⟩:=x;exact⟨ho _ d,z,ne,k _ _ (.inl rfl) e,mA,⟨od,es,ep,k _ _ (.inr d) e2,c⟩,r⟩
 |own y=>obtain⟨ob,e⟩:=x;exact⟨ob,k _ _ (.inl rfl) e⟩
 |xd fs=>obtain⟨mA,⟨od,es,ep,e,c⟩,r⟩:=x;exact⟨mA,⟨od,es,ep,k _ _ (.inl rfl) e,c⟩,r⟩
 |rng lo hi=>obtain⟨t,u,v,e⟩:=x;exact⟨t,u,v,k _ _ (.inl rfl) e⟩
 |frz ob u ih=>obtain⟨e,q⟩:=x;exact⟨k _ _ (.inl rfl) e,ih q⟩
 |tbl ps=>
  have e:h.get? a=some {cls:=.none,data:=.fields ps}:=x;show h'.get? a=some {cls:=.none,data:=.fields ps};exact k a _ (.inl rfl) e
 |met f y=>
  have e:h.get? a=some (PySem.W.methodObj (.ref f) (.ref y)):=x;show h'.get? a=some (PySem.W.methodObj (.ref f) (.ref y));exact k a _ (.inl rfl) e
 |ext φ=>obtain⟨p,⟨o,e⟩,st⟩:=x;exact⟨st _ _ p λo q=>k _ _ (.inl rfl) q,⟨o,k _ _ (.inl rfl) e⟩,st⟩
theorem HOk.lt(x:HOk P w H h)(e:H a=some o):a<h.objs.size:=(x a o e).lt
def HOk.fresh(x:HOk P w H h)(e:h.objs.size<=a):H a=none:=by
 cases q:H a with
 |none=>rfl
 |some u=>exact absurd (YAt (x.lt q) e) (YBe _)
def HOk.kept(x:HOk P w H h)(k:∀b u,h.get? b=some u->h'.get? b=some u):HOk P w H h':=λa o e=>
 (x a o e).stay (λb u _ q=>k b u q) (λ_ q=>q) λ_ _ q=>q
def HOk.laid(x:HOk P w H h)(k:∀b u,h.get? b=some u->h'.get? b=some u)(hp:h.objs.size<=a)(new:ObjOk P w (upd H a o) h' a o):HOk P w (upd H a o) h':=λb u e=>by
 have hn:=x.fresh hp;by_cases hb:b=a
 .subst hb;rw[zac]at e;cases e;exact new
 .rw[zaf hb]at e;exact(x b u e).stay (λc v _ q=>k c v q) (λc q=>by rw[zaf (zae q hn)];exact q) λc xs q=>by rw[zaf (zae q hn)];exact q
end
def Rd(H:Hp)(a:Addr)(u:HO):Prop:=H a=some u\/∃o,H a=some (.frz o u)
def Rd.ok{P:Program}{w:World}{H:Hp}{h:Heap}{a:Addr}{u:HO}(r:Rd H a u)(x:HOk P w H h):ObjOk P w H h a u:=by
 rcases r with r|⟨o,r⟩
 .exact x a u r
 .obtain⟨_,q⟩:=x a _ r;exact q
def Mut:Option HO->Prop
 |some (.lst _)=>True
 |some (.dK _)=>True
 |some (.dT _)=>True
 |some (.set _ _)=>True
 |some (.ins _ _ _)=>True
 |some (.ext _)=>True
 |_=>False
section
variable{P:Program}{w:World}{H:Hp}{h h':Heap}{x e:Addr}{o':HO}
def HOk.write(ok:HOk P w H h)(mu:Mut (H x))(he:e=x\/H e=some (.own x))(k:∀b u,b≠e->h.get? b=some u->h'.get? b=some u)(heo:∃u,h'.get? e=some u)
  (new:ObjOk P w (upd H x o') h' x o'):HOk P w (upd H x o') h':=λb u q=>by
 have nown:∀c y,H c=some (.own y)->c≠x:=λc y r z=>by subst z;rw[r]at mu;exact mu
 have ntup:∀c xs,H c=some (.tup xs)->c≠x:=λc xs r z=>by subst z;rw[r]at mu;exact mu
 by_cases hb:b=x
 .subst hb;rw[zac]at q;cases q;exact new
 .rw[zaf hb]at q;by_cases hbe:b=e
  .have q':H b=some (.own x):=by
    rcases he with z|z
    .exact absurd (hbe.trans z) hb
    .rw[hbe];exact z
   rw[q]at q';cases q';obtain⟨v,hv⟩:=heo;exact⟨v,by rw[hbe];exact hv⟩
  .refine(ok b u q).stay (λc v hc r=>k c v ?_ r) (λc r=>by rw[zaf (nown c b r)];exact r) λc xs r=>by rw[zaf (ntup c xs r)];exact r
   rcases hc with rfl|hc
   .exact hbe
   .rintro rfl;rcases he with z|z
    .exact nown c b hc z
    .rw[hc]at z;cases z;exact hb rfl
end
structure Un(fs ex:List Addr)(H H':Hp)(h h':Heap):Prop where
 keep:∀b o,h.get? b=some o->H b=none->b∉fs->b∉ex->h'.get? b=some o
 slot:∀b o,h.get? b=some o->H b=none->b∈fs->b∉ex->∃sl,h'.get? b=some {o with slots:=sl}
 free:∀b o,h.get? b=some o->H b=none->b∉ex->H' b=none
 there:∀b o,h.get? b=some o->b∉ex->∃o',h'.get? b=some o'
 tups:∀b xs,H b=some (.tup xs)->H' b=some (.tup xs)
 frzs:∀b o u,H b=some (.frz o u)->H' b=some (.frz o u)
 tbls:∀b ps,H b=some (.tbl ps)->∃more,H' b=some (.tbl (ps++more))
section
variable{fs fs' ex ex':List Addr}{H H1 H2:Hp}{h h1 h2 h':Heap}{a x e:Addr}{o:HO}
def Un.any(u:Un fs ex H H1 h h1){b:Addr}{ob:Obj}(q:h.get? b=some ob)(n:H b=none)(hx:b∉ex):∃sl,h1.get? b=some {ob with slots:=sl}:=by
 by_cases hb:b∈fs
 .exact u.slot b ob q n hb hx
 .exact⟨ob.slots,u.keep b ob q n hb hx⟩
def Un.kept(k:∀b u,h.get? b=some u->h'.get? b=some u):Un fs ex H H h h':=
 ⟨λb ob q _ _ _=>k b ob q,λb ob q _ _ _=>⟨ob.slots,k b ob q⟩,λ_ _ _ n _=>n,λb ob q _=>⟨ob,k b ob q⟩,λ_ _ q=>q,λ_ _ _ q=>q,λ_ ps q=>⟨#[],by rw[q];simp⟩⟩
def Un.refl:Un fs ex H H h h:=Un.kept λ_ _ q=>q
def Un.laid(k:∀b u,h.get? b=some u->h'.get? b=some u)(hp:h.objs.size<=a)(hn:H a=none):Un fs ex H (upd H a o) h h' where
 keep:=λb u q _ _ _=>k b u q
 slot:=λb u q _ _ _=>⟨u.slots,k b u q⟩
 free:=λb u q n _=>by rw[zaf (YAv (YAt (YAm q) hp))];exact n
 there:=λb u q _=>⟨u,k b u q⟩
 tups:=λb xs q=>by rw[zaf (zae q hn)];exact q
 frzs:=λb u xs q=>by rw[zaf (zae q hn)];exact q
 tbls:=λb ps q=>⟨#[],by rw[zaf (zae q hn),q];simp⟩
def Un.write(mu:Mut (H x))(he:e=x\/H e=some (.own x))(k:∀b u,b≠e->h.get? b=some u->h'.get? b=some u)(heo:∃u,h'.get? e=some u):Un fs ex H (upd H x o) h h':=by
 have hx:∀b,H b=none->b≠x:=λb n z=>by subst z;rw[n]at mu;exact mu
 have hb:∀b,H b=none->b≠e:=λb n z=>by
  subst z;rcases he with r|r
  .exact hx b n r
  .rw[n]at r;cases r
 have hm:∀b u,H b=some u->¬ Mut (some u)->b≠x:=λb u q nm z=>by subst z;rw[q]at mu;exact nm mu
 refine⟨λb u q n _ _=>k b u (hb b n) q,λb u q n _ _=>⟨u.slots,k b u (hb b n) q⟩,λb u q n _=>by rw[zaf (hx b n)];exact n,λb u q _=>?_,
  λb xs q=>by rw[zaf (hm b _ q λz=>z)];exact q,λb u xs q=>by rw[zaf (hm b _ q λz=>z)];exact q,λb ps q=>⟨#[],by rw[zaf (hm b _ q λz=>z),q];simp⟩⟩
 by_cases hbe:b=e
 .subst hbe;exact heo
 .exact⟨u,k b u hbe q⟩
end
def trk(h:Heap)(H:Hp):List Addr:=(List.range h.objs.size).filter λa=>(H a).isSome
def hidT(h:Heap)(H:Hp):Heap:=PySem.W.hideAll h (trk h H)
def zmt(h:Heap)(H:Hp):(hidT h H).objs.size=h.objs.size:=PySem.W.hideAll_size _ _
def znJ{h:Heap}{H:Hp}{b:Addr}{o:Obj}(e:h.get? b=some o)(n:H b=none):(hidT h H).get? b=some o:=
 PySem.W.hideAll_get _ e λhm=>by
  have q:(H b).isSome=true:=(YBa.mp hm).2;rw[n]at q;simp at q
def zpg{h:Heap}{H:Hp}{b:Addr}{o:Obj}(e:(hidT h H).get? b=some o):h.get? b=some o/\H b=none:=by
 have e':h.get? b=some o:=PySem.W.of_hideAll (trk h H) e;refine⟨e',?_⟩;cases q:H b with
 |none=>rfl
 |some x=>
  have hm:b∈trk h H:=YBa.mpr ⟨YBg.mpr (YAm e'),by simp[q]⟩;have z:(hidT h H).get? b=none:=PySem.W.hideAll_none (trk h H) hm;rw[z]at e;cases e
structure Mod(K:qg)(mg:Str->Option Value)(base:Heap):Prop where
 kin:K.In base
 glob:base.Ns mainGlobals mg
 blt:∃mb,base.Ns builtinsNs mb/\∀x:Str,x≠"__name__" -> mb x=bootBuiltins x
 nolimit:base.NoLimit
structure Cx where
 prog:Program
 w:World
 K:qg
 mg:Str->Option Value
 base:Heap
 A:Around
 N:List Str
 s₀:Shared
 H₀:Hp
 env:Env
 outer:List Env
 stack:List Env
 ex:List Addr
 fn:Str->Bool
 calm:Bool
 pn:List (Addr×Obj)
 xe:Value->Shared->Prop
def frs(l:List Env):List Addr:=l.filterMap (·.frame)
abbrev Cx.fs(X:Cx):List Addr:=frs X.outer
def Vis(sc:Scope)(x:Str):Prop:=sc.names.lookup x=some .local\/sc.names.lookup x=some .cell\/sc.names.lookup x=some .free
def Loc(sc:Scope)(x:Str):Prop:=sc.names.lookup x=some .local\/sc.names.lookup x=some .cell
def Look(env:Env)(h:Heap)(m:Str->Option Value)(x:Str)(u:Value):Prop:=
 (env.kindOf x=some .local/\m x=some u)\/((env.kindOf x=some .cell\/env.kindOf x=some .free)/\∃c,env.cells.lookup x=some c/\h.IsCell c (some u))
structure Cx.Ok(X:Cx):Prop where
 mod:Mod X.K X.mg X.base
 kind:X.env.scope.kind=.function
 glob:X.env.globals=mainGlobals
 blt:X.env.builtins=builtinsNs
 above:X.s₀.heap.objs.size<=X.env.locals
 inj:∀x y c,X.env.cells.lookup x=some c->X.env.cells.lookup y=some c->x=y
 has:∀x,(X.env.kindOf x=some .cell\/X.env.kindOf x=some .free)->∃c,X.env.cells.lookup x=some c
 cab:∀x c,X.fn x=true->X.env.cells.lookup x=some c->X.s₀.heap.objs.size<=c
 hd:X.calm=true->X.A.handled=none
 frames:X.A.frames=some X.stack
 stk:X.stack=X.outer\/(X.stack=X.env::X.outer/\X.env.frame=some X.env.locals)
 exf:∀b∈X.ex,b≠X.env.locals/\∀x c,X.env.cells.lookup x=some c->c≠b
 bs:∀b o,X.base.get? b=some o->X.s₀.heap.get? b=some o/\X.H₀ b=none
 bsz:X.base.objs.size<=X.s₀.heap.objs.size
 noex:∀b o,X.base.get? b=some o->b∉X.ex
 exfs:∀b∈X.ex,b∉X.fs
 funs:X.s₀.heap.FunFrames X.base X.outer
 frf:∀b∈X.fs,X.H₀ b=none
structure Inv(X:Cx)(O:List (Addr×Obj))(Y:List (Option V))(H:Hp)(s:Shared):Prop where
 ok:X.Ok
 os:s.os=X.s₀.os
 bare:AllBare s.gens
 base:Un X.fs X.ex X.H₀ H X.s₀.heap s.heap
 loc:∃m,s.heap.Ns X.env.locals m/\∀(i:Nat)(x:Str)(v:V),X.N[i]?=some x->Y[i]?=some (some v)->Vis X.env.scope x->∃u,RelV v u/\Look X.env s.heap m x u
 cell:∀x c,X.env.cells.lookup x=some c->∃v,s.heap.IsCell c v
 free:H X.env.locals=none
 freeC:∀x c,X.env.cells.lookup x=some c->H c=none
 pin:∀p∈X.pn++O,s.heap.get? p.1=some p.2/\H p.1=none/\p.1≠X.env.locals/\p.1∉X.fs/\∀v,p.2.data≠.cell v
 hok:HOk X.prog X.w H s.heap
 len:Y.length=X.N.length
section
variable{X:Cx}{O:List (Addr×Obj)}{Y:List (Option V)}{H H':Hp}{s:Shared}{h':Heap}
def Cx.Ok.nofr(ok:X.Ok)(e:X.base.get? b=some o):b∉X.fs:=λhb=>by
 have:=(ok.funs.mem hb).1
 rw[e]at this;cases this
theorem Inv.bs(I:Inv X O Y H s):∀b o,X.base.get? b=some o->s.heap.get? b=some o/\H b=none:=λb o e=>
 ⟨I.base.keep b o (I.ok.bs b o e).1 (I.ok.bs b o e).2 (I.ok.nofr e) (I.ok.noex b o e),I.base.free b o (I.ok.bs b o e).1 (I.ok.bs b o e).2 (I.ok.noex b o e)⟩
def Inv.bk(I:Inv X O Y H s):∀b o,X.base.get? b=some o->s.heap.get? b=some o:=λb o e=>(I.bs b o e).1
theorem Inv.mod(I:Inv X O Y H s):Mod X.K X.mg X.base:=I.ok.mod
def Inv.kIn(I:Inv X O Y H s):X.K.In s.heap:=I.ok.mod.kin.keeps I.bk
theorem Inv.lt(I:Inv X O Y H s):X.env.locals<s.heap.objs.size:=let⟨_,hn,_⟩:=I.loc;hn.lt
def Inv.sz(I:Inv X O Y H s):X.s₀.heap.objs.size<=s.heap.objs.size:=YAU I.ok.above (YBP I.lt)
def Inv.nofs(I:Inv X O Y H s)(h:s.heap.objs.size<=a):a∉X.fs:=λhb=>by
 obtain⟨_,o,ho,_⟩:=I.ok.funs.mem hb;exact absurd (YAt (YAm ho) (YAU I.sz h)) (YBe _)
def Inv.cne(I:Inv X O Y H s):∀x c,X.env.cells.lookup x=some c->c≠X.env.locals:=λx c e z=>by
 obtain⟨v,o,ho,hd⟩:=I.cell x c e;obtain⟨m,⟨o',es,ep,ho',hd',_⟩,_⟩:=I.loc;rw[z,ho']at ho;cases ho;rw[hd']at hd;cases hd
theorem Inv.funs(I:Inv X O Y H s):s.heap.FunFrames X.base X.outer:=by
 have all:∀(l:List Env),(∀b∈frs l,b∈X.fs)->X.s₀.heap.FunFrames X.base l->s.heap.FunFrames X.base l:=by
  intro l
  induction l with
  |nil=>intro _ _;trivial
  |cons env r ih=>
   intro hs hl;obtain⟨hk,⟨L,o,hf,hn,ho,hd⟩,hr⟩:=hl;have hL:L∈X.fs:=hs L (by unfold frs;rw[YA1,hf];exact YAi);obtain⟨sl,e⟩:=I.base.slot L o ho (I.ok.frf L hL) hL λz=>I.ok.exfs L z hL;exact⟨hk,⟨L,_,hf,hn,e,hd⟩,ih (λb hb=>hs b (by unfold frs;rw[YA1,hf];exact YAp _ hb)) hr⟩
 exact all X.outer (λ_ hb=>hb) I.ok.funs
theorem Inv.stack(I:Inv X O Y H s):s.heap.FunFrames X.base X.stack:=by
 rcases I.ok.stk with e|⟨e,hf⟩
 .rw[e];exact I.funs
 .rw[e];obtain⟨m,hn,_⟩:=I.loc;refine .cons (by rw[I.ok.kind];decide) hf hn ?_ I.funs;exact Heap.get?_none_of_le (YAU I.ok.bsz I.ok.above)
def Inv.stkSub(I:Inv X O Y H s):∀b∈frs X.stack,b∈X.env.locals::X.fs:=λb hb=>by
 rcases I.ok.stk with e|⟨e,hf⟩
 .rw[e]at hb;exact YAp _ hb
 .rw[e]at hb;unfold frs at hb;rw[YA1,hf]at hb;exact hb
def Inv.stkFree(I:Inv X O Y H s):∀b∈frs X.stack,H b=none:=λb hb=>by
 rcases YAn.mp (I.stkSub b hb)with e|hb
 .rw[e];exact I.free
 .obtain⟨_,o,ho,_⟩:=I.ok.funs.mem hb;exact I.base.free b o ho (I.ok.frf b hb) λz=>I.ok.exfs b z hb
def Inv.step{g':Array GenState}{t':Nat}{d':Drawn}{ch:List Addr}(I:Inv X O Y H s)
  (hch:∀b∈ch,(b∈X.ex\/X.s₀.heap.objs.size<=b)/\b≠X.env.locals/\(∀x c,X.env.cells.lookup x=some c->c≠b)/\∀p∈X.pn++O,p.1≠b)
  (keep:∀b o,b≠X.env.locals->b∉X.fs->b∉ch->s.heap.get? b=some o->H b=none->h'.get? b=some o)
  (slot:∀b o,b≠X.env.locals->b∈X.fs->b∉ch->s.heap.get? b=some o->H b=none->∃sl,h'.get? b=some {o with slots:=sl}) (free:∀b o,b∉ch->s.heap.get? b=some o->H b=none->H' b=none)
  (there:∀b o,b∉ch->s.heap.get? b=some o->∃o',h'.get? b=some o')
  (tups:∀b xs,H b=some (.tup xs)->H' b=some (.tup xs)) (frzs:∀b o u,H b=some (.frz o u)->H' b=some (.frz o u)) (tbls:∀b ps,H b=some (.tbl ps)->∃more,H' b=some (.tbl (ps++more)))
  (ns:∀m,s.heap.Ns X.env.locals m->h'.Ns X.env.locals m) (hok:HOk X.prog X.w H' h') (hg:AllBare g') :
  Inv X O Y H' {s with heap:=h',gens:=g',drawn:=d',toks:=t'}:=by
 have neL:∀b o,X.s₀.heap.get? b=some o->b≠X.env.locals:=λb o e=>YAv (YAt (YAm e) I.ok.above);have neC:∀b o,X.s₀.heap.get? b=some o->b∉X.ex->b∉ch:=λb o e hx hb=>by
  rcases(hch b hb).1 with z|z
  .exact hx z
  .exact absurd (YAt (YAm e) z) (YBe _)
 have cellK:∀x c,X.env.cells.lookup x=some c->∀v,s.heap.IsCell c v->h'.IsCell c v:=λx c e v ⟨o,ho,hd⟩=>by
  have nch:c∉ch:=λz=>(hch c z).2.2.1 x c e rfl;by_cases hc:c∈X.fs
  .obtain⟨sl,q⟩:=slot c o (I.cne x c e) hc nch ho (I.freeC x c e);exact⟨_,q,hd⟩
  .exact⟨o,keep c o (I.cne x c e) hc nch ho (I.freeC x c e),hd⟩
 refine⟨I.ok,I.os,hg,⟨λb o e n hb hx=>?_,λb o e n hb hx=>?_,λb o e n hx=>?_,λb o e hx=>?_,λb xs e=>tups b xs (I.base.tups b xs e),λb o xs e=>frzs b o xs (I.base.frzs b o xs e),λb ps e=>?_⟩,?_,λx c e=>?_,?_,λx c e=>?_,λp hp=>?_,hok,I.len⟩
 .exact keep b o (neL b o e) hb (neC b o e hx) (I.base.keep b o e n hb hx) (I.base.free b o e n hx)
 .obtain⟨sl,e1⟩:=I.base.slot b o e n hb hx;obtain⟨sl',e2⟩:=slot b _ (neL b o e) hb (neC b o e hx) e1 (I.base.free b o e n hx);exact⟨sl',e2⟩
 .obtain⟨o',e1⟩:=I.base.there b o e hx;exact free b o' (neC b o e hx) e1 (I.base.free b o e n hx)
 .obtain⟨o',e1⟩:=I.base.there b o e hx;exact there b o' (neC b o e hx) e1
 .obtain⟨m1,e1⟩:=I.base.tbls b ps e;obtain⟨m2,e2⟩:=tbls b _ e1;exact⟨m1++m2,by rw[e2,Array.append_assoc]⟩
 .obtain⟨m,hn,hl⟩:=I.loc;refine⟨m,ns m hn,λi x v e1 e2 e3=>?_⟩;obtain⟨u,r,l⟩:=hl i x v e1 e2 e3;refine⟨u,r,?_⟩;rcases l with l|⟨k,c,e,z⟩
  .exact .inl l
  .exact .inr ⟨k,c,e,cellK x c e _ z⟩
 .obtain⟨v,z⟩:=I.cell x c e;exact⟨v,cellK x c e v z⟩
 .obtain⟨m,⟨o,_,_,ho,_⟩,_⟩:=I.loc;exact free _ o (λz=>(hch _ z).2.1 rfl) ho I.free
 .obtain⟨v,o,ho,hd⟩:=I.cell x c e;exact free c o (λz=>(hch c z).2.2.1 x c e rfl) ho (I.freeC x c e)
 .obtain⟨e,n,ne,nf,d⟩:=I.pin p hp;have nch:p.1∉ch:=λz=>(hch p.1 z).2.2.2 p hp rfl;exact⟨keep p.1 p.2 ne nf nch e n,free p.1 p.2 nch e n,ne,nf,d⟩
def Inv.un{t':Nat}(I:Inv X O Y H s)(u:Un X.fs [] H H' s.heap h')(hok:HOk X.prog X.w H' h'):Inv X O Y H' {s with heap:=h',toks:=t'}:=by
 obtain⟨m,⟨o,es,ep,ho,r⟩,_⟩:=id I.loc;obtain⟨sl,hL⟩:=u.any ho I.free (by simp);exact I.step (g':=s.gens) (d':=s.drawn) (ch:=[]) (λ_ z=>nomatch z) (λb o _ hb _ e n=>u.keep b o e n hb (by simp)) (λb o _ hb _ e n=>u.slot b o e n hb (by simp)) (λb o _ e n=>u.free b o e n (by simp)) (λb o _ e=>u.there b o e (by simp)) u.tups u.frzs u.tbls (λm' hm=>by
  obtain⟨o',es',ep',ho',r'⟩:=hm;rw[ho]at ho';cases ho';exact⟨_,es',ep',hL,r'⟩) hok I.bare
def Inv.call{g':Array GenState}{t':Nat}{d':Drawn}{ch:List Addr}(I:Inv X O Y H s)(u:Un (frs X.stack) ch H H' s.heap h')(hok:HOk X.prog X.w H' h')(hg:AllBare g')
  (hch:∀b∈ch,(b∈X.ex\/X.s₀.heap.objs.size<=b)/\b≠X.env.locals/\(∀x c,X.env.cells.lookup x=some c->c≠b)/\∀p∈X.pn++O,p.1≠b) :
  Inv X O Y H' {s with heap:=h',gens:=g',drawn:=d',toks:=t'}:=by
 obtain⟨m,⟨o,es,ep,ho,r⟩,_⟩:=id I.loc;obtain⟨sl,hL⟩:=u.any ho I.free λz=>(hch _ z).2.1 rfl;exact I.step (ch:=ch) hch (λb o hL hb hc e n=>u.keep b o e n (λz=>(YAn.mp (I.stkSub b z)).elim hL hb) hc) (λb o _ _ hc e n=>u.any e n hc) (λb o hc e n=>u.free b o e n hc) (λb o hc e=>u.there b o e hc) u.tups u.frzs u.tbls (λm' hm=>by
  obtain⟨o',es',ep',ho',r'⟩:=hm;rw[ho]at ho';cases ho';exact⟨_,es',ep',hL,r'⟩) hok hg
def Inv.turned{t':Nat}{it:Addr}(I:Inv X O Y H s)(k:∀b o,b≠it->s.heap.get? b=some o->h'.get? b=some o)(hn:H it=none)(hL:it≠X.env.locals)
  (h1:it∈X.ex\/X.s₀.heap.objs.size<=it) (h2:∀x c,X.env.cells.lookup x=some c->c≠it) (h3:∀p∈X.pn++O,p.1≠it):Inv X O Y H {s with heap:=h',toks:=t'}:=by
 have nit:∀b u,H b=some u->b≠it:=λb u e z=>by rw[z,hn]at e;cases e
 refine I.step (g':=s.gens) (d':=s.drawn) (ch:=[it]) (λb hb=>?_) (λb o _ _ hc e _=>k b o (λz=>hc (by simp[z])) e) (λb o _ _ hc e _=>⟨o.slots,k b o (λz=>hc (by simp[z])) e⟩) (λ_ _ _ _ n=>n)
  (λb o hc e=>⟨o,k b o (λz=>hc (by simp[z])) e⟩) (λ_ _ e=>e) (λ_ _ _ e=>e) (λb ps e=>⟨#[],by rw[e];simp⟩) (λm hm=>?_) (λb u e=>?_) I.bare
 .have e:b=it:=by simpa using hb
  subst e;exact⟨h1,hL,h2,h3⟩
 .obtain⟨o,es,ep,ho,r⟩:=hm;exact⟨o,es,ep,k _ o (Ne.symm hL) ho,r⟩
 .refine(I.hok b u e).stay (λc v hc q=>k c v ?_ q) (λ_ q=>q) λ_ _ q=>q;rcases hc with z|z
  .rw[z];exact nit b u e
  .exact nit c _ z
def Inv.tok(I:Inv X O Y H s)(t:Nat):Inv X O Y H {s with toks:=t}:=I.un (h':=s.heap) (t':=t) Un.refl I.hok
theorem Inv.kept{t':Nat}(I:Inv X O Y H s)(k:∀b u,s.heap.get? b=some u->h'.get? b=some u):Inv X O Y H {s with heap:=h',toks:=t'}:=I.un (Un.kept k) (I.hok.kept k)
theorem Inv.laid{a:Addr}{o:HO}{t':Nat}(I:Inv X O Y H s)(k:∀b u,s.heap.get? b=some u->h'.get? b=some u)(hp:s.heap.objs.size<=a)(new:ObjOk X.prog X.w (upd H a o) h' a o) :
  Inv X O Y (upd H a o) {s with heap:=h',toks:=t'}:=I.un (Un.laid k hp (I.hok.fresh hp)) (I.hok.laid k hp new)
theorem Inv.write{x e:Addr}{o:HO}{t':Nat}(I:Inv X O Y H s)(mu:Mut (H x))(he:e=x\/H e=some (.own x))(k:∀b u,b≠e->s.heap.get? b=some u->h'.get? b=some u)(heo:∃u,h'.get? e=some u)
  (new:ObjOk X.prog X.w (upd H x o) h' x o):Inv X O Y (upd H x o) {s with heap:=h',toks:=t'}:=I.un (Un.write mu he k heo) (I.hok.write mu he k heo new)
def Inv.weak(I:Inv X O Y H s)(hl:Y'.length=Y.length)(w:∀(i:Nat) v,Y'[i]?=some (some v)->Y[i]?=some (some v)):Inv X O Y' H s:=
 ⟨I.ok,I.os,I.bare,I.base,let⟨m,hn,hl'⟩:=I.loc;⟨m,hn,λi x v e1 e2 e3=>hl' i x v e1 (w i v e2) e3⟩,I.cell,I.free,I.freeC,I.pin,I.hok,hl.trans I.len⟩
def Inv.pins_of(I:Inv X O Y H s)(h:∀p∈pins',s.heap.get? p.1=some p.2/\H p.1=none/\p.1≠X.env.locals/\p.1∉X.fs/\∀v,p.2.data≠.cell v):Inv X pins' Y H s:=
 ⟨I.ok,I.os,I.bare,I.base,I.loc,I.cell,I.free,I.freeC,λp hp=>(YAk.mp hp).elim (λz=>I.pin p (YAx _ z)) (h p),I.hok,I.len⟩
def zjN{N:List Str}(hN:N.Nodup){i j:Nat}{x:Str}(a:N[i]?=some x)(b:N[j]?=some x):i=j:=by
 obtain⟨h1,e1⟩:=YAh.mp a;obtain⟨h2,e2⟩:=YAh.mp b;exact(YDN hN).mp (e1.trans e2.symm)
def zf6{qf:Model}{A:Around}{E:Value->Shared->Prop}{i:Nat}{x:Str}{v:V}{u:Value}{Q:Unit->Shared->Prop}(I:Inv X O Y H s)(hN:X.N.Nodup)(hi:X.N[i]?=some x)(hx:Loc X.env.scope x)(r:RelV v u)
  (h:∀s',Inv X O (Y.set i (some v)) H s'->(∃a,Heap.SameBut a s.heap s'.heap/\(a=X.env.locals\/X.env.cells.lookup x=some a))->Q () s') (hf:X.fn x=true\/X.env.scope.names.lookup x=some .local:=by first|exact .inl rfl|exact .inr rfl|assumption):wpAny qf A (storeName X.env x u) Q E s:=by
 obtain⟨m,hn,hl⟩:=id I.loc;have hcls:(X.env.scope.kind==.class || (X.env.scope.kind==.module&&X.env.locals != X.env.globals))=false:=by rw[I.ok.kind];rfl
 have hiσ:i<Y.length:=by rw[I.len];exact(YAh.mp hi).1
 have cne:=I.cne;have tracked:∀{a:Addr}{h':Heap},(∃o,s.heap.get? a=some o/\H a=none)->Heap.SameBut a s.heap h'->HOk X.prog X.w H h':=λ{a h'} ha hs b ob e=>by
  obtain⟨_,_,hfree⟩:=ha;refine(I.hok b ob e).stay (λc w' hc q=>(hs.2 c ?_).trans q) (λ_ q=>q) λ_ _ q=>q;rintro rfl;rcases hc with rfl|hc
  .rw[hfree]at e;cases e
  .rw[hfree]at hc;cases hc
 rcases hx with hk|hk
 .refine wpAny_storeName_local hk hn (λh' hn' hs=>?_) hcls;obtain⟨oL,_,_,hoL,_⟩:=id hn;refine h _ ⟨I.ok,I.os,I.bare,⟨λb o e n hb hx=>?_,λb o e n hb hx=>?_,I.base.free,λb o e hx=>?_,I.base.tups,I.base.frzs,I.base.tbls⟩,⟨_,hn',λj y v' e1 e2 e3=>?_⟩,λy c e=>?_,I.free,I.freeC,λp hp=>?_,tracked ⟨oL,hoL,I.free⟩ hs,by simpa using I.len⟩ ⟨_,hs,.inl rfl⟩
  .exact(hs.2 b (YAv (YAt (YAm e) I.ok.above))).trans (I.base.keep b o e n hb hx)
  .obtain⟨sl,e1⟩:=I.base.slot b o e n hb hx;exact⟨sl,(hs.2 b (YAv (YAt (YAm e) I.ok.above))).trans e1⟩
  .obtain⟨o',e1⟩:=I.base.there b o e hx;exact⟨o',(hs.2 b (YAv (YAt (YAm e) I.ok.above))).trans e1⟩
  .by_cases hj:j=i
   .subst hj;rw[hi]at e1;cases e1;rw[YAI hiσ]at e2;cases e2;exact⟨u,r,.inl ⟨hk,by simp⟩⟩
   .rw[YAD (Ne.symm hj)]at e2;obtain⟨u',r',q⟩:=hl j y v' e1 e2 e3;refine⟨u',r',?_⟩;rcases q with⟨k,e⟩|⟨k,c,e,z⟩
    .refine .inl ⟨k,?_⟩
     have:y≠x:=λe=>hj (zjN hN e1 (e▸hi))
     simp[this,e]
    .exact .inr ⟨k,c,e,z.sameBut hs (cne y c e)⟩
  .obtain⟨w',z⟩:=I.cell y c e;exact⟨w',z.sameBut hs (cne y c e)⟩
  .obtain⟨e,n,ne,nf,d⟩:=I.pin p hp;exact⟨(hs.2 p.1 ne).trans e,n,ne,nf,d⟩
 .have hfn:X.fn x=true:=by
   rcases hf with z|z
   .exact z
   .rw[z]at hk;cases hk
  obtain⟨c,hc⟩:=I.ok.has x (.inl hk);obtain⟨w',z⟩:=I.cell x c hc;refine wpAny_storeName_cell I.ok.kind hk hc z (λh' hc' hs=>?_);obtain⟨oc,hoc,hocd⟩:=id z;refine h {s with heap:=h'} ⟨I.ok,I.os,I.bare,⟨λb o e n hb hx=>?_,λb o e n hb hx=>?_,I.base.free,λb o e hx=>?_,I.base.tups,I.base.frzs,I.base.tbls⟩,⟨m,hn.sameBut hs (Ne.symm (cne x c hc)),λj y v' e1 e2 e3=>?_⟩,λy c' e=>?_,I.free,I.freeC,λp hp=>?_,tracked ⟨oc,hoc,I.freeC x c hc⟩ hs,by simpa using I.len⟩ ⟨c,hs,.inr hc⟩
  .exact(hs.2 b (YAv (YAt (YAm e) (I.ok.cab x c hfn hc)))).trans (I.base.keep b o e n hb hx)
  .obtain⟨sl,e1⟩:=I.base.slot b o e n hb hx;exact⟨sl,(hs.2 b (YAv (YAt (YAm e) (I.ok.cab x c hfn hc)))).trans e1⟩
  .obtain⟨o',e1⟩:=I.base.there b o e hx;exact⟨o',(hs.2 b (YAv (YAt (YAm e) (I.ok.cab x c hfn hc)))).trans e1⟩
  .by_cases hj:j=i
   .subst hj;rw[hi]at e1;cases e1;rw[YAI hiσ]at e2;cases e2;exact⟨u,r,.inr ⟨.inl hk,c,hc,hc'⟩⟩
   .rw[YAD (Ne.symm hj)]at e2;obtain⟨u',r',q⟩:=hl j y v' e1 e2 e3;refine⟨u',r',?_⟩;rcases q with q|⟨k,c',e,z'⟩
    .exact .inl q
    .refine .inr ⟨k,c',e,z'.sameBut hs ?_⟩;rintro rfl;exact hj (zjN hN e1 (I.ok.inj _ _ _ e hc▸hi))
  .by_cases hcc:c'=c
   .subst hcc;exact⟨_,hc'⟩
   .obtain⟨w2,z2⟩:=I.cell y c' e;exact⟨w2,z2.sameBut hs hcc⟩
  .obtain⟨e,n,ne,nf,d⟩:=I.pin p hp;refine⟨(hs.2 p.1 ?_).trans e,n,ne,nf,d⟩;intro q;rw[q,hoc]at e;have q':oc=p.2:=Option.some.inj e;exact d w' (by rw[<-q'];exact hocd)
def zhN{qf:Model}{A:Around}{E:Value->Shared->Prop}{i:Nat}{x:Str}{v:V}{u:Value}{Q:Unit->Shared->Prop}(I:Inv X O Y H s)(hN:X.N.Nodup)(hi:X.N[i]?=some x)(hx:Loc X.env.scope x)(r:RelV v u)
  (h:∀s',Inv X O (Y.set i (some v)) H s'->Q () s') (hf:X.fn x=true\/X.env.scope.names.lookup x=some .local:=by first|exact .inl rfl|exact .inr rfl|assumption):wpAny qf A (storeName X.env x u) Q E s:=
 zf6 I hN hi hx r (λs' I' _=>h s' I') hf
def Inv.call'(I:Inv X O Y H s)(ho:s'.os=s.os)(u:Un (frs X.stack) ch H H' s.heap s'.heap)(hok:HOk X.prog X.w H' s'.heap)(hg:AllBare s'.gens)
  (hch:∀b∈ch,(b∈X.ex\/X.s₀.heap.objs.size<=b)/\b≠X.env.locals/\(∀x c,X.env.cells.lookup x=some c->c≠b)/\∀p∈X.pn++O,p.1≠b):Inv X O Y H' s':=by
 obtain⟨h',g',d',t',o'⟩:=s';have e:o'=s.os:=ho;subst e;exact I.call (g':=g') (t':=t') (d':=d') u hok hg hch
end
abbrev XK:=Value->Option Addr->Hp->Prop
abbrev St:=List (Option V)
abbrev VK:=V->Hp->Prop
abbrev TE:=St->Hp->VK->Prop
abbrev TT:=St->Hp->(Bool->Hp->Prop)->Prop
abbrev TA:=St->Hp->(List V->Hp->Prop)->Prop
structure Ends where
 nx:St->Hp->Prop
 rt:VK
 bk:St->Hp->Prop:=λ_ _=>False
 ct:St->Hp->Prop:=λ_ _=>False
abbrev TS:=Ends->St->Hp->Prop
def EP(X:Cx)(O:List (Addr×Obj))(Y:St)(Q:VK)(u:Value)(s':Shared):Prop:=∃v H',Inv X O Y H' s'/\RelV v u/\Q v H'
def TP(X:Cx)(O:List (Addr×Obj))(Y:St)(Q:Bool->Hp->Prop)(b:Bool)(s':Shared):Prop:=∃H',Inv X O Y H' s'/\Q b H'
def AP(X:Cx)(O:List (Addr×Obj))(Y:St)(Q:List V->Hp->Prop)(us:List Value)(s':Shared):Prop:=∃vs H',Inv X O Y H' s'/\Vals vs us/\Q vs H'
noncomputable def SP(X:Cx)(O:List (Addr×Obj))(D:Ends)(f:Flow)(s':Shared):Prop:=
 match f with
 |.next=>∃ Y' H',Inv X O Y' H' s'/\D.nx Y' H'
 |.brk=>∃ Y' H',Inv X O Y' H' s'/\D.bk Y' H'
 |.cont=>∃ Y' H',Inv X O Y' H' s'/\D.ct Y' H'
 |.ret u=>∃v Y' H',Inv X O Y' H' s'/\RelV v u/\D.rt v H'
def PE(X:Cx)(e:Expr)(t:TE):Prop:=
 ∀(O:List (Addr×Obj))(s:Shared)(Y:St)(H:Hp)(Q:VK),Inv X O Y H s->t Y H Q->wpAny (model X.prog X.w) X.A (eval e X.env) (EP X O Y Q) X.xe s
def PT(X:Cx)(e:Expr)(t:TT):Prop:=
 ∀(O:List (Addr×Obj))(s:Shared)(Y:St)(H:Hp)(Q:Bool->Hp->Prop),Inv X O Y H s->t Y H Q->wpAny (model X.prog X.w) X.A (isTrue e X.env (eval e X.env)) (TP X O Y Q) X.xe s
def PW(X:Cx)(e:Expr)(t:TT):Prop:=
 ∀(whole:Sem Value)(O:List (Addr×Obj))(s:Shared)(Y:St)(H:Hp)(Q:Bool->Hp->Prop),Inv X O Y H s->t Y H Q->wpAny (model X.prog X.w) X.A (isTrue e X.env whole) (TP X O Y Q) X.xe s
def PW.pt{X:Cx}{e:Expr}{t:TT}(h:PW X e t):PT X e t:=h _
def PA(X:Cx)(es:List Expr)(t:TA):Prop:=
 ∀(pos:Pos)(O:List (Addr×Obj))(s:Shared)(Y:St)(H:Hp)(Q:List V->Hp->Prop),Inv X O Y H s->t Y H Q->wpAny (model X.prog X.w) X.A (spliced (backTo pos (starEach es X.env))) (AP X O Y Q) X.xe s
def PS(X:Cx)(st:Stmt)(t:TS):Prop:=
 ∀(O:List (Addr×Obj))(s:Shared)(Y:St)(H:Hp)(D:Ends),Inv X O Y H s->t D Y H->wpAny (model X.prog X.w) X.A (exec st X.env) (SP X O D) X.xe s
def PSs(X:Cx)(st:List Stmt)(t:TS):Prop:=
 ∀(O:List (Addr×Obj))(s:Shared)(Y:St)(H:Hp)(D:Ends),Inv X O Y H s->t D Y H->wpAny (model X.prog X.w) X.A (execs st X.env) (SP X O D) X.xe s
def thn{α:Type}{t:Sem α}{Q Q':α->Shared->Prop}{qf:Model}{A:Around}{E:Value->Shared->Prop}{s:Shared}(h:wpAny qf A t Q E s)(hQ:∀a s,Q a s->Q' a s):wpAny qf A t Q' E s:=YA2 h hQ λ_ _ x=>x
section
variable{X:Cx}
def tVar(i:Nat):TE:=λY H Q=>∃v,Y[i]?=some (some v)/\Q v H
def tC(v:V):TE:=λ_ H Q=>Q v H
def zei(hN:X.N[i]?=some x)(hv:Vis X.env.scope x)(hd:(x==("__debug__":Str))=false:=by decide)(hcd:(x==("__classdict__":Str))=false:=by decide):PE X (.Name x pos) (tVar i):=by
 intro O s Y H Q I h;obtain⟨v,e,h⟩:=h;obtain⟨m,hn,hl⟩:=I.loc;obtain⟨u,r,l⟩:=hl i x v hN e hv;have fin:EP X O Y Q u s:=⟨v,H,I,r,h⟩;rcases l with⟨hk,hm⟩|⟨hk,c,hc,hcell⟩
 .exact wpAny_Name (wpAny_loadName_local I.ok.kind hk hn hm fin) hd
 .rcases hk with hk|hk
  .exact wpAny_Name (wpAny_loadName_cell I.ok.kind hk hc hcell fin) hd
  .exact wpAny_Name (wpAny_loadName_free I.ok.kind hk hc hcell fin hcd) hd
def zaI{i j pos}:PE X (.Constant (.int i) j pos) (tC (.int i)):=λ_ _ _ H _ I h=>wpAny_Constant_int ⟨.int i,H,I.tok _,⟨_,rfl⟩,h⟩
def zo2{b j pos}:PE X (.Constant (.bool b) j pos) (tC (.bl b)):=λ_ _ _ H _ I h=>Constant_bool ⟨.bl b,H,I,rfl,h⟩
def zkE{j pos}:PE X (.Constant .none j pos) (tC .non):=λ_ _ _ H _ I h=>Constant_none ⟨.non,H,I,rfl,h⟩
def zq9{x j pos}:PE X (.Constant (.str x) j pos) (tC (.str x)):=λ_ _ _ H _ I h=>Calls.Constant_str ⟨.str x,H,I.tok _,⟨_,rfl⟩,h⟩
def Gl(X:Cx)(x:Str):Prop:=X.env.kindOf x=some .globalImplicit
def zpl{E:Value->Shared->Prop}{O:List (Addr×Obj)}{s:Shared}{Y:St}{H:Hp}{x:Str}{u:Value}{pos:Pos}{Q:Value->Shared->Prop}(I:Inv X O Y H s)(hg:Gl X x)(hm:X.mg x=some u)(h:Q u s)
  (hd:(x==("__debug__":Str))=false:=by decide):wpAny (model X.prog X.w) X.A (eval (.Name x pos) X.env) Q E s:=
 Calls.Name_function_global I.ok.kind hg (Calls.loadGlobal_global (by rw[I.ok.glob];exact I.mod.glob.keeps I.bk) hm h) hd
def zgD{E:Value->Shared->Prop}{O:List (Addr×Obj)}{s:Shared}{Y:St}{H:Hp}{x:Str}{u:Value}{pos:Pos}{Q:Value->Shared->Prop}(I:Inv X O Y H s)(hg:Gl X x)(hm:X.mg x=none)(hv:bootBuiltins x=some u)(h:Q u s)
  (hn:x≠"__name__":=by decide) (hd:(x==("__debug__":Str))=false:=by decide):wpAny (model X.prog X.w) X.A (eval (.Name x pos) X.env) Q E s:=by
 obtain⟨mb,h1,h2⟩:=I.mod.blt;exact Calls.Name_function_global I.ok.kind hg (Calls.loadGlobal_builtin (by rw[I.ok.glob];exact I.mod.glob.keeps I.bk) hm (by rw[I.ok.blt];exact h1.keeps I.bk) ((h2 x hn).trans hv) h) hd
def zpo(hg:Gl X x)(hm:X.mg x=none)(hv:bootBuiltins x=some u)(r:RelV v u)(hn:x≠"__name__":=by decide)(hd:(x==("__debug__":Str))=false:=by decide):PE X (.Name x pos) (tC v):=
 λ_ _ _ H _ I h=>zgD I hg hm hv ⟨v,H,I,r,h⟩ hn hd
variable{a b:Expr}{ta tb:TE}{pos:Pos}
noncomputable def PC(X:Cx)(op:CmpOp)(a b:Expr)(t:TE):Prop:=
 ∀(O:List (Addr×Obj))(s:Shared)(Y:St)(H:Hp)(Q:VK),Inv X O Y H s->t Y H Q ->
  wpAny (model X.prog X.w) X.A (eval a X.env) (λv s₁=>wpAny (model X.prog X.w) X.A (eval b X.env) (λu s₂=>wpAny (model X.prog X.w) X.A (compareOp op v u) (EP X O Y Q) X.xe s₂) X.xe s₁) X.xe s
def zjQ(b:Expr){op:CmpOp}(h:op≠.In)(h2:op≠.NotIn):behindInMarks op b=false:=by
 have e1:(op==CmpOp.In)=false:=by cases op<;>first|rfl|exact absurd rfl h
 have e2:(op==CmpOp.NotIn)=false:=by cases op<;>first|rfl|exact absurd rfl h2
 cases b<;>simp[behindInMarks,e1,e2]
def tIsN(ta:TE):TE:=λY H Q=>ta Y H λx H1=>Q (.bl (decide (x=.non))) H1
def zr2(ta:TE):TE:=λY H Q=>ta Y H λx H1=>Q (.bl (!decide (x=.non))) H1
def RelV.none_iff{x:V}{v:Value}(r:RelV x v):(v==Value.none)=decide (x=.non):=by
 cases x with
 |non=>cases r;rfl
 |bl _=>cases r;rfl
 |int _=>obtain⟨t,rfl⟩:=r;rfl
 |str _=>obtain⟨t,rfl⟩:=r;rfl
 |byt _=>obtain⟨t,rfl⟩:=r;rfl
 |flt _=>obtain⟨t,rfl⟩:=r;rfl
 |ref _=>cases r;rfl
 |ty _=>cases r;rfl
def zoZ{j pos'}(ha:PE X a ta):PC X .Is a (.Constant .none j pos') (tIsN ta):=by
 intro O s Y H Q I h;refine thn (ha O s Y H _ I h) λv s1 ⟨x,H1,I1,r1,q1⟩=>?_;exact Constant_none (is_none_gen ⟨.bl _,H1,I1,by rw[r1.none_iff];rfl,q1⟩)
def zmM{j pos'}(ha:PE X a ta):PC X .IsNot a (.Constant .none j pos') (zr2 ta):=by
 intro O s Y H Q I h;refine thn (ha O s Y H _ I h) λv s1 ⟨x,H1,I1,r1,q1⟩=>?_;exact Constant_none (isnot_none_gen ⟨.bl _,H1,I1,by rw[r1.none_iff];rfl,q1⟩)
def tB(t:TE):TT:=λY H Q=>t Y H λx H1=>∃c,x=.bl c/\Q c H1
def zoY(h:PC X op a b t)(h1:behindInMarks op b=false:=by first|exact zjQ _ (by decide) (by decide)|rfl):PE X (.Compare a [op] [b] pos) t:=λO s Y H Q I hw=>wpAny_Compare1 (h O s Y H Q I hw) h1
def ziC{op:CmpOp}{t:TE}(h:PC X op a b t)(h1:behindInMarks op b=false:=by first|exact zjQ _ (by decide) (by decide)|rfl):PT X (.Compare a [op] [b] pos) (tB t):=by
 intro O s Y H Q I hw;refine wpAny_isTrue_Compare1 (thn (h O s Y H _ I hw) λv s1 h1=>thn h1 λu s2 h2=>thn h2 λc s3 ⟨x,H1,I1,r1,q1⟩=>?_) h1;obtain⟨d,rfl,q⟩:=q1;cases r1;exact YBM ⟨H1,I1,q⟩
def zrh{e:Expr}{t:TE}(h:PE X e t)(he:∀whole,isTrue e X.env whole=(do let v <-whole;standAt e.pos;holding [v] (truthy v)):=by intro _;rfl):PT X e (tB t):=by
 intro O s Y H Q I hw;refine isTrue_plain (thn (h O s Y H _ I hw) λv s1 ⟨x,H1,I1,r1,q1⟩=>?_) (he _);obtain⟨d,rfl,q⟩:=q1;cases r1;exact YBM ⟨H1,I1,q⟩
variable{tA tB':TT}{rest:List Expr}
def tAnd(t u:TT):TT:=λY H Q=>t Y H λc H1=>if c=true then u Y H1 Q else Q false H1
def tOr(t u:TT):TT:=λY H Q=>t Y H λc H1=>if c=true then Q true H1 else u Y H1 Q
def tNot(t:TT):TT:=λY H Q=>t Y H λc H1=>Q (!c) H1
def zjc(ha:PT X a tA):PW X (.BoolOp .And [a] pos) tA:=by
 intro wh O s Y H Q I h;refine isTrue_and (thn (ha O s Y H Q I h) λc s1 e=>?_);cases c with
 |true=>exact isTrue_and_nil e
 |false=>exact e
def zrJ(ha:PT X a tA):PW X (.BoolOp .Or [a] pos) tA:=by
 intro wh O s Y H Q I h;refine isTrue_or (thn (ha O s Y H Q I h) λc s1 e=>?_);cases c with
 |false=>exact isTrue_or_nil e
 |true=>exact e
def zln(ha:PT X a tA)(hb:PW X (.BoolOp .And (b::rest) pos) tB'):PW X (.BoolOp .And (a::b::rest) pos) (tAnd tA tB'):=by
 intro wh O s Y H Q I h;refine isTrue_and (thn (ha O s Y H _ I h) λc s1 ⟨H1,I1,q1⟩=>?_);cases c with
 |true=>exact hb wh O s1 Y H1 Q I1 q1
 |false=>exact⟨H1,I1,q1⟩
def zsG(ha:PT X a tA)(hb:PW X (.BoolOp .Or (b::rest) pos) tB'):PW X (.BoolOp .Or (a::b::rest) pos) (tOr tA tB'):=by
 intro wh O s Y H Q I h;refine isTrue_or (thn (ha O s Y H _ I h) λc s1 ⟨H1,I1,q1⟩=>?_);cases c with
 |true=>exact⟨H1,I1,q1⟩
 |false=>exact hb wh O s1 Y H1 Q I1 q1
def zqG(ha:PT X a tA):PT X (.UnaryOp .Not a pos) (tNot tA):=by
 intro O s Y H Q I h;exact isTrue_not (ha O s Y H (λc H1=>Q (!c) H1) I h)
def zsk(ta tb:TE):TE:=λY H Q=>ta Y H λx H1=>∃c,x=.bl c/\if c=true then tb Y H1 Q else Q (.bl false) H1
def tOrV(ta tb:TE):TE:=λY H Q=>ta Y H λx H1=>∃c,x=.bl c/\if c=true then Q (.bl true) H1 else tb Y H1 Q
def zsb(ta:TE):TE:=λY H Q=>ta Y H λx H1=>∃c,x=.bl c/\Q (.bl (!c)) H1
def zrK{op}(h:PE X a t):PE X (.BoolOp op [a] pos) t:=λO s Y H Q I hw=>BoolOp_one (h O s Y H Q I hw)
def zqp(ha:PE X a ta)(hb:PE X (.BoolOp .And (b::rest) pos) tb):PE X (.BoolOp .And (a::b::rest) pos) (zsk ta tb):=by
 intro O s Y H Q I h;refine BoolOp_and (thn (ha O s Y H _ I h) λv s1 ⟨x,H1,I1,r1,q1⟩=>?_);obtain⟨c,rfl,q1⟩:=q1;cases r1;refine YBM ?_;cases c with
 |true=>exact hb O s1 Y H1 Q I1 q1
 |false=>exact⟨.bl false,H1,I1,rfl,q1⟩
def zsj(ha:PE X a ta)(hb:PE X (.BoolOp .Or (b::rest) pos) tb):PE X (.BoolOp .Or (a::b::rest) pos) (tOrV ta tb):=by
 intro O s Y H Q I h;refine BoolOp_or (thn (ha O s Y H _ I h) λv s1 ⟨x,H1,I1,r1,q1⟩=>?_);obtain⟨c,rfl,q1⟩:=q1;cases r1;refine YBM ?_;cases c with
 |false=>exact hb O s1 Y H1 Q I1 q1
 |true=>exact⟨.bl true,H1,I1,rfl,q1⟩
def zrc(ha:PE X a ta):PE X (.UnaryOp .Not a pos) (zsb ta):=by
 intro O s Y H Q I h;refine UnaryOp_ (thn (ha O s Y H _ I h) λv s1 ⟨x,H1,I1,r1,q1⟩=>?_);obtain⟨c,rfl,q1⟩:=q1;cases r1;exact not_of (YBM ⟨.bl (!c),H1,I1,rfl,q1⟩)
def tIf(t:TT)(ta tb:TE):TE:=λY H Q=>t Y H λc H1=>if c=true then ta Y H1 Q else tb Y H1 Q
def zoA{c:Expr}(hc:PT X c tA)(ha:PE X a ta)(hb:PE X b tb):PE X (.IfExp c a b pos) (tIf tA ta tb):=by
 intro O s Y H Q I h;refine wpAny_IfExp (thn (hc O s Y H _ I h) λd s1 ⟨H1,I1,q1⟩=>?_);cases d with
 |true=>exact ha O s1 Y H1 Q I1 q1
 |false=>exact hb O s1 Y H1 Q I1 q1
end
def SqL(K:qg)(H:Hp)(a:Addr)(xs:List V):Prop:=
 Rd H a (.lst xs) \/
  ∃(o:Obj)(its:Array Value)(n:Nat),K.lookup a=some o/\o.cls=.type "list" /\ o.dict=none/\o.data=.seq its n/\its.size<=sizeLine/\Vals xs its.toList
def SqT(K:qg)(H:Hp)(a:Addr)(xs:List V):Prop:=
 Rd H a (.tup xs) \/
  ∃(o:Obj)(its:Array Value)(n:Nat),K.lookup a=some o/\o.cls=.type "tuple" /\ o.data=.seq its n/\its.size<=sizeLine/\Vals xs its.toList
def absV:Value->Option V
 |.none=>some .non
 |.bool b=>some (.bl b)
 |.int i _=>some (.int i)
 |.str x _=>some (.str x)
 |.bytes b _=>some (.byt b)
 |.float b _=>some (.flt b)
 |.ref a=>some (.ref a)
 |.type n=>some (.ty n)
 |_=>none
def RelV.abs(r:RelV x u):absV u=some x:=by
 cases x with
 |non=>cases r;rfl
 |bl _=>cases r;rfl
 |int _=>obtain⟨t,rfl⟩:=r;rfl
 |str _=>obtain⟨t,rfl⟩:=r;rfl
 |byt _=>obtain⟨t,rfl⟩:=r;rfl
 |flt _=>obtain⟨t,rfl⟩:=r;rfl
 |ref _=>cases r;rfl
 |ty _=>cases r;rfl
theorem RelV.inj{x y:V}{u:Value}(r:RelV x u)(q:RelV y u):x=y:=Option.some.inj (r.abs.symm.trans q.abs)
theorem Vals.inj:∀{xs ys:List V}{us:List Value},Vals xs us->Vals ys us->xs=ys
 |_,_,_,.nil,.nil=>rfl
 |_,_,_,.cons r t,.cons r' t'=>by rw[r.inj r',Vals.inj t t']
section
variable{X:Cx}{O:List (Addr×Obj)}{Y:St}{H:Hp}{s:Shared}{a:Addr}{xs ys:List V}
def SqL.of{K:qg}(h:H a=some (.lst xs)):SqL K H a xs:=.inl (.inl h)
def SqT.of{K:qg}(h:H a=some (.tup xs)):SqT K H a xs:=.inl (.inl h)
def Inv.list(I:Inv X O Y H s)(h:SqL X.K H a xs):∃its:List Value,Vals xs its/\PlainL s.heap a its.toArray/\xs.length<=sizeLine:=by
 rcases h with h|⟨o,its,n,hk,hc,hd,hs,hz,r⟩
 .obtain⟨z,its,n,r,e⟩:=h.ok I.hok;exact⟨its,r,⟨_,n,e,rfl,rfl,rfl⟩,z⟩
 .refine⟨its.toList,r,⟨o,n,I.kIn a o hk,hc,hd,by simpa using hs⟩,?_⟩;have e:=r.length;simp only[YBc]at e;omega
def Inv.tuple(I:Inv X O Y H s)(h:SqT X.K H a xs):∃its:List Value,Vals xs its/\IsTup s.heap a its.toArray/\xs.length<=sizeLine:=by
 rcases h with h|⟨o,its,n,hk,hc,hs,hz,r⟩
 .obtain⟨z,its,r,p⟩:=h.ok I.hok;exact⟨its,r,p,z⟩
 .refine⟨its.toList,r,⟨o,I.kIn a o hk,hc,n,by simpa using hs⟩,?_⟩;have e:=r.length;simp only[YBc]at e;omega
def Inv.list_inj(I:Inv X O Y H s)(h:SqL X.K H a xs)(h':SqL X.K H a ys):xs=ys:=by
 obtain⟨its,r,⟨o,n,e,_,_,d⟩,_⟩:=I.list h;obtain⟨its',r',⟨o',n',e',_,_,d'⟩,_⟩:=I.list h';rw[e]at e';cases e';rw[d]at d';injection d' with d1 _
 have:its=its':=by simpa using congrArg Array.toList d1
 subst this;exact r.inj r'
def Inv.tuple_inj(I:Inv X O Y H s)(h:SqT X.K H a xs)(h':SqT X.K H a ys):xs=ys:=by
 obtain⟨its,r,⟨o,e,_,n,d⟩,_⟩:=I.tuple h;obtain⟨its',r',⟨o',e',_,n',d'⟩,_⟩:=I.tuple h';rw[e]at e';cases e';rw[d]at d';injection d' with d1 _
 have:its=its':=by simpa using congrArg Array.toList d1
 subst this;exact r.inj r'
end
abbrev Cx.wish(X:Cx)(E:Value->Shared->Prop):Cx:={X with xe:=E}
abbrev Cx.nox(X:Cx):Cx:=X.wish λ_ _=>False
theorem Cx.Ok.wish{X:Cx}(ok:X.Ok)(E:Value->Shared->Prop):(X.wish E).Ok:=
 ⟨ok.mod,ok.kind,ok.glob,ok.blt,ok.above,ok.inj,ok.has,ok.cab,ok.hd,ok.frames,ok.stk,ok.exf,ok.bs,ok.bsz,ok.noex,ok.exfs,ok.funs,ok.frf⟩
def Cx.Ok.unwish{X:Cx}{E:Value->Shared->Prop}(ok:(X.wish E).Ok):X.Ok:=
 ⟨ok.mod,ok.kind,ok.glob,ok.blt,ok.above,ok.inj,ok.has,ok.cab,ok.hd,ok.frames,ok.stk,ok.exf,ok.bs,ok.bsz,ok.noex,ok.exfs,ok.funs,ok.frf⟩
section
variable{X:Cx}{O:List (Addr×Obj)}{Y:St}{H:Hp}{s:Shared}{E:Value->Shared->Prop}
theorem Inv.wish(I:Inv X O Y H s)(E:Value->Shared->Prop):Inv (X.wish E) O Y H s:=⟨I.ok.wish E,I.os,I.bare,I.base,I.loc,I.cell,I.free,I.freeC,I.pin,I.hok,I.len⟩
theorem Inv.unwish(I:Inv (X.wish E) O Y H s):Inv X O Y H s:=⟨I.ok.unwish,I.os,I.bare,I.base,I.loc,I.cell,I.free,I.freeC,I.pin,I.hok,I.len⟩
theorem SP.unwish(h:SP (X.wish E) O D f s'):SP X O D f s':=by
 cases f with
 |next=>obtain⟨Y',H',I,q⟩:=h;exact⟨Y',H',I.unwish,q⟩
 |brk=>obtain⟨Y',H',I,q⟩:=h;exact⟨Y',H',I.unwish,q⟩
 |cont=>obtain⟨Y',H',I,q⟩:=h;exact⟨Y',H',I.unwish,q⟩
 |ret u=>obtain⟨v,Y',H',I,r,q⟩:=h;exact⟨v,Y',H',I.unwish,r,q⟩
theorem PSs.nox{st:List Stmt}{t:TS}(h:PSs X.nox st t):PSs X st t:=λO s Y H D I hw=>
 YA2 (h O s Y H D (I.wish _) hw) (λ_ _ q=>q.unwish) λ_ _ z=>False.elim z
end
section
variable{X:Cx}{st:Stmt}{rest:List Stmt}{t u:TS}{e:Expr}{te:TE}{pos:Pos}
def zsf:TS:=λD Y H=>D.nx Y H
def tSeq(t u:TS):TS:=λD Y H=>t {D with nx:=u D} Y H
def zbL:PSs X [] zsf:=λ_ _ Y H _ I h=>YC8 ⟨Y,H,I,h⟩
def zam(h1:PS X st t)(h2:PSs X rest u):PSs X (st::rest) (tSeq t u):=by
 intro O s Y H D I h;refine wpAny_execs_cons (thn (h1 O s Y H {D with nx:=u D} I h) λf s1 q=>?_);cases f with
 |next=>
  obtain⟨Y',H',I',q⟩:=q;exact h2 O s1 Y' H' D I' q
 |ret v=>exact q
 |brk=>exact q
 |cont=>exact q
def zaA(h1:PS X st t):PSs X [st] t:=by
 intro O s Y H D I h;refine wpAny_execs_cons (thn (h1 O s Y H D I h) λf s1 q=>?_);cases f with
 |next=>exact YC8 q
 |ret v=>exact q
 |brk=>exact q
 |cont=>exact q
def Inv.quiet{O:List (Addr×Obj)}{Y:St}{H:Hp}{s:Shared}(I:Inv X O Y H s):interactive X.env=false:=by simp[interactive,I.ok.kind]
def zsC(te:TE):TS:=λD Y H=>te Y H λ_ H1=>D.nx Y H1
def zdb(he:PE X e te)(hs:swapsWith e none pos.line X.env=pure false:=by rfl):PS X (.Expr e pos) (zsC te):=by
 intro O s Y H D I h;exact wpAny_Expr_any (thn (he O s Y H _ I h) λv s1 ⟨x,H1,I1,r1,q1⟩=>⟨Y,H1,I1,q1⟩) I.quiet hs
def tRet(te:TE):TS:=λD Y H=>te Y H D.rt
def zbI(he:PE X e te):PS X (.Return (some e) pos) (tRet te):=by
 intro O s Y H D I h;exact wpAny_Return_some (thn (he O s Y H _ I h) λv s1 ⟨x,H1,I1,r1,q1⟩=>⟨x,Y,H1,I1,r1,q1⟩)
def tIfS(c:TT)(t u:TS):TS:=λD Y H=>c Y H λb H1=>if b=true then t D Y H1 else u D Y H1
def zeu{c:Expr}{a b:List Stmt}{tc:TT}(hc:PT X c tc)(ha:PSs X a t)(hb:PSs X b u):PS X (.If c a b pos) (tIfS tc t u):=by
 intro O s Y H D I h;refine wpAny_If (thn (hc O s Y H _ I h) λd s1 ⟨H1,I1,q1⟩=>?_);cases d with
 |true=>exact ha O s1 Y H1 D I1 q1
 |false=>exact hb O s1 Y H1 D I1 q1
end
abbrev TG:=V->St->Hp->(St->Hp->Prop)->Prop
abbrev TGs:=List V->St->Hp->(St->Hp->Prop)->Prop
def PG(X:Cx)(target:Expr)(t:TG):Prop:=
 ∀(O:List (Addr×Obj))(s:Shared)(Y:St)(H:Hp)(v:V)(u:Value)(Q:St->Hp->Prop),Inv X O Y H s->RelV v u->t v Y H Q ->
  wpAny (model X.prog X.w) X.A (assign target X.env u) (λ_ s'=>∃ Y' H',Inv X O Y' H' s'/\Q Y' H') X.xe s
noncomputable def PGs(X:Cx)(ts:List Expr)(t:TGs):Prop:=
 ∀(O:List (Addr×Obj))(s:Shared)(Y:St)(H:Hp)(vs:List V)(us:List Value)(Q:St->Hp->Prop),Inv X O Y H s->Vals vs us->t vs Y H Q ->
  wpAny (model X.prog X.w) X.A (assignInOrder ((assignEach ts X.env).map (·.2)) us) (λ_ s'=>∃ Y' H',Inv X O Y' H' s'/\Q Y' H') X.xe s
abbrev TSet:=V->V->V->Hp->(Hp->Prop)->Prop
def PSet(X:Cx)(t:TSet):Prop:=
 ∀(O:List (Addr×Obj))(s:Shared)(Y:St)(H:Hp)(o i v:V)(ov iv u:Value)(Q:Hp->Prop),Inv X O Y H s->RelV o ov->RelV i iv->RelV v u->t o i v H Q ->
  wpAny (model X.prog X.w) X.A (setItem ov iv u) (λ_ s'=>∃H',Inv X O Y H' s'/\Q H') X.xe s
abbrev TIp:=V->V->Hp->VK->Prop
def PIp(X:Cx)(op:Operator)(t:TIp):Prop:=
 ∀(O:List (Addr×Obj))(s:Shared)(Y:St)(H:Hp)(x y:V)(v u:Value)(Q:VK),Inv X O Y H s->RelV x v->RelV y u->t x y H Q ->
  wpAny (model X.prog X.w) X.A (inplaceOp op v u) (EP X O Y Q) X.xe s
section
variable{X:Cx}{pos:Pos}
def zcY(i:Nat):TG:=λv Y H Q=>Q (Y.set i (some v)) H
def zaz(hN:X.N.Nodup)(hi:X.N[i]?=some x)(hx:Loc X.env.scope x)(hf:X.fn x=true\/X.env.scope.names.lookup x=some .local:=by first|exact .inl rfl|exact .inr rfl|assumption):PG X (.Name x pos) (zcY i):=by
 intro O s Y H v u Q I r h;exact YDy (zhN I hN hi hx r (λs' I'=>⟨_,H,I',h⟩) hf)
def gNil:TGs:=λvs Y H Q=>vs=[]/\Q Y H
def ze4(t:TG)(u:TGs):TGs:=λvs Y H Q=>∃v r,vs=v::r/\t v Y H λY' H'=>u r Y' H' Q
def zaG:PGs X [] gNil:=by
 intro O s Y H vs us Q I r h;obtain⟨e,h⟩:=h;subst e;cases r;exact assignInOrder_nil ⟨Y,H,I,h⟩
def zad{e:Expr}{es:List Expr}{t:TG}{u:TGs}(h1:PG X e t)(h2:PGs X es u)
  (hs:(assignEach (e::es) X.env).map (·.2)=assign e X.env::(assignEach es X.env).map (·.2):=by rfl):PGs X (e::es) (ze4 t u):=by
 intro O s Y H vs us Q I r h;obtain⟨v,vr,e1,h⟩:=h;subst e1;cases r with
 |cons r rr=>
  rw[hs];refine assignInOrder_cons (thn (h1 O s Y H _ _ _ I r h) λ_ s1 ⟨Y1,H1,I1,q1⟩=>?_);exact h2 O s1 Y1 H1 _ _ Q I1 rr q1
def gTup(K:qg)(n:Nat)(t:TGs):TG:=λv Y H Q=>∃a xs,v=.ref a/\SqT K H a xs/\xs.length=n/\t xs Y H Q
def zcB(hc:X.calm=true)(h:PGs X es t)
  (hn:(assignEach es X.env).length=n:=by rfl) (hst:(assignEach es X.env).findIdx? (·.1)=none:=by rfl):PG X (.Tuple es k pos) (gTup X.K n t):=by
 intro O s Y H v u Q I r hw;obtain⟨a,xs,e1,hq,hl,hw⟩:=hw;subst e1;cases r;obtain⟨its,rv,ht,hz⟩:=I.tuple hq;refine assign_Tuple_tuple (I.ok.hd hc) ht (by simp[hn,<-hl,rv.length]) hst λh' hx=>?_;have I1:Inv X O Y H {s with heap:=h'}:=I.kept (t':=s.toks) λb o e=>hx b o (YAv (YAm e)) e;exact h O _ Y H xs _ Q I1 (by simpa using rv) hw
def gSub(to ti:TE)(t:TSet):TG:=λv Y H Q=>to Y H λo H1=>ti Y H1 λi H2=>t o i v H2 λH3=>Q Y H3
def ziE{o i:Expr}{to ti:TE}{t:TSet}(ho:PE X o to)(hi:PE X i ti)(hs:PSet X t)
  (ha:∀v,assign (.Subscript o i pos) X.env v=(do
   let ov <-holding [v] (eval o X.env)
   let iv <-holding [v,ov] (eval i X.env)
   standAt pos
   holding [v,ov,iv] (setItem ov iv v)
   release [v,ov,iv] []):=by intro _;rfl):PG X (.Subscript o i pos) (gSub to ti t):=by
 intro O s Y H v u Q I r h;rw[ha];refine YAa (YAZ (thn (ho O s Y H _ I h) λov s1 ⟨x,H1,I1,r1,q1⟩=>?_));refine YAa (YAZ (thn (hi O s1 Y H1 _ I1 q1) λiv s2 ⟨y,H2,I2,r2,q2⟩=>?_));refine YAa (YBp (YAa (YAZ (thn (hs O s2 Y H2 x y v ov iv u _ I2 r1 r2 r q2) λ_ s3 ⟨H3,I3,q3⟩=>?_))));exact wpAny_release ⟨Y,H3,I3,q3⟩
def tAsg(te:TE)(g:TG):TS:=λD Y H=>te Y H λx H1=>g x Y H1 D.nx
def zdv{tg e:Expr}{te:TE}{g:TG}(he:PE X e te)(hg:PG X tg g)(hs:swapsWithSole [tg] e pos.line X.env=pure false:=by rfl)(hw:swappedStores [tg] e X.env=pure none:=by rfl)
  (h1:(assignEach [tg] X.env).map (·.2)=[assign tg X.env]:=by rfl):PS X (.Assign [tg] e pos) (tAsg te g):=by
 intro O s Y H D I h;refine wpAny_Assign_stores (thn (he O s Y H _ I h) λv s1 ⟨x,H1,I1,r1,q1⟩=>?_) hs hw;rw[h1];exact thn (hg O s1 Y H1 x v _ I1 r1 q1) λ_ s2 q=>q
def zbn{i:Nat}{x:Str}{e:Expr}{te:TE}{pos':Pos}(hN:X.N.Nodup)(hi:X.N[i]?=some x)(hx:Loc X.env.scope x)(he:PE X e te)(hs:swapsWith e (some (.Name x pos')) pos.line X.env=pure false:=by rfl)(hf:X.fn x=true\/X.env.scope.names.lookup x=some .local:=by first|exact .inl rfl|exact .inr rfl|assumption) :
  PS X (.Assign [.Name x pos'] e pos) (tAsg te (zcY i)):=by
 intro O s Y H D I h;refine wpAny_Assign_Name (thn (he O s Y H _ I h) λv s1 ⟨y,H1,I1,r1,q1⟩=>?_) hs;exact zhN I1 hN hi hx r1 (λs2 I2=>⟨_,H1,I2,q1⟩) hf
def tAug(i:Nat)(te:TE)(ti:TIp):TS:=λD Y H=>∃x,Y[i]?=some (some x)/\te Y H λy H1=>ti x y H1 λz H2=>D.nx (Y.set i (some z)) H2
def zqq{i:Nat}{x:Str}{e:Expr}{te:TE}{op:Operator}{ti:TIp}{pos':Pos}(hN:X.N.Nodup)(hi:X.N[i]?=some x)(hx:Loc X.env.scope x)(he:PE X e te)(ho:PIp X op ti)(hf:X.fn x=true\/X.env.scope.names.lookup x=some .local:=by first|exact .inl rfl|exact .inr rfl|assumption) :
  PS X (.AugAssign (.Name x pos') op e pos) (tAug i te ti):=by
 intro O s Y H D I h;obtain⟨v,e1,h⟩:=h;obtain⟨m,hn,hl⟩:=I.loc;have vis:Vis X.env.scope x:=by rcases hx with k|k;exact .inl k;exact .inr (.inl k)
 obtain⟨u,r,l⟩:=hl i x v hi e1 vis;refine wpAny_AugAssign_Name ?_;have go:wpAny (model X.prog X.w) X.A (eval e X.env) (λw s₂=>wpAny (model X.prog X.w) X.A (inplaceOp op u w) (λr s₃=>wpAny (model X.prog X.w) X.A (storeName X.env x r) (λ_=>SP X O D .next) X.xe s₃) X.xe s₂) X.xe s:=by
  refine thn (he O s Y H _ I h) λw s1 ⟨y,H1,I1,r1,q1⟩=>?_;refine thn (ho O s1 Y H1 v y u w _ I1 r r1 q1) λz s2 ⟨zv,H2,I2,r2,q2⟩=>?_;exact zhN I2 hN hi hx r2 (λs3 I3=>⟨_,H2,I3,q2⟩) hf
 rcases l with⟨hk,hm⟩|⟨hk,c,hc,hcell⟩
 .exact wpAny_loadName_local I.ok.kind hk hn hm go
 .rcases hk with hk|hk
  .exact wpAny_loadName_cell I.ok.kind hk hc hcell go
  .rcases hx with k|k
   .have:X.env.scope.names.lookup x=some .free:=hk
    rw[k]at this;cases this
   .have:X.env.scope.names.lookup x=some .free:=hk
    rw[k]at this;cases this
def zsK(to ti te:TE)(tget:V->V->Hp->VK->Prop)(tip:TIp)(tset:TSet):TS:=λD Y H=>to Y H λo H1=>ti Y H1 λi H2=>tget o i H2 λx H3=>te Y H3 λy H4=>tip x y H4 λz H5=>tset o i z H5 λH6=>D.nx Y H6
def PGet(X:Cx)(t:V->V->Hp->VK->Prop):Prop:=
 ∀(O:List (Addr×Obj))(s:Shared)(Y:St)(H:Hp)(o i:V)(ov iv:Value)(Q:VK),Inv X O Y H s->RelV o ov->RelV i iv->t o i H Q ->
  wpAny (model X.prog X.w) X.A (getItem ov iv) (EP X O Y Q) X.xe s
def zni{o i e:Expr}{to ti te:TE}{tget:V->V->Hp->VK->Prop}{tip:TIp}{tset:TSet}{op:Operator}{tpos:Pos}(ho:PE X o to)(hi:PE X i ti)(hg:PGet X tget)(he:PE X e te)(hp:PIp X op tip)(hs:PSet X tset)
  (ha:∀ov iv new,augStore i ov iv new=(do holding [new,ov,iv] (setItem ov iv new);release [new,ov,iv] [];pure .next):=by intros;rfl):PS X (.AugAssign (.Subscript o i tpos) op e pos) (zsK to ti te tget tip tset):=by
 intro O s Y H D I h;refine wpAny_AugAssign_SubscriptAny (thn (ho O s Y H _ I h) λov s1 ⟨x1,H1,I1,r1,q1⟩=>?_) ha;refine thn (hi O s1 Y H1 _ I1 q1) λiv s2 ⟨x2,H2,I2,r2,q2⟩=>?_;refine thn (hg O s2 Y H2 x1 x2 ov iv _ I2 r1 r2 q2) λold s3 ⟨x3,H3,I3,r3,q3⟩=>?_;refine thn (he O s3 Y H3 _ I3 q3) λv s4 ⟨x4,H4,I4,r4,q4⟩=>?_;refine thn (hp O s4 Y H4 x3 x4 old v _ I4 r3 r4 q4) λnew s5 ⟨x5,H5,I5,r5,q5⟩=>?_;exact thn (hs O s5 Y H5 x1 x2 x5 ov iv new _ I5 r1 r2 r5 q5) λ_ s6 ⟨H6,I6,q6⟩=>⟨Y,H6,I6,q6⟩
def ipI(f:Int->Int->Int):TIp:=λx y H Q=>∃i j,x=.int i/\y=.int j/\Q (.int (f i j)) H
def zlz:PIp X .Add (ipI λi j=>i+j):=by
 intro O s Y H x y v u Q I r1 r2 h;obtain⟨i,j,e1,e2,q⟩:=h;subst e1;subst e2;obtain⟨t,rfl⟩:=r1;obtain⟨t',rfl⟩:=r2;exact iadd_int ⟨.int _,H,I.tok _,⟨_,rfl⟩,q⟩
end
section
variable{X:Cx}{pos:Pos}
def zqK(c:TT)(tb:TS):TS:=λD Y H=>∃W:Nat->St->Hp->Prop,(∃m,W m Y H)/\∀m Y H,W m Y H ->
 c Y H λb H1=>if b=true then ∃N:St->Hp->Prop,(∀ Y' H',N Y' H'->∃m',m'<m/\W m' Y' H')/\tb {D with nx:=N,ct:=N,bk:=D.nx} Y H1 else D.nx Y H1
def zkt{c:Expr}{body:List Stmt}{tc:TT}{tb:TS}(hp:PassesOwn (model X.prog X.w) X.A X.env X.xe)(hc:PT X c tc)(hb:PSs X body tb):PS X (.While c body [] pos) (zqK tc tb):=by
 intro O s Y H D I h;obtain⟨W,⟨m0,w0⟩,turn⟩:=h;refine wpAny_While (codeAny_whileLoop (λn s'=>∃ Y' H',Inv X O Y' H' s'/\W n Y' H') ?_ m0 ⟨Y,H,I,w0⟩);rintro n s1 ⟨Y1,H1,I1,w1⟩;refine YCb hp (thn (hc O s1 Y1 H1 _ I1 (turn n Y1 H1 w1)) λb s2 ⟨H2,I2,q2⟩=>?_);cases b with
 |true=>
  obtain⟨N,hN,q2⟩:=q2;rw[if_pos rfl];refine YCb hp (thn (hb O s2 Y1 H2 _ I2 q2) λf s3 q3=>?_);cases f with
  |next=>
   obtain⟨Y3,H3,I3,n3⟩:=q3;obtain⟨m',hm,w3⟩:=hN Y3 H3 n3;exact⟨m',hm,Y3,H3,I3,w3⟩
  |cont=>
   obtain⟨Y3,H3,I3,n3⟩:=q3;obtain⟨m',hm,w3⟩:=hN Y3 H3 n3;exact⟨m',hm,Y3,H3,I3,w3⟩
  |brk=>exact q3
  |ret v=>exact q3
 |false=>
  rw[if_neg YAA];exact YC8 ⟨Y1,H2,I2,q2⟩
end
structure It where
 go:Nat->Hp->Prop
 yld:Nat->Hp->V->Hp->Prop
 stop:Nat->Hp->Prop
def FpOk(X:Cx)(O:List (Addr×Obj))(H:Hp)(b:Addr):Prop:=
 H b=none/\b≠X.env.locals/\b∉X.fs/\(b∈X.ex\/X.s₀.heap.objs.size<=b)/\(∀x c,X.env.cells.lookup x=some c->c≠b)/\∀p∈X.pn++O,p.1≠b
def Inv.fpOk{X:Cx}{O:List (Addr×Obj)}{Y:St}{H H':Hp}{s:Shared}{b:Addr}(I:Inv X O Y H s)(hb:s.heap.objs.size<=b)(hn:H' b=none):FpOk X O H' b:=by
 refine⟨hn,YBi (YAt I.lt hb),I.nofs hb,.inr (YAU I.sz hb),λx c e z=>?_,λp hp z=>?_⟩
 .obtain⟨v,q⟩:=I.cell x c e;exact absurd (YAt q.lt (by rw[z];exact hb)) (YBe _)
 .exact absurd (YAt (YAm (I.pin p hp).1) (by rw[z];exact hb)) (YBe _)
structure Turn(P:Program)(w:World)(K:qg)(tg:Expr)(J:It)(fp:List Addr)(it:Addr)(tn:Nat->Heap->Prop):Prop where
 mem:it∈fp
 obj:∀i h,tn i h->∀b∈fp,∃o,h.get? b=some o/\∀v,o.data≠.cell v
 keep:∀i h h',tn i h->(∀b∈fp,∀o,h.get? b=some o->h'.get? b=some o)->tn i h'
 item:∀(X:Cx),X.prog=P->X.w=w->X.K=K->X.calm=true->∀(i:Nat)(O:List (Addr×Obj))(s:Shared)(Y:St)(H:Hp)(E:Value->Shared->Prop),Inv X O Y H s->(∀b∈fp,FpOk X O H b)->tn i s.heap->J.go i H ->
  wpAny (model P w) X.A (pyNext (.ref it)) (λr s1=>∃u,r=some u /\
   wpAny (model P w) X.A (letOwnedTupleGo tg (.ref it) u) (λ_ s2=>∃x H',Inv X O Y H' s2/\RelV x u/\J.yld i H x H'/\tn (i+1) s2.heap/\∀b∈fp,H' b=none) E s1) E s
 done:∀(X:Cx),X.prog=P->X.w=w->X.K=K->X.calm=true->∀(i:Nat)(O:List (Addr×Obj))(s:Shared)(Y:St)(H:Hp)(E:Value->Shared->Prop),Inv X O Y H s->(∀b∈fp,FpOk X O H b)->tn i s.heap->J.stop i H ->
  wpAny (model P w) X.A (pyNext (.ref it)) (λr s1=>r=none/\Inv X O Y H s1) E s
 self:∀(A:Around)(i:Nat)(s:Shared)(Q:Value->Shared->Prop)(E:Value->Shared->Prop),tn i s.heap->Q (.ref it) s->wpAny (model P w) A (pyIter (.ref it)) Q E s
abbrev TI:=St->Hp->(It->Hp->Prop)->Prop
def PIE(X:Cx)(O:List (Addr×Obj))(Y:St)(tg:Expr)(R:It->Hp->Prop)(itv:Value)(s2:Shared):Prop:=
 ∃(it:Addr)(fp:List Addr)(tn:Nat->Heap->Prop)(J:It)(H':Hp),itv=.ref it/\Inv X O Y H' s2/\Turn X.prog X.w X.K tg J fp it tn/\tn 0 s2.heap/\(∀b∈fp,FpOk X O H' b)/\R J H'
def PI(X:Cx)(tg iter:Expr)(wi:TI):Prop:=
 ∀(O:List (Addr×Obj))(s:Shared)(Y:St)(H:Hp)(R:It->Hp->Prop),Inv X O Y H s->wi Y H R ->
  wpAny (model X.prog X.w) X.A (eval iter X.env) (λv s1=>wpAny (model X.prog X.w) X.A (pyIter v) (PIE X O Y tg R) X.xe s1) X.xe s
def zpe(ho:s.heap.get? it=some o)(hc:o.cls=.type n)(hd:o.data=.fields vs)
    (hn:["enumerate","zip","dict_itemiterator","dict_reverseitemiterator","odict_iterator","itertools.zip_longest","itertools.pairwise"].contains n=false) (hQ:Q () s):wpAny qf A (letOwnedTupleGo tg (.ref it) u) Q E s:=by
  unfold letOwnedTupleGo;cases tg<;>first
    |exact YAf hQ
    | (cases u<;>first
        |exact YAf hQ
        | (refine YAa (wpAny_load ho ?_)
           rw[hc,hd];show wpAny qf A (if (["enumerate","zip","dict_itemiterator","dict_reverseitemiterator","odict_iterator","itertools.zip_longest","itertools.pairwise"].contains n&&vs[0]?==some (rawInt _))=true then _ else _) Q E s;rw[if_neg (by intro h;rw[hn,Bool.false_and]at h;cases h)];exact YAf hQ))
def Itl(K:qg)(a:Addr):It:=
 ⟨λi H=>∃xs x,SqL K H a xs/\xs[i]?=some x,λi H x H'=>H'=H/\∀xs,SqL K H a xs->xs[i]?=some x,λi H=>∃xs,SqL K H a xs/\xs.length<=i⟩
def Itt(K:qg)(a:Addr):It:=
 ⟨λi H=>∃xs x,SqT K H a xs/\xs[i]?=some x,λi H x H'=>H'=H/\∀xs,SqT K H a xs->xs[i]?=some x,λi H=>∃xs,SqT K H a xs/\xs.length<=i⟩
def Itr(lo:Int)(n:Nat):It:=⟨λi _=>i<n,λi H x H'=>H'=H/\x=.int (lo+i),λi _=>n<=i⟩
def zil{P:Program}{w:World}{K:qg}{tg:Expr}(a it:Addr):Turn P w K tg (Itl K a) [it] it (λi h=>h.IsListIter it a i)where
 mem:=by simp
 obj:=λi h st b hb=>by
  have e:b=it:=by simpa using hb
  subst e;obtain⟨o,e,c,d⟩:=st;exact⟨o,e,λv z=>by rw[d]at z;cases z⟩
 keep:=λi h h' st k=>st.at λo e=>k it (by simp) o e
 item:=by
  intro X hP hw hK hc i O s Y H E I hf st hg;subst hP hw hK;obtain⟨xs,x,hq,hx⟩:=hg;obtain⟨its,rv,p,hz⟩:=I.list hq;obtain⟨u,hu,ru⟩:=rv.get hx;obtain⟨f0,f1,f2,f3,f4,f5⟩:=hf it (by simp);refine wpAny_pyNext_list_item st p.isList (x:=u) (by simpa using hu) λh' st' sb=>?_;have I1:Inv X O Y H {s with heap:=h'}:=I.turned (t':=s.toks) (λb o hb e=>(sb.2 b hb).trans e) f0 f1 f3 f4 f5;obtain⟨o,e,c,d⟩:=id st';exact⟨u,rfl,zpe (s:={s with heap:=h'}) e c d (by decide) ⟨x,H,I1,ru,⟨rfl,λys hy=>by rw[I.list_inj hy hq];exact hx⟩,st',λb hb=>(hf b hb).1⟩⟩
 done:=by
  intro X hP hw hK hc i O s Y H E I hf st hg;subst hP hw hK;obtain⟨xs,hq,hx⟩:=hg;obtain⟨its,rv,p,hz⟩:=I.list hq;obtain⟨f0,f1,f2,f3,f4,f5⟩:=hf it (by simp);have hl:=rv.length;exact wpAny_pyNext_list_end (I.ok.hd hc) st p.isList (by simp;omega) λh' eb=>⟨rfl,I.turned (t':=s.toks) (λb o hb e=>eb b o hb e) f0 f1 f3 f4 f5⟩
 self:=λ_ _ _ _ _ st h=>wpAny_pyIter_listiter st h
def zk6{P:Program}{w:World}{K:qg}{tg:Expr}(a it:Addr):Turn P w K tg (Itt K a) [it] it (λi h=>h.IsTupleIter it a i)where
 mem:=by simp
 obj:=λi h st b hb=>by
  have e:b=it:=by simpa using hb
  subst e;obtain⟨o,e,c,d⟩:=st;exact⟨o,e,λv z=>by rw[d]at z;cases z⟩
 keep:=λi h h' st k=>st.at λo e=>k it (by simp) o e
 item:=by
  intro X hP hw hK hc i O s Y H E I hf st hg;subst hP hw hK;obtain⟨xs,x,hq,hx⟩:=hg;obtain⟨its,rv,p,hz⟩:=I.tuple hq;obtain⟨u,hu,ru⟩:=rv.get hx;obtain⟨f0,f1,f2,f3,f4,f5⟩:=hf it (by simp);refine wpAny_pyNext_tuple_item st (show s.heap.IsTuple a its.toArray from p) (x:=u) (by simpa using hu) λh' st' sb=>?_;have I1:Inv X O Y H {s with heap:=h'}:=I.turned (t':=s.toks) (λb o hb e=>(sb.2 b hb).trans e) f0 f1 f3 f4 f5;obtain⟨o,e,c,d⟩:=id st';exact⟨u,rfl,zpe (s:={s with heap:=h'}) e c d (by decide) ⟨x,H,I1,ru,⟨rfl,λys hy=>by rw[I.tuple_inj hy hq];exact hx⟩,st',λb hb=>(hf b hb).1⟩⟩
 done:=by
  intro X hP hw hK hc i O s Y H E I hf st hg;subst hP hw hK;obtain⟨xs,hq,hx⟩:=hg;obtain⟨its,rv,p,hz⟩:=I.tuple hq;obtain⟨f0,f1,f2,f3,f4,f5⟩:=hf it (by simp);have hl:=rv.length;exact wpAny_pyNext_tuple_end (I.ok.hd hc) st (show s.heap.IsTuple a its.toArray from p) (by simp;omega) λh' eb=>⟨rfl,I.turned (t':=s.toks) (λb o hb e=>eb b o hb e) f0 f1 f3 f4 f5⟩
 self:=λ_ _ _ _ _ st h=>wpAny_pyIter_tupleiter st h
def zli{P:Program}{w:World}{K:qg}{tg:Expr}(it:Addr)(lo:Int)(n:Nat):Turn P w K tg (Itr lo n) [it] it (λi h=>IsRangeIter h it (lo+(i:Nat)*1) ((n:Int)-(i:Nat)) 1)where
 mem:=by simp
 obj:=λi h st b hb=>by
  have e:b=it:=by simpa using hb
  subst e;exact⟨_,st,λv z=>by
   have z':Data.fields _=Data.cell v:=z;cases z'⟩
 keep:=λi h h' st k=>k it (by simp) _ st
 item:=by
  intro X hP hw hK hc i O s Y H E I hf st hg;subst hP hw hK;obtain⟨f0,f1,f2,f3,f4,f5⟩:=hf it (by simp);have W:=Walks.range (prog:=X.prog) (w:=X.w) (I.ok.hd hc) it lo 1 n;refine W.item i s _ _ hg st λv h' tk hv st' kk=>?_;obtain⟨t,rfl⟩:=hv;have I1:Inv X O Y H {s with heap:=h',toks:=tk}:=I.turned (λb o hb e=>kk b o (by simpa using hb) e) f0 f1 f3 f4 f5;refine⟨_,rfl,zpe (s:={s with heap:=h',toks:=tk}) (n:="range_iterator") st' rfl rfl (by decide) ⟨.int (lo+i),H,I1,⟨t,?_⟩,⟨rfl,rfl⟩,st',λb hb=>(hf b hb).1⟩⟩;rw[Int.mul_one]
 done:=by
  intro X hP hw hK hc i O s Y H E I hf st hg;subst hP hw hK;obtain⟨f0,f1,f2,f3,f4,f5⟩:=hf it (by simp);exact wpAny_pyNext_range_end (I.ok.hd hc) st (by have:n<=i:=hg;omega) λh' eb=>⟨rfl,I.turned (t':=s.toks) (λb o hb e=>eb b o hb e) f0 f1 f3 f4 f5⟩
 self:=λ_ _ _ _ _ st h=>wpAny_pyIter_rangeiter st h
section
variable{X:Cx}{tg:Expr}
def zsg(K:qg)(tl:TE):TI:=λY H R=>tl Y H λx H1=>∃a,x=.ref a/\(∃xs,SqL K H1 a xs)/\R (Itl K a) H1
def zeK{l:Expr}{tl:TE}(hl:PE X l tl):PI X tg l (zsg X.K tl):=by
 intro O s Y H R I h;refine thn (hl O s Y H _ I h) λv s1 ⟨x,H1,I1,r1,q1⟩=>?_;obtain⟨a,e,⟨xs,hq⟩,q⟩:=q1;subst e;cases r1;obtain⟨its,rv,p,hz⟩:=I1.list hq;refine YCw p.isList ?_;refine⟨s1.heap.objs.size,[s1.heap.objs.size],_,_,H1,rfl,I1.kept (t':=s1.toks) λb o e=>YAd _ e,zil a _,⟨_,YAr _ rfl,rfl,rfl⟩,λb hb=>?_,q⟩;have e:b=s1.heap.objs.size:=by simpa using hb
 subst e;exact I1.fpOk (YAj _) (I1.hok.fresh (YAj _))
def zou{O:List (Addr×Obj)}{Y:St}{H:Hp}{s:Shared}{R:It->Hp->Prop}{E:Value->Shared->Prop}{lo hi:Int}{t u v:Tok}{tk:Nat}(I:Inv X O Y H s)(h1:-(2^62)<=lo)(h2:lo<2^62)(h3:-(2^62)<=hi)(h4:hi<2^62)
  (q:R (Itr lo (hi-lo).toNat) H):wpAny (model X.prog X.w) X.A (pyIter (.ref s.heap.objs.size)) (PIE X O Y tg R) E {s with heap:=s.heap.push {cls:=.type "range",data:=.fields #[.int lo t,.int hi u,.int 1 v]},toks:=tk}:=by
 refine wpAny_pyIter_range (IsRange.new ..) (small_one h1 h2 h3 h4) ?_;have I1:Inv X O Y H {s with heap:=s.heap.push {cls:=.type "range",data:=.fields #[.int lo t,.int hi u,.int 1 v]},toks:=tk}:=I.kept λb o e=>YAd _ e;refine⟨(s.heap.push {cls:=.type "range",data:=.fields #[.int lo t,.int hi u,.int 1 v]}).objs.size,[(s.heap.push {cls:=.type "range",data:=.fields #[.int lo t,.int hi u,.int 1 v]}).objs.size],_,_,H,rfl,
  I1.kept (t':=tk) λb o e=>YAd _ e,zli _ lo (hi-lo).toNat,?_,λb hb=>?_,q⟩
 .have e1:lo+((0:Nat):Int)*1=lo:=by simp
  have e2:(((hi-lo).toNat:Nat):Int)-((0:Nat):Int)=Builtin.Range.rangeSize lo hi 1:=by rw[rangeSize_one];split<;>omega
  show IsRangeIter _ _ (lo+((0:Nat):Int)*1) ((((hi-lo).toNat:Nat):Int)-((0:Nat):Int)) 1;rw[e1,e2];exact YAr _ rfl
 .have e:b=(s.heap.push {cls:=.type "range",data:=.fields #[.int lo t,.int hi u,.int 1 v]}).objs.size:=by simpa using hb
  subst e;exact I1.fpOk (YAj _) (I1.hok.fresh (YAj _))
def zrX(ta:TA):TI:=λY H R=>ta Y H λvs H1=>∃j:Int,vs=[.int j]/\-(2^62)<=j/\j<2^62/\R (Itr 0 j.toNat) H1
def zfq{a:Expr}{ta:TA}{p pos:Pos}(hg:Gl X "range")(hm:X.mg "range"=none)(ha:PA X [a] ta)(hs:starEach [a] X.env=[(false,eval a X.env)]:=by rfl):PI X tg (.Call (.Name "range" p) [a] [] pos) (zrX ta):=by
 intro O s Y H R I h;refine Call_ (zgD I hg hm boot_range (YB0 (thn (ha pos O s Y H _ I h) λus s1 ⟨vs,H1,I1,r1,q1⟩=>?_) hs rfl));obtain⟨j,e,q1,q2,q⟩:=q1;subst e;cases r1 with
 |cons r rr=>
  cases rr;obtain⟨t,rfl⟩:=r;exact call_range_1 (zou I1 (by omega) (by omega) q1 q2 (by simpa using q))
noncomputable def tFor(wi:TI)(g:TG)(tb:TS):TS:=λD Y H=>wi Y H λJ H1=>∃W:Nat->Nat->St->Hp->Prop,(∃m,W 0 m Y H1)/\∀i m Y H,W i m Y H ->
 (J.stop i H/\D.nx Y H)\/(J.go i H/\∃N:St->Hp->Prop,(∀ Y' H',N Y' H'->∃m',m'<m/\W (i+1) m' Y' H')/\∀x H',J.yld i H x H'->g x Y H' λY2 H2=>tb {D with nx:=N,ct:=N,bk:=D.nx} Y2 H2)
def zeN(fp:List Addr)(h:Heap):List (Addr×Obj):=fp.filterMap λb=>(h.get? b).map λo=>(b,o)
def zbc{fp:List Addr}{h:Heap}{b:Addr}{o:Obj}(hb:b∈fp)(e:h.get? b=some o):(b,o)∈zeN fp h:=List.mem_filterMap.mpr ⟨b,hb,by rw[e];rfl⟩
def zm0(hp:p∈zeN fp h):p.1∈fp/\h.get? p.1=some p.2:=by
 obtain⟨b,hb,e⟩:=List.mem_filterMap.mp hp;cases q:h.get? b with
 |none=>rw[q]at e;cases e
 |some o=>
  rw[q]at e;have e':(b,o)=p:=Option.some.inj e;subst e';exact⟨hb,q⟩
def Inv.pinned{O:List (Addr×Obj)}{Y:St}{H:Hp}{s:Shared}{fp:List Addr}(I:Inv X O Y H s)(hf:∀b∈fp,FpOk X O H b)(ho:∀b∈fp,∃o,s.heap.get? b=some o/\∀v,o.data≠.cell v):Inv X (O++zeN fp s.heap) Y H s:=
 I.pins_of λp hp=>(YAk.mp hp).elim (λz=>I.pin p (YAl _ z)) λz=>by
  obtain⟨hb,e⟩:=zm0 z;obtain⟨f0,f1,f2,_⟩:=hf p.1 hb;obtain⟨o,e',d⟩:=ho p.1 hb;rw[e]at e';cases e';exact⟨e,f0,f1,f2,d⟩
def Inv.unpinned{O pl:List (Addr×Obj)}{Y:St}{H:Hp}{s:Shared}(I:Inv X (O++pl) Y H s):Inv X O Y H s:=I.pins_of λp hp=>I.pin p (YAl _ (YAx _ hp))
def zdR{iter:Expr}{body:List Stmt}{wi:TI}{g:TG}{tb:TS}{pos:Pos}(hp:PassesOwn (model X.prog X.w) X.A X.env X.xe)(hc:X.calm=true)(hi:PI X tg iter wi)(hg:PG X tg g)(hb:PSs X body tb)
  (hs:∀x,foldedSetIterable iter X.env x=pure x:=by intro _;rfl):PS X (.For tg iter body [] pos) (tFor wi g tb):=by
 intro O s Y H D I h;refine wpAny_For (thn (hi O s Y H _ I h) λv s1 h1=>thn h1 λitv s2 h2=>?_) hs;obtain⟨it,fp,tn,J,H2,e,I2,T,st2,f2,W,⟨m0,w0⟩,turn⟩:=h2;subst e
 -- what stays true of the iterator's objects through the loop
 have stat:∀{H':Hp},(∀b∈fp,H' b=none)->∀b∈fp,FpOk X O H' b:=λhn b hb=>⟨hn b hb,(f2 b hb).2⟩;refine codeAny_forLoop_any (λn s'=>∃i Y' H',Inv X O Y' H' s'/\tn i s'.heap/\(∀b∈fp,H' b=none)/\W i n Y' H') ?_ m0 ⟨0,Y,H2,I2,st2,λb hb=>(f2 b hb).1,w0⟩;rintro n s3 ⟨i,Y3,H3,I3,st3,fr3,w3⟩;rcases turn i n Y3 H3 w3 with⟨stop,qn⟩|⟨go,N,hN,step⟩
 .refine YCb hp (thn (T.done X rfl rfl rfl hc i O s3 Y3 H3 X.xe I3 (stat fr3) st3 stop) λr s4 ⟨hr,I4⟩=>?_);subst hr;exact YC8 ⟨Y3,H3,I4,qn⟩
 .refine YCb hp (thn (T.item X rfl rfl rfl hc i O s3 Y3 H3 X.xe I3 (stat fr3) st3 go) λr s4 ⟨u,hr,h4⟩=>?_);subst hr;refine YCb hp (thn h4 λ_ s5 ⟨x,H5,I5,r5,y5,st5,fr5⟩=>?_);have I5':=I5.pinned (stat fr5) (T.obj _ _ st5);refine YCb hp (thn (hg _ s5 Y3 H5 x u _ I5' r5 (step x H5 y5)) λ_ s6 ⟨Y6,H6,I6,q6⟩=>?_);refine YCb hp (thn (hb _ s6 Y6 H6 _ I6 q6) λf s7 q7=>?_);have again:∀{Y7:St}{H7:Hp},Inv X (O++zeN fp s5.heap) Y7 H7 s7->N Y7 H7->∃m,m<n/\∃i Y' H',Inv X O Y' H' s7/\tn i s7.heap/\(∀b∈fp,H' b=none)/\W i m Y' H':=λ{Y7 H7} I7 n7=>by
   obtain⟨m',hm,w7⟩:=hN Y7 H7 n7;refine⟨m',hm,i+1,Y7,H7,I7.unpinned,T.keep _ _ _ st5 λb hb o e=>(I7.pin (b,o) (YAl _ (YAl _ (zbc hb e)))).1,λb hb=>?_,w7⟩;obtain⟨o,e,d⟩:=T.obj _ _ st5 b hb;exact(I7.pin (b,o) (YAl _ (YAl _ (zbc hb e)))).2.1
  cases f with
  |next=>obtain⟨Y7,H7,I7,n7⟩:=q7;exact again I7 n7
  |cont=>obtain⟨Y7,H7,I7,n7⟩:=q7;exact again I7 n7
  |brk=>obtain⟨Y7,H7,I7,q7⟩:=q7;exact⟨Y7,H7,I7.unpinned,q7⟩
  |ret v=>obtain⟨x7,Y7,H7,I7,r7,q7⟩:=q7;exact⟨x7,Y7,H7,I7.unpinned,r7,q7⟩
end
def zfe{K:qg}{a:Addr}{xs:List V}{g:TG}{tb:TS}{D:Ends}{Y:St}{H:Hp}(Pv:Nat->St->Hp->Prop)(h0:Pv 0 Y H)(hl:∀i Y H,i<=xs.length->Pv i Y H->SqL K H a xs)
  (hs:∀i x Y H,xs[i]?=some x->Pv i Y H->g x Y H λY2 H2=>tb {D with nx:=Pv (i+1),ct:=Pv (i+1),bk:=D.nx} Y2 H2) (hd:∀ Y H,Pv xs.length Y H->D.nx Y H) :
  ∃W:Nat->Nat->St->Hp->Prop,(∃m,W 0 m Y H)/\∀i m Y H,W i m Y H ->
   ((Itl K a).stop i H/\D.nx Y H)\/((Itl K a).go i H/\∃N:St->Hp->Prop,(∀ Y' H',N Y' H'->∃m',m'<m/\W (i+1) m' Y' H')/\∀x H',(Itl K a).yld i H x H'->g x Y H' λY2 H2=>tb {D with nx:=N,ct:=N,bk:=D.nx} Y2 H2):=by
 refine⟨λi m Y H=>m=xs.length-i/\i<=xs.length/\Pv i Y H,⟨xs.length,by simp,YAC _,h0⟩,?_⟩;rintro i m Y H ⟨rfl,hi,p⟩;have q:=hl i Y H hi p;by_cases hlt:i<xs.length
 .refine .inr ⟨⟨xs,xs[i],q,by simp[hlt]⟩,Pv (i+1),λY' H' p'=>⟨xs.length-(i+1),by omega,rfl,hlt,p'⟩,λx H' y=>?_⟩;obtain⟨e,y⟩:=y;subst e;exact hs i x Y _ (y xs q) p
 .have e:i=xs.length:=by omega
  subst e;exact .inl ⟨⟨xs,q,YAj _⟩,hd Y H p⟩
def zlU{lo:Int}{n:Nat}{g:TG}{tb:TS}{D:Ends}{Y:St}{H:Hp}(Pv:Nat->St->Hp->Prop)(h0:Pv 0 Y H)
  (hs:∀i Y H,i<n->Pv i Y H->g (.int (lo+i)) Y H λY2 H2=>tb {D with nx:=Pv (i+1),ct:=Pv (i+1),bk:=D.nx} Y2 H2) (hd:∀ Y H,Pv n Y H->D.nx Y H) :
  ∃W:Nat->Nat->St->Hp->Prop,(∃m,W 0 m Y H)/\∀i m Y H,W i m Y H ->
   ((Itr lo n).stop i H/\D.nx Y H)\/((Itr lo n).go i H/\∃N:St->Hp->Prop,(∀ Y' H',N Y' H'->∃m',m'<m/\W (i+1) m' Y' H')/\∀x H',(Itr lo n).yld i H x H'->g x Y H' λY2 H2=>tb {D with nx:=N,ct:=N,bk:=D.nx} Y2 H2):=by
 refine⟨λi m Y H=>m=n-i/\i<=n/\Pv i Y H,⟨n,by simp,YAC _,h0⟩,?_⟩;rintro i m Y H ⟨rfl,hi,p⟩;by_cases hlt:i<n
 .refine .inr ⟨hlt,Pv (i+1),λY' H' p'=>⟨n-(i+1),by omega,rfl,hlt,p'⟩,λx H' y=>?_⟩;obtain⟨e,y⟩:=y;subst e y;exact hs i Y _ hlt p
 .have e:i=n:=by omega
  subst e;exact .inl ⟨YAj _,hd Y H p⟩
abbrev R2:=V->V->Hp->VK->Prop
def OpR(X:Cx)(f:Value->Value->Sem Value)(r:R2):Prop:=
 ∀(O:List (Addr×Obj))(s:Shared)(Y:St)(H:Hp)(x y:V)(v u:Value)(Q:VK),Inv X O Y H s->RelV x v->RelV y u->r x y H Q ->
  wpAny (model X.prog X.w) X.A (f v u) (EP X O Y Q) X.xe s
def UnR(X:Cx)(f:Value->Sem Value)(r:V->Hp->VK->Prop):Prop:=
 ∀(O:List (Addr×Obj))(s:Shared)(Y:St)(H:Hp)(x:V)(v:Value)(Q:VK),Inv X O Y H s->RelV x v->r x H Q ->
  wpAny (model X.prog X.w) X.A (f v) (EP X O Y Q) X.xe s
def CallR(X:Cx)(f:Value)(r:List V->Hp->VK->Prop):Prop:=
 ∀(O:List (Addr×Obj))(s:Shared)(Y:St)(H:Hp)(xs:List V)(us:List Value)(Q:VK),Inv X O Y H s->Vals xs us->r xs H Q ->
  wpAny (model X.prog X.w) X.A (call f us) (EP X O Y Q) X.xe s
def TruR(X:Cx)(r:V->Hp->(Bool->Hp->Prop)->Prop):Prop:=
 ∀(O:List (Addr×Obj))(s:Shared)(Y:St)(H:Hp)(x:V)(v:Value)(Q:Bool->Hp->Prop),Inv X O Y H s->RelV x v->r x H Q ->
  wpAny (model X.prog X.w) X.A (truthy v) (TP X O Y Q) X.xe s
def tOp(r:R2)(ta tb:TE):TE:=λY H Q=>ta Y H λx H1=>tb Y H1 λy H2=>r x y H2 Q
def tUn(r:V->Hp->VK->Prop)(ta:TE):TE:=λY H Q=>ta Y H λx H1=>r x H1 Q
def rI(C:Int->Int->Prop)(g:Int->Int->V):R2:=λx y H Q=>∃i j,x=.int i/\y=.int j/\C i j/\Q (g i j) H
def rI0(g:Int->Int->V):R2:=λx y H Q=>∃i j,x=.int i/\y=.int j/\Q (g i j) H
def rU(g:Int->V):V->Hp->VK->Prop:=λx H Q=>∃i,x=.int i/\Q (g i) H
section
variable{X:Cx}{a b c:Expr}{ta tb tc:TE}{pos:Pos}
def binT(ha:PE X a ta)(hb:PE X b tb){O:List (Addr×Obj)}{s:Shared}{Y:St}{H:Hp}{R:V->V->Hp->Prop}(I:Inv X O Y H s)
  (h:ta Y H λx H1=>tb Y H1 λy H2=>R x y H2) {Q:Value->Shared->Prop} {f:Value->Value->Sem Value}
  (hf:∀v u s2 x y H2,Inv X O Y H2 s2->RelV x v->RelV y u->R x y H2->wpAny (model X.prog X.w) X.A (f v u) Q X.xe s2) :
  wpAny (model X.prog X.w) X.A (eval a X.env) (λv s₁=>wpAny (model X.prog X.w) X.A (eval b X.env) (λu s₂=>wpAny (model X.prog X.w) X.A (f v u) Q X.xe s₂) X.xe s₁) X.xe s:=by
 refine thn (ha O s Y H _ I h) λv s1 ⟨x,H1,I1,r1,q1⟩=>?_;refine thn (hb O s1 Y H1 _ I1 q1) λu s2 ⟨y,H2,I2,r2,q2⟩=>?_;exact hf v u s2 x y H2 I2 r1 r2 q2
def zb3{op:Operator}{r:R2}(ho:OpR X (binaryOp op) r)(ha:PE X a ta)(hb:PE X b tb):PE X (.BinOp a op b pos) (tOp r ta tb):=by
 intro O s Y H Q I h;exact wpAny_BinOp (binT ha hb I h λv u s2 x y H2 I2 rx ry q=>ho O s2 Y H2 x y v u Q I2 rx ry q)
def zp8{op:UnaryOp}{r:V->Hp->VK->Prop}(ho:UnR X (unaryOp op) r)(ha:PE X a ta):PE X (.UnaryOp op a pos) (tUn r ta):=by
 intro O s Y H Q I h;exact UnaryOp_ (thn (ha O s Y H _ I h) λv s1 ⟨x,H1,I1,r1,q1⟩=>ho O s1 Y H1 x v Q I1 r1 q1)
def opI{f:Value->Value->Sem Value}{C:Int->Int->Prop}{g:Int->Int->Int}
  (rule:∀(i j:Int)(t u:Tok)(s:Shared)(Q:Value->Shared->Prop)(E:Value->Shared->Prop),C i j->Q (.int (g i j) s.toks) {s with toks:=s.toks+1}->wpAny (model X.prog X.w) X.A (f (.int i t) (.int j u)) Q E s) :
  OpR X f (rI C λi j=>.int (g i j)):=by
 intro O s Y H x y v u Q I rx ry h;obtain⟨i,j,rfl,rfl,hc,q⟩:=h;obtain⟨t,rfl⟩:=rx;obtain⟨t',rfl⟩:=ry;exact rule i j t t' s _ _ hc ⟨.int (g i j),H,I.tok _,⟨_,rfl⟩,q⟩
def opI0{f:Value->Value->Sem Value}{g:Int->Int->Int}
  (rule:∀(i j:Int)(t u:Tok)(s:Shared)(Q:Value->Shared->Prop)(E:Value->Shared->Prop),Q (.int (g i j) s.toks) {s with toks:=s.toks+1}->wpAny (model X.prog X.w) X.A (f (.int i t) (.int j u)) Q E s) :
  OpR X f (rI0 λi j=>.int (g i j)):=by
 intro O s Y H x y v u Q I rx ry h;obtain⟨i,j,rfl,rfl,q⟩:=h;obtain⟨t,rfl⟩:=rx;obtain⟨t',rfl⟩:=ry;exact rule i j t t' s _ _ ⟨.int (g i j),H,I.tok _,⟨_,rfl⟩,q⟩
def opB0{f:Value->Value->Sem Value}{g:Int->Int->Bool}
  (rule:∀(i j:Int)(t u:Tok)(s:Shared)(Q:Value->Shared->Prop)(E:Value->Shared->Prop),Q (.bool (g i j)) s->wpAny (model X.prog X.w) X.A (f (.int i t) (.int j u)) Q E s) :
  OpR X f (rI0 λi j=>.bl (g i j)):=by
 intro O s Y H x y v u Q I rx ry h;obtain⟨i,j,rfl,rfl,q⟩:=h;obtain⟨t,rfl⟩:=rx;obtain⟨t',rfl⟩:=ry;exact rule i j t t' s _ _ ⟨.bl (g i j),H,I,rfl,q⟩
def CDiv(i j:Int):Prop:=0<j/\j<1073741824
def CPow(i j:Int):Prop:=0<=j/\j<=1000000/\i.natAbs<2^64
def CMul(i j:Int):Prop:=(-(2^64)<i/\i<2^64)\/(-(2^64)<j/\j<2^64)
def CMul.ok{i j:Int}(h:CMul i j):IntMulOk i j:=by
 rcases h with⟨h1,h2⟩|⟨h1,h2⟩
 .exact .of_left (intBits_le_64 h1 h2)
 .exact .of_right (intBits_le_64 h1 h2)
def op_add:OpR X (binaryOp .Add) (rI0 λi j=>.int (i+j)):=opI0 λ_ _ _ _ _ _ _ q=>add_int q
def zmN:OpR X (binaryOp .Sub) (rI0 λi j=>.int (i-j)):=opI0 λ_ _ _ _ _ _ _ q=>sub_int q
def op_mul:OpR X (binaryOp .Mult) (rI CMul λi j=>.int (i*j)):=opI λ_ _ _ _ _ _ _ hc q=>mul_int q hc.ok
def zo3:OpR X (binaryOp .FloorDiv) (rI CDiv λi j=>.int (i / j)):=opI λi j _ _ _ _ _ hc q=>by
 have h1:(0:Int)<j:=hc.1;have h2:j<1073741824:=hc.2;exact floordiv_int (by omega) (by rw[Int.fdiv_eq_ediv_of_nonneg i (by omega)];exact q) (.inl (PyProof.noPylong_small (by omega)))
def zgK:OpR X (binaryOp .Mod) (rI (λ_ j=>0<j) λi j=>.int (i % j)):=opI λi j _ _ _ _ _ hc q=>by
 have h1:(0:Int)<j:=hc;exact mod_int' (by omega) (by rw[Int.fmod_eq_emod_of_nonneg i (by omega)];exact q)
def zmD:OpR X (binaryOp .Pow) (rI CPow λi j=>.int (i^j.toNat)):=opI λ_ _ _ _ _ _ _ hc q=>pow_int_small hc.1 hc.2.1 hc.2.2 q
def unI{f:Value->Sem Value}{g:Int->Int}
  (rule:∀(i:Int)(t:Tok)(s:Shared)(Q:Value->Shared->Prop)(E:Value->Shared->Prop),Q (.int (g i) s.toks) {s with toks:=s.toks+1}->wpAny (model X.prog X.w) X.A (f (.int i t)) Q E s) :
  UnR X f (rU λi=>.int (g i)):=by
 intro O s Y H x v Q I rx h;obtain⟨i,rfl,q⟩:=h;obtain⟨t,rfl⟩:=rx;exact rule i t s _ _ ⟨.int (g i),H,I.tok _,⟨_,rfl⟩,q⟩
def zmf:UnR X (unaryOp .USub) (rU λi=>.int (-i)):=unI λ_ _ _ _ _ q=>neg_int q
end
noncomputable def scal:V->V->Bool
 |.non,.non=>true|.non,.int _=>true|.int _,.non=>true|.non,.bl _=>true|.bl _,.non=>true|.non,.str _=>true|.str _,.non=>true
 |.int _,.int _=>true|.bl _,.bl _=>true|.str _,.str _=>true|.byt _,.byt _=>true
 |.int _,.str _=>true|.str _,.int _=>true|.bl _,.str _=>true|.str _,.bl _=>true
 |_,_=>false
def rEq:R2:=λx y H Q=>scal x y=true/\Q (.bl (decide (x=y))) H
def rNe:R2:=λx y H Q=>scal x y=true/\Q (.bl (!decide (x=y))) H
def znp:decide (V.int i=V.int j)=(i==j):=by
 rw[YCI]
 simp
def dec_bl:decide (V.bl i=V.bl j)=(i==j):=by
 rw[YCI]
 simp
def zlB:decide (V.str i=V.str j)=(i==j):=by
 rw[YCI]
 simp
def zl4:decide (V.byt i=V.byt j)=(i.toList==j.toList):=by
 rw[YCI];cases i;cases j
 simp
section
variable{X:Cx}{a b c:Expr}{ta tb tc:TE}{pos:Pos}
def fin_bl(I:Inv X O Y H s)(q:Q (.bl k) H)(e:k=k'):EP X O Y Q (.bool k') s:=by
 subst e;exact⟨.bl k,H,I,rfl,q⟩
def zqP:OpR X (compareOp .Eq) rEq:=by
 intro O s Y H x y v u Q I rx ry h;obtain⟨hs,q⟩:=h;cases x with
 |non=>
  cases rx;cases y with
  |non=>cases ry;exact PySem.EqNone.eq_none_none (fin_bl I q (by simp))
  |bl j=>cases ry;exact PySem.EqNone.eq_none_bool (fin_bl I q (by simp))
  |int j=>obtain⟨t',rfl⟩:=ry;exact PySem.EqNone.eq_none_int (fin_bl I q (by simp))
  |str j=>obtain⟨t',rfl⟩:=ry;exact PySem.EqNone.eq_none_str (fin_bl I q (by simp))
  |_=>exact absurd (show false=true from hs) YAA
 |bl i=>
  cases rx;cases y with
  |non=>cases ry;exact PySem.EqNone.eq_bool_none (fin_bl I q (by simp))
  |bl j=>cases ry;exact eq_bool (fin_bl I q dec_bl)
  |str j=>obtain⟨t',rfl⟩:=ry;exact PySem.EqMixed.eq_bool_str (fin_bl I q (by simp))
  |_=>exact absurd (show false=true from hs) YAA
 |int i=>
  obtain⟨t,rfl⟩:=rx;cases y with
  |non=>cases ry;exact PySem.EqNone.eq_int_none (fin_bl I q (by simp))
  |int j=>obtain⟨t',rfl⟩:=ry;exact eq_int (fin_bl I q znp)
  |str j=>obtain⟨t',rfl⟩:=ry;exact PySem.EqMixed.eq_int_str (fin_bl I q (by simp))
  |_=>exact absurd (show false=true from hs) YAA
 |str i=>
  obtain⟨t,rfl⟩:=rx;cases y with
  |non=>cases ry;exact PySem.EqNone.eq_str_none (fin_bl I q (by simp))
  |bl j=>cases ry;exact PySem.EqMixed.eq_str_bool (fin_bl I q (by simp))
  |int j=>obtain⟨t',rfl⟩:=ry;exact PySem.EqMixed.eq_str_int (fin_bl I q (by simp))
  |str j=>obtain⟨t',rfl⟩:=ry;exact eq_str (fin_bl I q zlB)
  |_=>exact absurd (show false=true from hs) YAA
 |byt i=>
  obtain⟨t,rfl⟩:=rx;cases y with
  |byt j=>obtain⟨t',rfl⟩:=ry;exact PySem.W.eq_bytes (fin_bl I q zl4)
  |_=>exact absurd (show false=true from hs) YAA
 |_=>cases y<;>exact absurd (show false=true from hs) YAA
def zsr:OpR X (compareOp .NotEq) rNe:=by
 intro O s Y H x y v u Q I rx ry h;obtain⟨hs,q⟩:=h;cases x with
 |non=>
  cases rx;cases y with
  |non=>cases ry;exact PySem.EqNone.ne_none_none (fin_bl I q (by simp))
  |bl j=>cases ry;exact PySem.EqNone.ne_none_bool (fin_bl I q (by simp))
  |int j=>obtain⟨t',rfl⟩:=ry;exact PySem.EqNone.ne_none_int (fin_bl I q (by simp))
  |str j=>obtain⟨t',rfl⟩:=ry;exact PySem.EqNone.ne_none_str (fin_bl I q (by simp))
  |_=>exact absurd (show false=true from hs) YAA
 |bl i=>
  cases rx;cases y with
  |non=>cases ry;exact PySem.EqNone.ne_bool_none (fin_bl I q (by simp))
  |bl j=>cases ry;exact ne_bool (fin_bl I q (congrArg not dec_bl))
  |str j=>obtain⟨t',rfl⟩:=ry;exact PySem.EqMixed.ne_bool_str (fin_bl I q (by simp))
  |_=>exact absurd (show false=true from hs) YAA
 |int i=>
  obtain⟨t,rfl⟩:=rx;cases y with
  |non=>cases ry;exact PySem.EqNone.ne_int_none (fin_bl I q (by simp))
  |int j=>obtain⟨t',rfl⟩:=ry;exact ne_int (fin_bl I q (congrArg not znp))
  |str j=>obtain⟨t',rfl⟩:=ry;exact PySem.EqMixed.ne_int_str (fin_bl I q (by simp))
  |_=>exact absurd (show false=true from hs) YAA
 |str i=>
  obtain⟨t,rfl⟩:=rx;cases y with
  |non=>cases ry;exact PySem.EqNone.ne_str_none (fin_bl I q (by simp))
  |bl j=>cases ry;exact PySem.EqMixed.ne_str_bool (fin_bl I q (by simp))
  |int j=>obtain⟨t',rfl⟩:=ry;exact PySem.EqMixed.ne_str_int (fin_bl I q (by simp))
  |str j=>obtain⟨t',rfl⟩:=ry;exact ne_str (fin_bl I q (congrArg not zlB))
  |_=>exact absurd (show false=true from hs) YAA
 |byt i=>
  obtain⟨t,rfl⟩:=rx;cases y with
  |byt j=>obtain⟨t',rfl⟩:=ry;exact PySem.W.ne_bytes (fin_bl I q (congrArg not zl4))
  |_=>exact absurd (show false=true from hs) YAA
 |_=>cases y<;>exact absurd (show false=true from hs) YAA
def zpn:OpR X (compareOp .Lt) (rI0 λi j=>.bl (decide (i<j))):=opB0 λ_ _ _ _ _ _ _ q=>lt_int q
def zo7:OpR X (compareOp .Gt) (rI0 λi j=>.bl (decide (j<i))):=opB0 λ_ _ _ _ _ _ _ q=>gt_int q
def zsm:OpR X (compareOp .GtE) (rI0 λi j=>.bl (decide (j<=i))):=opB0 λ_ _ _ _ _ _ _ q=>ge_int q
def OpR.or{f:Value->Value->Sem Value}{r r':R2}(h:OpR X f r)(h':OpR X f r'):OpR X f (λx y H Q=>r x y H Q\/r' x y H Q):=by
 intro O s Y H x y v u Q I rx ry q;rcases q with q|q
 .exact h O s Y H x y v u Q I rx ry q
 .exact h' O s Y H x y v u Q I rx ry q
def zci(b:Expr)(h:op≠.In:=by decide)(h2:op≠.NotIn:=by decide):behindInMarks op b=false:=by
 have e1:(op==CmpOp.In)=false:=by cases op<;>first|rfl|exact absurd rfl h
 have e2:(op==CmpOp.NotIn)=false:=by cases op<;>first|rfl|exact absurd rfl h2
 cases b<;>simp[behindInMarks,e1,e2]
def znj(ho:OpR X (compareOp op) r)(ha:PE X a ta)(hb:PE X b tb)(hm:behindInMarks op b=false):PE X (.Compare a [op] [b] pos) (tOp r ta tb):=by
 intro O s Y H Q I h;exact wpAny_Compare1 (binT ha hb I h λv u s2 x y H2 I2 rx ry q=>ho O s2 Y H2 x y v u Q I2 rx ry q) hm
def zqB(t:TE):TT:=λY H Q=>t Y H λx H'=>∃k,x=.bl k/\Q k H'
def zcF{op:CmpOp}{r:R2}(ho:OpR X (compareOp op) r)(ha:PE X a ta)(hb:PE X b tb)(hm:behindInMarks op b=false):PT X (.Compare a [op] [b] pos) (zqB (tOp r ta tb)):=by
 intro O s Y H Q I h;refine wpAny_isTrue_Compare1 (thn (ha O s Y H _ I h) λv s1 ⟨x,H1,I1,r1,q1⟩=>thn (hb O s1 Y H1 _ I1 q1) λu s2 ⟨y,H2,I2,r2,q2⟩=>
  thn (ho O s2 Y H2 x y v u _ I2 r1 r2 q2) λc s3 ⟨z,H3,I3,r3,k,e,q3⟩=>?_) hm
 subst e;cases r3;exact YBM ⟨H3,I3,q3⟩
noncomputable def TruV(K:qg)(x:V)(H:Hp)(k:Bool):Prop:=
 match x with
 |.non=>k=false
 |.bl b=>k=b
 |.int i=>k=(i != 0)
 |.str y=>y.length<=sizeLine/\k=((y.length:Int) != 0)
 |.byt y=>y.size<=sizeLine/\k=((y.size:Int) != 0)
 |.ref p=>(∃xs,SqL K H p xs/\k = !xs.isEmpty)\/(∃xs,SqT K H p xs/\k = !xs.isEmpty)\/∃kvs,H p=some (.dK kvs)/\k = !kvs.isEmpty
 |_=>False
def zkZ{κ:Type}{kvs:List (κ×V)}{vs:List (κ×Value)}(r:KV kvs vs):(!vs.isEmpty) = !kvs.isEmpty:=by
 cases r<;>rfl
def zgV{xs:List V}{its:List Value}(r:Vals xs its):(!its.toArray.isEmpty) = !xs.isEmpty:=by
 cases r<;>simp
def zfI:(sizeLine:Nat)<2^63:=by rw[YAO];decide
def zqD:TruR X (λx H Q=>∃k,TruV X.K x H k/\Q k H):=by
 intro O s Y H x v Q I rx h;obtain⟨k,e,q⟩:=h;have hl:=zfI;have hs:sizeLine=16777216:=YAO;cases x with
 |non=>
  cases rx;have e':k=false:=e;subst e';exact truthy_none ⟨H,I,q⟩
 |bl b=>
  cases rx;have e':k=b:=e;subst e';exact YBM ⟨H,I,q⟩
 |int i=>
  obtain⟨t,rfl⟩:=rx;have e':k=(i != 0):=e;subst e';exact PySem.P.truthy_int ⟨H,I,q⟩
 |str y=>
  obtain⟨t,rfl⟩:=rx;obtain⟨hy,e'⟩:y.length<=sizeLine/\k=((y.length:Int) != 0):=e;subst e';exact PySem.P.truthy_str (by omega) ⟨H,I.tok _,q⟩
 |byt y=>
  obtain⟨t,rfl⟩:=rx;obtain⟨hy,e'⟩:y.size<=sizeLine/\k=((y.size:Int) != 0):=e;subst e';exact PySem.W.truthy_bytes (by omega) ⟨H,I.tok _,q⟩
 |ref p=>
  cases rx;have e':(∃xs,SqL X.K H p xs/\k = !xs.isEmpty)\/(∃xs,SqT X.K H p xs/\k = !xs.isEmpty)\/∃kvs,H p=some (.dK kvs)/\k = !kvs.isEmpty:=e;rcases e' with⟨xs,hx,e'⟩|⟨xs,hx,e'⟩|⟨kvs,hx,e'⟩
  .subst e';obtain⟨its,r,pl,hz⟩:=I.list hx;have hlen:=r.length;exact wpAny_truthy_list pl.isList (by simp only[YAu];omega) ⟨H,I.tok _,by rw[zgV r];exact q⟩
  .subst e';obtain⟨its,r,pl,hz⟩:=I.tuple hx;have hlen:=r.length;exact truthy_tuple pl (by simp only[YAu];omega) ⟨H,I.tok _,by rw[zgV r];exact q⟩
  .subst e';obtain⟨hz,hS,vs,r,m⟩:kvs.length<=sizeLine/\(p==sysModules)=false/\∃vs,KV kvs vs/\s.heap.DictOf (zaF X.prog X.w) p vs:=I.hok p _ hx;have hlen:kvs.length=vs.length:=Paired.length r;exact wpAny_truthy_dict hS m (by omega) ⟨H,I.tok _,by rw[zkZ r];exact q⟩
 |_=>exact(show False from e).elim
def zj5(ha:PE X a ta)(he:∀whole,isTrue a X.env whole=(do let v <-whole;standAt a.pos;holding [v] (truthy v))) :
  PT X a (λY H Q=>ta Y H λx H'=>∃k,TruV X.K x H' k/\Q k H'):=by
 intro O s Y H Q I h;exact isTrue_plain (thn (ha O s Y H _ I h) λv s1 ⟨x,H1,I1,r1,q1⟩=>zqD O s1 Y H1 x v Q I1 r1 q1) (he _)
def zlb:OpR X (binaryOp .Add) (λx y H Q=>∃i j,x=.str i/\y=.str j/\i.length+j.length<=sizeLine/\Q (.str (i++j)) H):=by
 intro O s Y H x y v u Q I rx ry h;obtain⟨i,j,rfl,rfl,hz,q⟩:=h;obtain⟨t,rfl⟩:=rx;obtain⟨t',rfl⟩:=ry;exact add_str (λt' tk=>⟨.str (i++j),H,I.tok _,⟨_,rfl⟩,q⟩) hz
def zen(r:Vals [x] us):∃u,us=[u]/\RelV x u:=by
 cases r with
 |cons r1 r2=>cases r2;exact⟨_,rfl,r1⟩
def zoh(r:Vals [x,y] us):∃u w',us=[u,w']/\RelV x u/\RelV y w':=by
 cases r with
 |cons r1 r2=>
  cases r2 with
  |cons r3 r4=>cases r4;exact⟨_,_,rfl,r1,r3⟩
def zh0(hc:X.calm=true):CallR X (.builtin "min") (λxs H Q=>∃i j,xs=[.int i,.int j]/\Q (.int (if j<i then j else i)) H):=by
 intro O s Y H xs us Q I r h;obtain⟨i,j,rfl,q⟩:=h;obtain⟨u,w',rfl,⟨t,rfl⟩,⟨t',rfl⟩⟩:=zoh r;refine min_two_ints (I.ok.hd hc) λh' tk k=>⟨_,H,I.kept k,?_,q⟩;by_cases hj:j<i
 .rw[if_pos hj,if_pos hj];exact⟨_,rfl⟩
 .rw[if_neg hj,if_neg hj];exact⟨_,rfl⟩
def zl0:CallR X (.type "int") (λxs H Q=>(∃i,xs=[.int i]/\Q (.int i) H)\/∃k,xs=[.bl k]/\Q (.int (if k then 1 else 0)) H):=by
 intro O s Y H xs us Q I r h;rcases h with⟨i,rfl,q⟩|⟨k,rfl,q⟩
 .obtain⟨u,rfl,t,rfl⟩:=zen r;exact call_int_int ⟨.int i,H,I,⟨_,rfl⟩,q⟩
 .obtain⟨u,rfl,r1⟩:=zen r;cases r1;exact call_int_bool ⟨.int (if k then 1 else 0),H,I.tok _,⟨_,rfl⟩,q⟩
end
def RelO.some_of(r:RelO (some v) o):∃u,o=some u/\RelV v u:=by
 cases o with
 |none=>exact(show False from r).elim
 |some u=>exact⟨u,rfl,r⟩
structure Room(k:Nat)(A:Around):Prop where
 hd:A.handled=none
 dp:A.depth+3*k+5<recursionLimit
 un:A.units+16*k+200<cLine
def Room.mono(r:Room k A)(h:j<=k):Room j A:=⟨r.hd,by have:=r.dp;omega,by have:=r.un;omega⟩
theorem Room.deeper{k:Nat}{A:Around}(r:Room (k+1) A)(env:Env):Room k (A.deeper env):=
 ⟨r.hd,by have:=r.dp;show A.depth+1+3*k+5<_;omega,by have:=r.un;show A.units+3+16*k+200<_;omega⟩
theorem Room.depth{k:Nat}{A:Around}(r:Room k A):A.depth<recursionLimit:=by have:=r.dp;omega
theorem Room.units(r:Room k A):A.units+64<cLine:=by have:=r.un;omega
def tNil:TA:=λ_ H Q=>Q [] H
def zsy(ta:TE)(tr:TA):TA:=λY H Q=>ta Y H λx H1=>tr Y H1 λxs H2=>Q (x::xs) H2
section
variable{X:Cx}{e:Expr}{es:List Expr}{te:TE}{t:TA}{pos:Pos}
def zav:PA X [] tNil:=λ_ _ _ _ H Q I h=>Calls.spliced_nil ⟨[],H,I,.nil,h⟩
def zag(ha:PE X e te)(hr:PA X es t)(hs:starEach (e::es) X.env=(false,eval e X.env)::starEach es X.env:=by rfl):PA X (e::es) (zsy te t):=by
 intro pos O s Y H Q I h;rw[hs];show wpAny _ _ (spliced ((false,eval e X.env)::backTo pos (starEach es X.env))) _ _ s;refine Calls.spliced_cons (thn (ha O s Y H _ I h) λu s1 ⟨x,H1,I1,r1,q1⟩=>?_);exact thn (hr pos O s1 Y H1 _ I1 q1) λus s2 ⟨xs,H2,I2,r2,q2⟩=>⟨x::xs,H2,I2,.cons r1 r2,q2⟩
def tTup(t:TA):TE:=λY H Q=>t Y H λxs H1=>xs.length<=sizeLine/\∀p,H1 p=none->Q (.ref p) (upd H1 p (.tup xs))
def tLst(t:TA):TE:=λY H Q=>t Y H λxs H1=>xs.length<=sizeLine/\∀p,H1 p=none->Q (.ref p) (upd H1 p (.lst xs))
def zep{x1}(h:PA X es t):PE X (.Tuple es x1 pos) (tTup t):=by
 intro O s Y H Q I hq;refine wpAny_Tuple_spliced (thn (h pos O s Y H _ I hq) λus s1 ⟨xs,H1,I1,r,z,q⟩=>⟨by rw[<-r.length];exact z,?_⟩);have hf:H1 s1.heap.objs.size=none:=I1.hok.fresh (YAj _);refine⟨.ref s1.heap.objs.size,upd H1 s1.heap.objs.size (.tup xs),I1.laid (t':=s1.toks) (λb u e=>YAd _ e) (YAj _) ?_,rfl,q _ hf⟩;exact⟨z,us,r,⟨_,YAr _ rfl,rfl,_,rfl⟩⟩
def zeh(h:PA X es t):PE X (.List es pos) (tLst t):=by
 intro O s Y H Q I hq;refine wpAny_List_spliced (thn (h pos O s Y H _ I hq) λus s1 ⟨xs,H1,I1,r,z,q⟩=>⟨by rw[<-r.length];exact z,?_⟩);have hf:H1 s1.heap.objs.size=none:=I1.hok.fresh (YAj _);refine⟨.ref s1.heap.objs.size,upd H1 s1.heap.objs.size (.lst xs),I1.laid (t':=s1.toks) (λb u e=>YAd _ e) (YAj _) ?_,rfl,q _ hf⟩;exact⟨z,us,0,r,YAr _ rfl⟩
end
abbrev Sp:=List V->Hp->VK->XK->Prop
abbrev CXT:=List Env->Hp->Shared->XK->Value->Shared->Prop
structure Env0(P:Program)(w:World)(K:qg)(mg:Str->Option Value)(base:Heap)(A:Around)(outer:List Env)(s:Shared)(H:Hp):Prop where
 frames:A.frames=some outer
 mod:Mod K mg base
 bs:∀b o,base.get? b=some o->s.heap.get? b=some o/\H b=none
 bsz:base.objs.size<=s.heap.objs.size
 funs:s.heap.FunFrames base outer
 frf:∀b∈frs outer,H b=none
 hok:HOk P w H s.heap
 bare:AllBare s.gens
def CE(outer:List Env)(P:Program)(w:World)(H:Hp)(s:Shared)(Q:VK)(u:Value)(s':Shared):Prop:=
 ∃v H',s'.os=s.os/\AllBare s'.gens/\Un (frs outer) [] H H' s.heap s'.heap/\HOk P w H' s'.heap/\RelV v u/\Q v H'
def CR(CX:CXT)(outer:List Env)(P:Program)(w:World)(H:Hp)(s:Shared)(Q:VK)(E:XK)(r:Result)(s':Shared):Prop:=
 match r with
 |.ok (.ret u)=>CE outer P w H s Q u s'
 |.ok _=>False
 |.error e=>CX outer H s E e s'
structure FnOk(P:Program)(w:World)(K:qg)(mg:Str->Option Value)(base:Heap)(CX:CXT)(k:Nat)(f:Addr)(fd:FuncData)(ps:List Str)(sp:Sp):Prop where
 len:∀vs H Q E,sp vs H Q E->vs.length=ps.length
 run:∀(A:Around)(outer:List Env)(s:Shared)(H:Hp)(args:Args)(us:List Value)(vs:List V)(Q:VK)(E:XK),Room k A->Env0 P w K mg base A outer s H->BindsTo s fd args (ps.zip us)->Vals vs us->sp vs H Q E ->
  codeAny (model P w) A (.call (.ref f) args) (CR CX outer P w H s Q E) s
def FnOk.imp{P:Program}{w:World}{K:qg}{mg:Str->Option Value}{base:Heap}{CX:CXT}{k:Nat}{f:Addr}{fd:FuncData}{ps:List Str}{sp sp':Sp}(F:FnOk P w K mg base CX k f fd ps sp)
  (h:∀vs H Q E,sp' vs H Q E->sp vs H Q E):FnOk P w K mg base CX k f fd ps sp':=
 ⟨λvs H Q E q=>F.len vs H Q E (h _ _ _ _ q),λA outer s H args us vs Q E hr he hb hv hs=>F.run A outer s H args us vs Q E hr he hb hv (h _ _ _ _ hs)⟩
section
variable{X:Cx}{O:List (Addr×Obj)}{Y:St}{H:Hp}{s s':Shared}
def Inv.env0(I:Inv X O Y H s):Env0 X.prog X.w X.K X.mg X.base X.A X.stack s H:=
 ⟨I.ok.frames,I.ok.mod,I.bs,YAU I.ok.bsz I.sz,I.stack,I.stkFree,I.hok,I.bare⟩
def Inv.after(I:Inv X O Y H s)(h:CE X.stack X.prog X.w H s Q u s'):EP X O Y Q u s':=by
 obtain⟨v,H',os,bare,un,hok,r,q⟩:=h;obtain⟨hh,g,d,t,os'⟩:=s';obtain rfl:os'=s.os:=os;exact⟨v,H',I.call (h':=hh) (g':=g) (d':=d) (t':=t) (ch:=[]) un hok bare (λb z=>absurd z (by simp)),r,q⟩
end
def zqz(sp:Sp)(dvs:List V)(E:XK)(t:TA):TE:=λY H Q=>t Y H λvs H1=>sp (vs++dvs) H1 Q E
def Binds(K:qg)(fd:FuncData)(ps:List Str)(ds:List Value):Prop:=
 ∀(s:Shared)(us:List Value),K.In s.heap->(us++ds).length=ps.length->BindsTo s fd ⟨us,[]⟩ (ps.zip (us++ds))
def Binds.all{K:qg}{fd:FuncData}{ps:List Str}(h:∀us:List Value,us.length=ps.length->bindArgs fd ⟨us,[]⟩=pure (ps.zip us)):Binds K fd ps []:=λs us _ hl=>by
 rw[YAR]at hl ⊢;exact .of_eq (h us hl)
def zne(CX:CXT)(X:Cx)(E:XK):Prop:=∀(O:List (Addr×Obj))(Y:St)(H:Hp)(s:Shared)(e:Value)(s':Shared),Inv X O Y H s->CX X.stack H s E e s'->X.xe e s'
section
variable{X:Cx}{CX:CXT}{k:Nat}{f C:Addr}{fd:FuncData}{ps:List Str}{sp:Sp}{dvs:List V}{ds:List Value}{E:XK}{x m:Str}{p pos apos:Pos}{e o:Expr}{es:List Expr}{ta:TE}{t:TA}
def zrk{O:List (Addr×Obj)}{Y:St}{H:Hp}{s:Shared}{Q:VK}{us:List Value}{vs:List V}(F:FnOk X.prog X.w X.K X.mg X.base CX k f fd ps sp)(hr:Room k X.A)(hb:Binds X.K fd ps ds)(hd:Vals dvs ds)(hx:zne CX X E)
  (I:Inv X O Y H s) (r:Vals vs us) (h:sp (vs++dvs) H Q E):wpAny (model X.prog X.w) X.A (call (.ref f) us) (EP X O Y Q) X.xe s:=by
 have r2:Vals (vs++dvs) (us++ds):=r.append hd;have hl:(us++ds).length=ps.length:=by rw[<-r2.length];exact F.len _ _ _ _ h
 refine wpAny_call (YDl (F.run X.A X.stack s H ⟨us,[]⟩ (us++ds) (vs++dvs) Q E hr I.env0 (hb s us I.kIn hl) r2 h) λr s' hq=>?_);cases r with
 |error e=>exact hx O Y H s e s' I hq
 |ok fl=>
  cases fl with
  |ret u=>exact I.after hq
  |next=>exact False.elim hq
  |brk=>exact False.elim hq
  |cont=>exact False.elim hq
def zhy(F:FnOk X.prog X.w X.K X.mg X.base CX k f fd ps sp)(hr:Room k X.A)(hg:Gl X x)(hm:X.mg x=some (.ref f))(hk:PySem.W.keepIn X.K (.ref f)=true)(hb:Binds X.K fd ps ds)(hd:Vals dvs ds)(hx:zne CX X E)
  (ha:PA X (e::es) t) (hdb:(x==("__debug__":Str))=false:=by decide) (he:starEach (e::es) X.env=(false,eval e X.env)::starEach es X.env:=by rfl) (hpl:(backTo pos (starEach es X.env)).any (·.1)=false:=by rfl) :
  PE X (.Call (.Name x p) (e::es) [] pos) (zqz sp dvs E t):=by
 intro O s Y H Q I h;refine YDm (zpl I hg hm ?_ hdb);refine PySem.W.callWith_K (h₀:=X.base) I.ok.mod.kin hk (thn (ha pos O s Y H _ I h) λus s1 ⟨vs,H1,I1,r,q⟩=>⟨I1.kIn,?_⟩) he hpl;exact zrk F hr hb hd hx I1 r q
end
structure FnScope(N P:List Str)(sc:Scope):Prop where
 kind:sc.kind=.function
 co:sc.isCoroutine=false
 gen:sc.isGenerator=false
 nd:N.Nodup
 pre:N.take P.length=P
 par:∀x∈P,sc.names.lookup x=some .local\/sc.names.lookup x=some .cell
 nofree:∀y∈sc.names,y.2≠.free
theorem zit{kindOf:Str->Option NameKind}{x:Str}:∀{binds:List (Str×Value)}{m:Str->Option Value},(∀v,(x,v)∉binds)->bindL kindOf binds m x=m x
 |[],_,_=>rfl
 | (n,v)::r,m,h=>by
  unfold bindL;rw[zit λw hw=>h w (YAp _ hw)];split
  .have:x≠n:=by rintro rfl;exact h v YAi
   simp[this]
  .rfl
theorem zie{kindOf:Str->Option NameKind}{x:Str}:∀{binds:List (Str×Value)}{m:Str->Option Value},(∀v,(x,v)∉binds)->bindC kindOf binds m x=m x
 |[],_,_=>rfl
 | (n,v)::r,m,h=>by
  unfold bindC;rw[zie λw hw=>h w (YAp _ hw)];split
  .rfl
  .have:x≠n:=by rintro rfl;exact h v YAi
   simp[this]
theorem ziX{kindOf:Str->Option NameKind}{x:Str}{v:Value}:∀{P:List Str}{vs:List Value}{i:Nat}{m:Str->Option Value},P.Nodup->P[i]?=some x->vs[i]?=some v->kindOf x=some .local ->
  bindL kindOf (P.zip vs) m x=some v
 |[],_,_,_,_,h,_,_=>by simp at h
 |_::_,[],_,_,_,_,h,_=>by simp at h
 |p::P,w::vs,0,m,nd,h1,h2,hk=>by
  simp at h1 h2;subst h1;subst h2;show bindL kindOf ((p,w)::P.zip vs) m p=_;unfold bindL;rw[zit λv hv=>(YBl.mp nd).1 (YDV hv).1,if_pos hk]
  simp
 |p::P,w::vs,i+1,m,nd,h1,h2,hk=>by
  show bindL kindOf ((p,w)::P.zip vs) m x=_;unfold bindL;exact ziX (i:=i) (YBl.mp nd).2 (by simpa using h1) (by simpa using h2) hk
theorem zhX{kindOf:Str->Option NameKind}{x:Str}{v:Value}:∀{P:List Str}{vs:List Value}{i:Nat}{m:Str->Option Value},P.Nodup->P[i]?=some x->vs[i]?=some v->kindOf x≠some .local ->
  bindC kindOf (P.zip vs) m x=some v
 |[],_,_,_,_,h,_,_=>by simp at h
 |_::_,[],_,_,_,_,h,_=>by simp at h
 |p::P,w::vs,0,m,nd,h1,h2,hk=>by
  simp at h1 h2;subst h1;subst h2;show bindC kindOf ((p,w)::P.zip vs) m p=_;unfold bindC;rw[zie λv hv=>(YBl.mp nd).1 (YDV hv).1,if_neg hk]
  simp
 |p::P,w::vs,i+1,m,nd,h1,h2,hk=>by
  show bindC kindOf ((p,w)::P.zip vs) m x=_;unfold bindC;exact zhX (i:=i) (YBl.mp nd).2 (by simpa using h1) (by simpa using h2) hk
def start(N:List Str)(vs:List V):St:=vs.map some++List.replicate (N.length-vs.length) none
noncomputable def cxOf(CX:CXT)(P:Program)(w:World)(K:qg)(mg:Str->Option Value)(base:Heap)(N:List Str)(qual:Str)(scope:Scope)(f:Addr)(cd:Value)(A:Around)(outer:List Env)(s:Shared)(H:Hp)(E:XK):Cx where
 prog:=P
 w:=w
 K:=K
 mg:=mg
 base:=base
 A:=A.deeper (envOfC qual scope s.heap.objs.size f cd)
 N:=N
 s₀:=s
 H₀:=H
 env:=envOfC qual scope s.heap.objs.size f cd
 outer:=outer
 stack:=envOfC qual scope s.heap.objs.size f cd::outer
 ex:=[]
 calm:=true
 fn:=λ_=>true
 pn:=[]
 xe:=λe s'=>wpAny (model P w) (A.deeper (envOfC qual scope s.heap.objs.size f cd)) (leaving (envOfC qual scope s.heap.objs.size f cd) e) (λ_ s''=>CX outer H s E e s'') (λe' s''=>CX outer H s E e' s'') s'
def zjM{sc:Scope}{n:Nat}{x:Str}(h:sc.names.lookup x=some .cell):∃c,(cellsFrom n sc.names []).lookup x=some c:=by
 have q:=PySem.W.cellsFrom_some sc.names n [] (.inl h);exact Option.isSome_iff_exists.mp q
def znk{CX:CXT}{P:Program}{w:World}{K:qg}{mg:Str->Option Value}{base:Heap}{N ps:List Str}{qual:Str}{scope:Scope}{f:Addr}{cd:Value}{A:Around}{outer:List Env}{s s1:Shared}{H:Hp}{E:XK}{us:List Value}{vs:List V}
  (S:FnScope N ps scope) (hd:A.handled=none) (e0:Env0 P w K mg base A outer s H) (hl:vs.length=ps.length) (r:Vals vs us)
  (x:InCallC s s.heap.objs.size (bindL (envOfC qual scope s.heap.objs.size f cd).kindOf (ps.zip us) λ_=>none) (cellsFrom (s.heap.objs.size+1) scope.names []) (bindC (envOfC qual scope s.heap.objs.size f cd).kindOf (ps.zip us) λ_=>none) s1) :
  Inv (cxOf CX P w K mg base N qual scope f cd A outer s H E) [] (start N vs) H s1:=by
 have hpl:ps.length<=N.length:=by have:=congrArg List.length S.pre;rw[YA8]at this;omega
 obtain⟨h1,tk,rfl,hk⟩:=x.done;have noA:∀b:Addr,b∉(cxOf CX P w K mg base N qual scope f cd A outer s H E).ex:=λb z=>absurd (show b∈([]:List Addr)from z) (by simp);refine⟨⟨e0.mod,S.kind,rfl,rfl,YAj _,λy z c h1 h2=>?_,λy hy=>?_,λy c _ h=>?_,λ_=>hd,Around.frames_deeper e0.frames,.inr ⟨rfl,rfl⟩,λb z=>absurd z (noA b),e0.bs,e0.bsz,λb _ _=>noA b,λb z=>absurd z (noA b),e0.funs,e0.frf⟩,
  rfl,e0.bare,Un.kept hk,⟨_,x.toInCall.ns,λi y v h1 h2 h3=>?_⟩,λy c h=>⟨_,x.cell y c h⟩,e0.hok.fresh (YAj _),λy c h=>?_,λp hp=>absurd (show p∈([]:List (Addr×Obj))from hp) (by simp),e0.hok.kept hk,?_⟩
 .exact name_of_addr x.apart (YBv h1) (YBv h2)
 .have hy:scope.names.lookup y=some .cell\/scope.names.lookup y=some .free:=hy;rcases hy with hy|hy
  .exact zjM hy
  .exact absurd rfl (S.nofree _ (YBv hy))
 .exact YBP (x.above y c (YBv h))
 .have hi:i<vs.length:=by
   unfold start at h2;by_cases hi:i<vs.length
   .exact hi
   .rw[YBq (by simpa using hi)]at h2;rw[YBD]at h2;split at h2<;>cases h2
  have ha:vs[i]?=some v:=by
   unfold start at h2;rw[YBO (by simpa using hi),YAo]at h2;cases e:vs[i]? with
   |none=>rw[e]at h2;cases h2
   |some a=>rw[e]at h2;cases h2;rfl
  obtain⟨u,hu,rv⟩:=r.get ha;have hp:ps[i]?=some y:=by
   rw[<-S.pre,YCc (by omega)];exact h1
  have ndP:ps.Nodup:=by rw[<-S.pre];exact S.nd.sublist (List.take_sublist _ _)
  refine⟨u,rv,?_⟩;rcases S.par y (YAz hp)with k|k
  .exact .inl ⟨k,ziX ndP hp hu k⟩
  .obtain⟨c,e⟩:=zjM (n:=s.heap.objs.size+1) k;refine .inr ⟨.inl k,c,e,?_⟩;have q:=x.cell y c e;rw[zhX ndP hp hu (by show scope.names.lookup y≠_;rw[k];decide)]at q;exact q
 .exact e0.hok.fresh (YBP (x.above y c (YBv h)))
 .unfold start;show _=N.length;rw[YAq,YAc,YCS];omega
def zrR{CX:CXT}{P:Program}{w:World}{K:qg}{mg:Str->Option Value}{base:Heap}{k:Nat}{f:Addr}{name qual:Str}{params:Arguments}{body:List Stmt}{scope:Scope}{dV kV doc pm cdv ct oc:Value}{an od:Option Addr}
  {osl:Array (Option Value)} {N ps:List Str} {sp:Sp} (lk:K.lookup f=some ⟨oc,od,.func (PySem.W.fnOf name qual params body scope dV kV doc pm an cdv ct),osl⟩) (hcd:PySem.W.codeIn K cdv qual=true) (S:FnScope N ps scope)
  (len:∀vs H Q E,sp vs H Q E->vs.length=ps.length)
  (hbody:∀(A:Around)(outer:List Env)(s:Shared)(H:Hp)(vs:List V)(Q:VK)(E:XK),Room k (A.deeper (envOfC qual scope s.heap.objs.size f cdv))->sp vs H Q E ->
   ∃t,PSs (cxOf CX P w K mg base N qual scope f cdv A outer s H E) body t/\t {nx:=λ_ H'=>Q .non H',rt:=Q} (start N vs) H) :
  FnOk P w K mg base CX (k+1) f (PySem.W.fnOf name qual params body scope dV kV doc pm an cdv ct) ps sp:=by
 refine⟨len,λA outer s H args us vs Q E hr e0 hb r hsp=>?_⟩;have hl:=len _ _ _ _ hsp;have KX:K.In s.heap:=e0.mod.kin.keeps λb o e=>(e0.bs b o e).1;have lim:s.heap.NoLimit:=e0.mod.nolimit.keeps λb o e=>(e0.bs b o e).1;have hkind:∀y∈ps.zip us,scope.names.lookup y.1=some .local\/(scope.names.lookup y.1=some .cell/\((cellsFrom (s.heap.objs.size+1) scope.names []).lookup y.1).isSome=true):=λ⟨n,v⟩ hy=>by
  rcases S.par n (YDV hy).1 with q|q
  .exact .inl q
  .exact .inr ⟨q,PySem.W.cellsFrom_some _ _ _ (.inl q)⟩
 refine codeAny_call_function hr.depth (KX _ _ lk) rfl S.co S.gen rfl (PySem.W.codeRec_of KX hcd) (hb _ _ _ _ ?_);refine wpAny_newFunctionEnv_cells S.kind hkind λenv he s1 x=>?_;subst he;refine⟨lim.keeps x.toInCall.keep,codeAny_func ?_⟩;obtain⟨t,ht,hq⟩:=hbody A outer s H vs Q E (hr.deeper _) hsp;have I:Inv (cxOf CX P w K mg base N qual scope f cdv A outer s H E) [] (start N vs) H s1:=znk S hr.hd e0 hl r x;refine YA2 (ht [] s1 (start N vs) H _ I hq) (λfl s' hs=>?_) λe s' hs=>hs;have fin:∀{Y':St}{H':Hp}{v:V}{u:Value},Inv (cxOf CX P w K mg base N qual scope f cdv A outer s H E) [] Y' H' s'->RelV v u->Q v H'->CE outer P w H s Q u s':=
  λ{Y' H' v u} J rv q=>⟨v,H',J.os,J.bare,J.base,J.hok,rv,q⟩
 cases fl with
 |ret u=>
  obtain⟨v,Y',H',J,rv,q⟩:=hs;exact fin J rv q
 |next=>
  obtain⟨Y',H',J,q⟩:=hs;exact fin (v:=V.non) (u:=Value.none) J rfl q
 |brk=>
  obtain⟨_,_,_,q⟩:=hs;exact False.elim q
 |cont=>
  obtain⟨_,_,_,q⟩:=hs;exact False.elim q
section
variable{X:Cx}{x:Str}{p pos:Pos}{e:Expr}{es:List Expr}{t:TA}{id T:String}{r:List V->Hp->VK->Prop}
def tCB(r:List V->Hp->VK->Prop)(t:TA):TE:=λY H Q=>t Y H λvs H1=>r vs H1 Q
def zbF(hc:CallR X (.builtin id) r)(hg:Gl X x)(hm:X.mg x=none)(hv:bootBuiltins x=some (.builtin id))(ha:PA X (e::es) t)(hn:x≠"__name__":=by decide)(hdb:(x==("__debug__":Str))=false:=by decide)
  (he:starEach (e::es) X.env=(false,eval e X.env)::starEach es X.env:=by rfl) (hpl:(backTo pos (starEach es X.env)).any (·.1)=false:=by rfl):PE X (.Call (.Name x p) (e::es) [] pos) (tCB r t):=by
 intro O s Y H Q I h;refine YDm (zgD I hg hm hv ?_ hn hdb);exact PyProof.Rows.callWith_builtin1 (thn (ha pos O s Y H _ I h) λus s1 ⟨vs,H1,I1,r1,q1⟩=>hc O s1 Y H1 vs us Q I1 r1 q1) he hpl
def zco(hc:CallR X (.type T) r)(hg:Gl X x)(hm:X.mg x=none)(hv:bootBuiltins x=some (.type T))(ha:PA X (e::es) t)(hn:x≠"__name__":=by decide)(hdb:(x==("__debug__":Str))=false:=by decide)
  (he:starEach (e::es) X.env=(false,eval e X.env)::starEach es X.env:=by rfl) (hpl:(backTo pos (starEach es X.env)).any (·.1)=false:=by rfl):PE X (.Call (.Name x p) (e::es) [] pos) (tCB r t):=by
 intro O s Y H Q I h;refine YDm (zgD I hg hm hv ?_ hn hdb);exact YB0 (thn (ha pos O s Y H _ I h) λus s1 ⟨vs,H1,I1,r1,q1⟩=>hc O s1 Y H1 vs us Q I1 r1 q1) he hpl
end
end L2
namespace HT
open PySem PyProof.Rows
def zg1:List Int->List Int->Bool
 |[],[]=>false
 |[],_::_=>true
 |_::_,[]=>false
 |x::xs,y::ys=>if x=y then zg1 xs ys else decide (x<y)
def zk4(x y:Int)(xs ys:List Int):zg1 (x::xs) (y::ys)=if x=y then zg1 xs ys else decide (x<y):=rfl
def zhK:zg1 [] []=false:=rfl
def znA(A:Around)(s:Shared)(a:Int)(t:Tok)(c:Int)(u:Tok):∃e,SeqAt.EqAt A s (.int a t) (.int c u) e/\(e=true↔a=c):=
 ⟨(a==c),YCJ a t c u,by simp⟩
def zoy(A:Around)(s:Shared)(a:Int)(t:Tok)(c:Int)(u:Tok)(prog:Program)(w:World)(E:Value->Shared->Prop)(Q:Value->Shared->Prop)(h:Q (.bool (decide (a<c))) s) :
  wpAny (model prog w) A (richCompare .Lt (.int a t) (.int c u)) Q E s:=
 (PyProof.Rows.lt_int h:wpAny (model prog w) A (compareOp .Lt (.int a t) (.int c u)) Q E s)
section
variable{prog:Program}{w:World}{A:Around}{E:Value->Shared->Prop}{s:Shared}
def cat_tup(ht:IsTup s.heap t vs.toArray)(hb:IsTup s.heap b ws.toArray)(hv:vs≠[])
  (h1:ws=[]->Q (.ref t) s) (h2:ws≠[]->Q (.ref s.heap.objs.size) {s with heap:=s.heap.push {cls:=.type "tuple",data:=.seq (vs++ws).toArray}})
  (hsz:vs.length+ws.length<=sizeLine):wpAny (model prog w) A (binaryOp .Add (.ref t) (.ref b)) Q E s:=by
 obtain⟨⟨cls,dd,data,sl⟩,ho,hc,n,hd⟩:=id ht;obtain⟨⟨cls2,dd2,data2,sl2⟩,ho2,hc2,n2,hd2⟩:=id hb;simp only at hc hd hc2 hd2;subst hc hd hc2 hd2;have e:vs.toArray++ws.toArray=(vs++ws).toArray:=by simp
 by_cases hw:ws=[]
 .exact YDW ⟨_,ho,rfl⟩ ⟨_,ho2,rfl⟩ YCW YDJ YCq YCi (YCd _ _)
   (tuple_addW1 t b vs.toArray ws.toArray n n2 dd dd2 sl sl2 (by simpa using hv) (by simp[hw])) ⟨ho,ho2,h1 hw⟩
 .refine YDW ⟨_,ho,rfl⟩ ⟨_,ho2,rfl⟩ YCW YDJ YCq YCi (YCd _ _)
   (tuple_addW2 t b vs.toArray ws.toArray n n2 dd dd2 sl sl2 (by simpa using hv) (by simpa using hw) (by rw[YAu,YAu];exact hsz)) ⟨ho,ho2,?_⟩
  rw[e];exact h2 hw
def sIx(n d:Nat):Option Int->Nat
 |none=>d
 |some v=>if v<0 then(v+(n:Int)).toNat else min v.toNat n
def sIx_none(n d:Nat):sIx n d none=d:=rfl
def sIx_nat(n d k:Nat):sIx n d (some (k:Int))=min k n:=by
 show(if (k:Int)<0 then((k:Int)+(n:Int)).toNat else min (k:Int).toNat n)=min k n;rw[if_neg (by omega),YAE]
def zqV(n d:Nat)(hd:d<=n)(o:Option Int):sIx n d o<=n:=by
 cases o with
 |none=>exact hd
 |some v=>
  show(if v<0 then(v+(n:Int)).toNat else min v.toNat n)<=n;by_cases hv:v<0
  .rw[if_pos hv];omega
  .rw[if_neg hv];exact Nat.min_le_right _ _
def zlW(v:Int)(n d:Nat):(if v<0 then max (v+(n:Int)) 0 else min v (n:Int))=((sIx n d (some v):Nat):Int):=by
 show(if v<0 then max (v+(n:Int)) 0 else min v (n:Int))=(((if v<0 then(v+(n:Int)).toNat else min v.toNat n):Nat):Int);by_cases hv:v<0
 .simp only[if_pos hv];omega
 .simp only[if_neg hv];omega
def zkY(lo hi:Option Int)(n:Nat):Builtin.Slice.sliceAdjust lo hi 1 (n:Int)=(((sIx n 0 lo:Nat):Int),((sIx n n hi:Nat):Int)):=by
 have h1:¬ ((1:Int)<0):=by omega
 unfold Builtin.Slice.sliceAdjust;simp only[h1,YB6];refine Prod.ext ?_ ?_
 .cases lo with
  |none=>rfl
  |some v=>exact zlW v n 0
 .cases hi with
  |none=>rfl
  |some v=>exact zlW v n n
def zkI(i j:Nat):Builtin.Slice.slicePlaces (i:Int) (j:Int) 1=j-i:=by
 unfold Builtin.Slice.slicePlaces;have h1:(1:Int)>0:=by omega
 simp only[h1,YCX,Int.ediv_one];split<;>omega
def zgH{v:Value}{o:Option Int}{Q:Option Int->Shared->Prop}(p:IsPart v o)(h:Q o s):wpAny (model prog w) A (Builtin.Slice.slicePartIndex v) Q E s:=by
 cases p with
 |none=>exact YDs h
 |int i t=>exact slicePart_int h
def zcR{sl:Addr}{vl vu:Value}{lo hi:Option Int}{n:Nat}{Q:Int×Int×Nat->Shared->Prop}(hs:s.heap.IsSliceOf sl vl vu .none)(pl:IsPart vl lo)(pu:IsPart vu hi)
  (h:Q (((sIx n 0 lo:Nat):Int),1,sIx n n hi-sIx n 0 lo) s):wpAny (model prog w) A (Builtin.Slice.sliceApplied (.ref sl) (pure (n:Int))) Q E s:=by
 obtain⟨os,hos,hcs,hds⟩:=id hs;unfold Builtin.Slice.sliceApplied Builtin.Slice.sliceFields;refine YAa (YAa (YBd hos hds (x:=vl) rfl (YAa (YBd hos hds (x:=vu) rfl (YAa (YBd hos hds (x:=.none) rfl (YAf ?_)))))));refine YAa (YDs ?_);show wpAny _ _ (if ((1:Int)==0)=true then _ else _) _ _ s;rw[if_neg (by decide)];refine YAa (zgH pl (YAa (zgH pu (YAa (YAf ?_)))));show wpAny _ _ (match Builtin.Slice.sliceAdjust lo hi 1 (n:Int)with|(lo,hi)=>pure (lo,(1:Int),Builtin.Slice.slicePlaces lo hi 1)) _ _ s;rw[zkY lo hi n];show wpAny _ _ (pure (((sIx n 0 lo:Nat):Int),(1:Int),Builtin.Slice.slicePlaces ((sIx n 0 lo:Nat):Int) ((sIx n n hi:Nat):Int) 1)) _ _ s;rw[zkI];exact YAf h
def znH(xs:Array Value)(i k:Nat):((List.range k).filterMap λ(m:Nat)=>xs[((i:Int)+(m:Int)*1).toNat]?).toArray=((xs.toList.drop i).take k).toArray:=by
 have e:(λ(m:Nat)=>xs[((i:Int)+(m:Int)*1).toNat]?)=λm=>xs[i+m]?:=by
  funext m
  have:((i:Int)+(m:Int)*1).toNat=i+m:=by omega
  rw[this]
 rw[e]
 have:=pick_run xs i k
 rw[List.filterMap_map]at this;have e2:((λx=>xs[x]?)∘λx=>i+x)=λm=>xs[i+m]?:=rfl;rw[e2]at this;rw[this]
def getItem_tuple_cut{t sl:Addr}{items:Array Value}{vl vu:Value}{lo hi:Option Int}{Q:Value->Shared->Prop}(ht:IsTup s.heap t items)(hs:s.heap.IsSliceOf sl vl vu .none)(pl:IsPart vl lo)(pu:IsPart vu hi)
  (hw:¬ (sIx items.size 0 lo=0/\sIx items.size items.size hi=items.size))
  (h:Q (.ref s.heap.objs.size) {s with heap:=s.heap.push {cls:=.type "tuple",data:=.seq ((items.toList.drop (sIx items.size 0 lo)).take (sIx items.size items.size hi-sIx items.size 0 lo)).toArray}})
  (hsz:items.size<=sizeLine):wpAny (model prog w) A (getItem (.ref t) (.ref sl)) Q E s:=by
 have htake:sizeOk (.seq ((items.toList.drop (sIx items.size 0 lo)).take (sIx items.size items.size hi-sIx items.size 0 lo)).toArray):=by
  show((items.toList.drop (sIx items.size 0 lo)).take (sIx items.size items.size hi-sIx items.size 0 lo)).toArray.size<=sizeLine;rw[YAu,YA8,YBf,YBc];omega
 have hj:sIx items.size items.size hi<=items.size:=zqV _ _ (YAj _) hi;obtain⟨os,hos,hcs,hds⟩:=id hs;have hTs:s.TypeIs (.ref sl) "slice":=⟨os,hos,hcs⟩;unfold getItem
 try with_reducible refine YAZ ?_
 first|refine YAa (YAf ?_)|skip
 refine YAa (YDz ht.typeIs (by decide) ?_);refine YAa (YA3 (name:=Str.ofString "__getitem__") ht.typeIs YAM
  (YAY YAM ht.typeIs YC9 ?_ (YDn _ _)))
 show wpAny _ _ (Builtin.Tuple.tupleItemsOf (.ref t) >>= _) _ _ s;refine YAa (tupleItemsOf_ ht ?_);refine YAa (YCs hTs ?_);rw[if_pos (by decide)];refine YAa (zcR hs pl pu ?_);have hno:¬ ((((sIx items.size 0 lo:Nat):Int)==0&&(1:Int)==1&&(sIx items.size items.size hi-sIx items.size 0 lo)==items.size)=true):=by
  intro q;rw[YAJ,YAJ]at q;have q1:((sIx items.size 0 lo:Nat):Int)=0:=eq_of_beq q.1.1;have q2:sIx items.size items.size hi-sIx items.size 0 lo=items.size:=eq_of_beq q.2;exact hw ⟨by omega,by omega⟩
 show wpAny _ _ (if (((sIx items.size 0 lo:Nat):Int)==0&&(1:Int)==1&&(sIx items.size items.size hi-sIx items.size 0 lo)==items.size)=true then _ else _) _ _ s;rw[if_neg hno,znH];first
  |exact YAa (m:=Builtin.Tuple.tupleExact _) (YAX (YAf ⟨_,rfl,YAf h⟩) htake)
  |exact YAa (m:=Builtin.Tuple.tupleExact _) (YAX (YAa (YAf (YAf ⟨_,rfl,YAf h⟩))) htake)
  |exact YAa (YAa (m:=Builtin.Tuple.tupleExact _) (YAX (YAf (YAf ⟨_,rfl,YAf h⟩)) htake))
  |exact YAa (YAa (m:=Builtin.Tuple.tupleExact _) (YAX (YAf ⟨_,rfl,YAf h⟩) htake))
end
end HT
namespace L2
open PySem PySem.Spec PyProof.Rows
abbrev TO:=St->Hp->(Option Int->Hp->Prop)->Prop
def PO(X:Cx)(e:Option Expr)(t:TO):Prop:=
 ∀(O:List (Addr×Obj))(s:Shared)(Y:St)(H:Hp)(Q:Option Int->Hp->Prop),Inv X O Y H s->t Y H Q ->
  wpAny (model X.prog X.w) X.A (evalPart e X.env) (λu s'=>∃o H',Inv X O Y H' s'/\IsPart u o/\Q o H') X.xe s
def zpV:TO:=λ_ H Q=>Q none H
def zsx(t:TE):TO:=λY H Q=>t Y H λx H1=>∃i,x=.int i/\Q (some i) H1
def zgJ:∀{us:List Value},Vals (ns.map V.int) us->IntsAre us ns:=by
 induction ns with
 |nil=>intro us r;rw[YDX]at r;cases r;exact .nil
 |cons n ns ih=>
  intro us r;rw[YAb]at r;cases r with
  |cons r1 r2=>
   obtain⟨t,e⟩:=r1;subst e;exact .cons n t (ih r2)
section
variable{X:Cx}{e:Expr}{te:TE}{lo hi:Option Expr}{tl th:TO}{pos p2:Pos}
def zhm:PO X none zpV:=by
 intro O s Y H Q I h;rw[evalPart_none];exact YAf ⟨none,H,I,.none,h⟩
def zhb(h:PE X e te):PO X (some e) (zsx te):=by
 intro O s Y H Q I hw;rw[evalPart_some];refine thn (h O s Y H _ I hw) λu s1 ⟨x,H1,I1,r1,q1⟩=>?_;obtain⟨i,rfl,q⟩:=q1;obtain⟨t,rfl⟩:=r1;exact⟨some i,H1,I1,.int i t,q⟩
noncomputable def SlR(X:Cx)(r:V->Option Int->Option Int->Hp->VK->Prop):Prop:=
 ∀(O:List (Addr×Obj))(s:Shared)(Y:St)(H:Hp)(x:V)(v vl vu:Value)(lo hi:Option Int)(sl:Addr)(Q:VK),Inv X O Y H s->RelV x v->s.heap.IsSliceOf sl vl vu .none->IsPart vl lo->IsPart vu hi->r x lo hi H Q ->
  ∃T id,typeLookup (.type T) "__getitem__"=pure (some (.builtin id))/\s.TypeIs v T/\wpAny (model X.prog X.w) X.A (getItem v (.ref sl)) (EP X O Y Q) X.xe s
def SlR.or{r r':V->Option Int->Option Int->Hp->VK->Prop}(h:SlR X r)(h':SlR X r'):SlR X (λx lo hi H Q=>r x lo hi H Q\/r' x lo hi H Q):=by
 intro O s Y H x v vl vu lo hi sl Q I rx hs pl pu q;rcases q with q|q
 .exact h O s Y H x v vl vu lo hi sl Q I rx hs pl pu q
 .exact h' O s Y H x v vl vu lo hi sl Q I rx hs pl pu q
def tSl(r:V->Option Int->Option Int->Hp->VK->Prop)(te:TE)(tl th:TO):TE:=λY H Q=>te Y H λx H1=>tl Y H1 λl H2=>th Y H2 λu H3=>r x l u H3 Q
def zfg(hr:SlR X r)(he:PE X e te)(hl:PO X lo tl)(hu:PO X hi th):PE X (.Subscript e (.Slice lo hi none p2) pos) (tSl r te tl th):=by
 intro O s Y H Q I h;refine Subscript_ (thn (he O s Y H _ I h) λv s1 ⟨x,H1,I1,r1,q1⟩=>?_);refine wpAny_Slice (thn (hl O s1 Y H1 _ I1 q1) λvl s2 ⟨l,H2,I2,pl,q2⟩=>thn (hu O s2 Y H2 _ I2 q2) λvu s3 ⟨u,H3,I3,pu,q3⟩=>?_);rw[evalPart_none];refine YAf ?_;have I4:Inv X O Y H3 {s3 with heap:=s3.heap.push {cls:=.type "slice",data:=.fields #[vl,vu,.none]}}:=I3.kept (t':=s3.toks) λb ob q=>YAd _ q;obtain⟨T,id,hT,ht,hg⟩:=hr O {s3 with heap:=s3.heap.push {cls:=.type "slice",data:=.fields #[vl,vu,.none]}} Y H3 x v vl vu l u s3.heap.objs.size Q I4 r1 (Heap.IsSliceOf.new ..) pl pu q3;show wpAny (model X.prog X.w) X.A (subscriptTail e (.Slice lo hi none p2) v (.ref s3.heap.objs.size)) (EP X O Y Q) X.xe {s3 with heap:=s3.heap.push {cls:=.type "slice",data:=.fields #[vl,vu,.none]}};exact tail_any (ops:=[.ref s3.heap.objs.size,v]) ht hT hg (by with_unfolding_all rfl)
def cutV(xs:List V)(lo hi:Option Int):List V:=(xs.drop (HT.sIx xs.length 0 lo)).take (HT.sIx xs.length xs.length hi-HT.sIx xs.length 0 lo)
def zfG(xs:List V)(lo hi:Option Int):(cutV xs lo hi).length<=xs.length:=by
 unfold cutV;rw[YA8,YBf];omega
def rSlT(K:qg):V->Option Int->Option Int->Hp->VK->Prop:=λx lo hi H Q=>∃a xs,x=.ref a/\SqT K H a xs /\
 ¬ (HT.sIx xs.length 0 lo=0/\HT.sIx xs.length xs.length hi=xs.length)/\∀p,H p=none->Q (.ref p) (upd H p (.tup (cutV xs lo hi)))
def zoX:SlR X (rSlT X.K):=by
 intro O s Y H x v vl vu lo hi sl Q I rx hs pl pu h;obtain⟨a,xs,rfl,hx,hw,q⟩:=h;cases rx;obtain⟨its,r,ht,hz⟩:=I.tuple hx;have hlen:its.toArray.size=xs.length:=by rw[YAu];exact r.length.symm
 refine⟨"tuple",_,YAM.lookup,ht.typeIs,?_⟩;refine HT.getItem_tuple_cut ht hs pl pu (by rw[hlen];exact hw) ?_ (by rw[hlen];exact hz);rw[hlen];refine⟨.ref s.heap.objs.size,_,I.laid (t':=s.toks) (o:=.tup (cutV xs lo hi)) (λb ob q=>YAd _ q) (YAj _) ?_,rfl,q _ (I.hok.fresh (YAj _))⟩;exact⟨YAU (zfG xs lo hi) hz,_,(r.drop (HT.sIx xs.length 0 lo)).take (HT.sIx xs.length xs.length hi-HT.sIx xs.length 0 lo),IsTup.new _ _⟩
def zsi(K:qg):R2:=λx y H Q=>∃a b xs ys,x=.ref a/\y=.ref b/\SqT K H a xs/\SqT K H b ys/\xs≠[]/\xs.length+ys.length<=sizeLine /\
 (ys=[]->Q (.ref a) H)/\(ys≠[]->∀p,H p=none->Q (.ref p) (upd H p (.tup (xs++ys))))
def Vals.nil_iff(r:Vals xs us):us=[]↔xs=[]:=by
 cases r with
 |nil=>simp
 |cons _ _=>simp
def zlE:OpR X (binaryOp .Add) (zsi X.K):=by
 intro O s Y H x y v u Q I rx ry h;obtain⟨a,b,xs,ys,rfl,rfl,ha,hb,hx,hz,q1,q2⟩:=h;cases rx;cases ry;obtain⟨its,r1,p1,_⟩:=I.tuple ha;obtain⟨its2,r2,p2,_⟩:=I.tuple hb;refine HT.cat_tup p1 p2 (λz=>hx (r1.nil_iff.mp z)) (λz=>⟨.ref a,H,I,rfl,q1 (r2.nil_iff.mp z)⟩) (λz=>?_) (by rw[<-r1.length,<-r2.length];exact hz);refine⟨.ref s.heap.objs.size,_,I.laid (t':=s.toks) (o:=.tup (xs++ys)) (λb ob q=>YAd _ q) (YAj _) ?_,rfl,q2 (λw=>z (r2.nil_iff.mpr w)) _ (I.hok.fresh (YAj _))⟩;exact⟨by rw[YAq];exact hz,_,r1.append r2,IsTup.new _ _⟩
end
def ixN(n:Nat)(i:Int):Option Nat:=if 0<=i then(if i<n then some i.toNat else none)else if -(n:Int)<=i then some (i+n).toNat else none
def atI{α:Type}(xs:List α)(i:Int):Option α:=(ixN xs.length i).bind λj=>xs[j]?
def zm3(h:ixN n i=some j):seqIndex? i n=some j/\j<n/\-(n:Int)<=i/\i<n:=by
 unfold ixN at h;by_cases h0:0<=i
 .rw[if_pos h0]at h;by_cases h1:i<n
  .rw[if_pos h1]at h;have e:i.toNat=j:=Option.some.inj h;exact⟨by rw[seqIndex_of h0 h1,e],by omega,by omega,h1⟩
  .rw[if_neg h1]at h;cases h
 .rw[if_neg h0]at h;by_cases h1:-(n:Int)<=i
  .rw[if_pos h1]at h;have e:(i+n).toNat=j:=Option.some.inj h;exact⟨by rw[seqIndex_neg (by omega) h1,e],by omega,h1,by omega⟩
  .rw[if_neg h1]at h;cases h
def zjK{α:Type}{xs:List α}{i:Int}{v:α}(h:atI xs i=some v):∃j,seqIndex? i xs.length=some j/\xs[j]?=some v/\j<xs.length/\-(xs.length:Int)<=i/\i<xs.length:=by
 unfold atI at h;cases e:ixN xs.length i with
 |none=>rw[e]at h;cases h
 |some j=>
  rw[e]at h;obtain⟨h1,h2,h3,h4⟩:=zm3 e;exact⟨j,h1,h,h2,h3,h4⟩
def zdJ{α:Type}{xs:List α}{j:Nat}{v:α}(h:xs[j]?=some v):atI xs (j:Int)=some v:=by
 have hj:j<xs.length:=(YAh.mp h).1;have e:ixN xs.length (j:Int)=some j:=by
  unfold ixN;rw[if_pos (by omega),if_pos (by omega)];simp
 unfold atI;rw[e];exact h
def zhT(b:Expr):Prop:=∀o i,subscripted b false o i=operate [o,i] (getItem o i)
noncomputable def IxR(X:Cx)(r:R2):Prop:=
 ∀(value slice:Expr)(O:List (Addr×Obj))(s:Shared)(Y:St)(H:Hp)(x y:V)(v u:Value)(Q:VK),Inv X O Y H s->RelV x v->RelV y u->r x y H Q ->
  subscripted slice false v u=operate [v,u] (getItem v u)->wpAny (model X.prog X.w) X.A (subscriptTail value slice v u) (EP X O Y Q) X.xe s
def MtR(X:Cx)(id:String)(r:V->List V->Hp->VK->Prop):Prop:=
 ∀(O:List (Addr×Obj))(s:Shared)(Y:St)(H:Hp)(x:V)(xs:List V)(v:Value)(us:List Value)(Q:VK),Inv X O Y H s->RelV x v->Vals xs us->r x xs H Q ->
  wpAny (model X.prog X.w) X.A (call (.builtin id) (v::us)) (EP X O Y Q) X.xe s
section
variable{X:Cx}{a b:Expr}{ta tb:TE}{pos:Pos}
def IxR.or{r r':R2}(h:IxR X r)(h':IxR X r'):IxR X (λx y H Q=>r x y H Q\/r' x y H Q):=by
 intro value slice O s Y H x y v u Q I rx ry q hs;rcases q with q|q
 .exact h value slice O s Y H x y v u Q I rx ry q hs
 .exact h' value slice O s Y H x y v u Q I rx ry q hs
def zcO(hr:IxR X r)(ha:PE X a ta)(hb:PE X b tb)(hs:zhT b):PE X (.Subscript a b pos) (tOp r ta tb):=by
 intro O s Y H Q I h;exact Subscript_ (binT ha hb I h λv u s2 x y H2 I2 rx ry q=>hr a b O s2 Y H2 x y v u Q I2 rx ry q (hs _ _))
def rIxL(K:qg):R2:=λx y H Q=>∃p xs i v,x=.ref p/\y=.int i/\SqL K H p xs/\atI xs i=some v/\Q v H
def rIxT(K:qg):R2:=λx y H Q=>∃p xs i v,x=.ref p/\y=.int i/\SqT K H p xs/\atI xs i=some v/\Q v H
def rIxS:R2:=λx y H Q=>∃z i c,x=.str z/\y=.int i/\z.length<=sizeLine/\atI z.cps.toList i=some c/\Q (.str ⟨#[c]⟩) H
def ix_list:IxR X (rIxL X.K):=by
 intro value slice O s Y H x y v u Q I rx ry h hs;obtain⟨p,xs,i,z,rfl,rfl,hq,he,q⟩:=h;cases rx;obtain⟨t,rfl⟩:=ry;obtain⟨its,r,pl,hz⟩:=I.list hq;obtain⟨j,h1,h2,h3,h4,h5⟩:=zjK he;obtain⟨w,ew,rw'⟩:=r.get h2;have hl:=r.length;have hn:=zfI;have fin:EP X O Y Q w s:=⟨z,H,I,rw',q⟩;by_cases h0:0<=i
 .have hj:i.toNat=j:=by
   rw[seqIndex_of h0 h5]at h1;exact Option.some.inj h1
  exact item_listR pl.isList h0 (by omega) (by rw[hj];simpa using ew) fin hs
 .have hj:(i+(its.toArray.size:Int)).toNat=j:=by
   rw[seqIndex_neg (by omega) h4]at h1;rw[YAu,<-hl];exact Option.some.inj h1
  exact subscriptTail_builtinR (x:=w) pl.isList.typeIs slot_list_getitem.lookup
   (wpAny_getItem_list_neg (Q:=λr s'=>r=w/\EP X O Y Q r s') pl.isList (by omega) (by rw[YAu]<;>omega) (by omega) (by rw[hj];simpa using ew) ⟨rfl,fin⟩) hs
def ix_tup:IxR X (rIxT X.K):=by
 intro value slice O s Y H x y v u Q I rx ry h hs;obtain⟨p,xs,i,z,rfl,rfl,hq,he,q⟩:=h;cases rx;obtain⟨t,rfl⟩:=ry;obtain⟨its,r,pl,hz⟩:=I.tuple hq;obtain⟨j,h1,h2,h3,h4,h5⟩:=zjK he;obtain⟨w,ew,rw'⟩:=r.get h2;have hl:=r.length;have hn:=zfI;have fin:EP X O Y Q w s:=⟨z,H,I,rw',q⟩;exact subscriptTail_builtinR (x:=w) pl.typeIs slot_tuple_getitem.lookup
  (getItem_tuple (j:=j) (Q:=λr s'=>r=w/\EP X O Y Q r s') pl (by omega) (by omega) (by rw[YAu,<-hl];exact h1) (by simpa using ew) ⟨rfl,fin⟩) hs
def zrM:IxR X rIxS:=by
 intro value slice O s Y H x y v u Q I rx ry h hs;obtain⟨z,i,c,rfl,rfl,hz,he,q⟩:=h;obtain⟨t,rfl⟩:=rx;obtain⟨t',rfl⟩:=ry;obtain⟨j,h1,h2,h3,h4,h5⟩:=zjK he;have hl:z.cps.toList.length=z.length:=by simp[Str.length]
 rw[hl]at h1 h4 h5;have hn:=zfI;exact tail_any (typeIs_str s z t) slot_str_getitem.lookup (getItem_str (c:=c) (by
  have e1:decide (i < -(2^63:Int))=false:=YAN (by omega);have e2:decide (i ≥ 2^63)=false:=YAN (by omega);rw[e1,e2,Bool.or_false]) (by rw[h1];simpa using h2) ⟨.str ⟨#[c]⟩,H,I.tok _,⟨_,rfl⟩,q⟩) hs
def rIx(K:qg):R2:=λx y H Q=>rIxL K x y H Q\/rIxT K x y H Q\/rIxS x y H Q
def zoO:IxR X (rIx X.K):=ix_list.or (ix_tup.or zrM)
def zkR(its:List Value)(n j:Nat)(u:Value):Obj.mapSeq (·.setIfInBounds j u) {cls:=.type "list",data:=.seq its.toArray n}={cls:=.type "list",data:=.seq (its.set j u).toArray n}:=by
 simp[Obj.mapSeq]
theorem Inv.lst{O:List (Addr×Obj)}{Y:St}{H:Hp}{s:Shared}{p:Addr}{xs:List V}(I:Inv X O Y H s)(h:H p=some (.lst xs)) :
  ∃(its:List Value)(n:Nat),Vals xs its/\s.heap.get? p=some {cls:=.type "list",data:=.seq its.toArray n}/\xs.length<=sizeLine:=by
 obtain⟨z,its,n,r,e⟩:=I.hok p _ h;exact⟨its,n,r,e,z⟩
def Inv.lstUpd{O:List (Addr×Obj)}{Y:St}{H:Hp}{s:Shared}{p:Addr}{xs ys:List V}{its its':List Value}{n n':Nat}{f:Obj->Obj}(I:Inv X O Y H s)(h:H p=some (.lst xs))
  (ho:s.heap.get? p=some {cls:=.type "list",data:=.seq its.toArray n}) (hf:f {cls:=.type "list",data:=.seq its.toArray n}={cls:=.type "list",data:=.seq its'.toArray n'}) (r:Vals ys its') (hz:ys.length<=sizeLine) (t:Nat) :
  Inv X O Y (upd H p (.lst ys)) {s with heap:=s.heap.update p f,toks:=t}:=by
 have e:(s.heap.update p f).get? p=some {cls:=.type "list",data:=.seq its'.toArray n'}:=by
  rw[YBx f ho (by rw[hf]<;>rfl),hf]
 refine I.write (x:=p) (e:=p) (by rw[h];trivial) (.inl rfl) (λb u hb q=>(YBL _ _ (Ne.symm hb)).trans q) ⟨_,e⟩ ?_;exact⟨hz,its',n',r,e⟩
def zsB:V->V->V->Hp->(Hp->Prop)->Prop:=λo i v H Q=>∃p xs k j,o=.ref p/\i=.int k/\H p=some (.lst xs)/\ixN xs.length k=some j/\Q (upd H p (.lst (xs.set j v)))
def zcH:PSet X zsB:=by
 intro O s Y H o i v ov iv u Q I ro ri rv h;obtain⟨p,xs,k,j,rfl,rfl,hp,hj,q⟩:=h;cases ro;obtain⟨t,rfl⟩:=ri;obtain⟨its,n,r,ho,hz⟩:=I.lst hp;obtain⟨h1,h2,h3,h4⟩:=zm3 hj;have hl:=r.length;have hn:=zfI;have I':Inv X O Y (upd H p (.lst (xs.set j v))) {s with heap:=s.heap.update p (Obj.mapSeq (·.setIfInBounds j u))}:=
  I.lstUpd hp ho (zkR its n j u) (r.set rv j) (by rw[List.length_set];exact hz) s.toks
 by_cases h0:0<=k
 .have hk:k.toNat=j:=by
   rw[seqIndex_of h0 h4]at h1;exact Option.some.inj h1
  exact PySem.W.ki_setAt ho h0 (by omega) (by rw[YAu,<-hl];exact h4) (by rw[hk];exact⟨_,I',q⟩)
 .have hk:(k+(its.toArray.size:Int)).toNat=j:=by
   rw[seqIndex_neg (by omega) h3]at h1;rw[YAu,<-hl];exact Option.some.inj h1
  exact PySem.W.ki_setBack ho (by omega) (by rw[YAu,<-hl];exact h3) (by omega) (by rw[hk];exact⟨_,I',q⟩)
def zid(lo hi:Option Int)(n:Nat):(sliceBounds lo hi none n).1=((HT.sIx n 0 lo:Nat):Int)/\(sliceBounds lo hi none n).2.1=((HT.sIx n n hi:Nat):Int)/\(sliceBounds lo hi none n).2.2=1:=by
 refine⟨?_,?_,rfl⟩
 .cases lo with
  |none=>simp[sliceBounds,HT.sIx]
  |some i=>
   simp only[sliceBounds,HT.sIx,Option.getD_none,show(1:Int)>0 by decide,YCX];by_cases h:i<0
   .simp only[h,YCX]<;>omega
   .simp only[h,YB6]<;>omega
 .cases hi with
  |none=>simp[sliceBounds,HT.sIx]
  |some i=>
   simp only[sliceBounds,HT.sIx,Option.getD_none,show(1:Int)>0 by decide,YCX];by_cases h:i<0
   .simp only[h,YCX]<;>omega
   .simp only[h,YB6]<;>omega
def zg0(its:List Value)(lo hi:Option Int):slicePick its.toArray lo hi none=((its.drop (HT.sIx its.length 0 lo)).take (HT.sIx its.length its.length hi-HT.sIx its.length 0 lo)).toArray:=by
 obtain⟨h1,h2,h3⟩:=zid lo hi its.toArray.size;unfold slicePick;rw[h1,h2,h3];simp only[sliceRange_one,pick_run,YAu]<;>rfl
def rSlL(K:qg):V->Option Int->Option Int->Hp->VK->Prop:=λx lo hi H Q=>∃a xs,x=.ref a/\SqL K H a xs/\∀p,H p=none->Q (.ref p) (upd H p (.lst (cutV xs lo hi)))
def sl_list:SlR X (rSlL X.K):=by
 intro O s Y H x v vl vu lo hi sl Q I rx hs pl pu h;obtain⟨a,xs,rfl,hx,q⟩:=h;cases rx;obtain⟨its,r,ht,hz⟩:=I.list hx;have hlen:=r.length;refine⟨"list",_,slot_list_getitem.lookup,ht.isList.typeIs,?_⟩;refine wpAny_getItem_list_slice ht.isList hs pl pu .none (by simp) ?_ (by rw[YAu]<;>omega);rw[zg0,<-hlen];refine⟨.ref s.heap.objs.size,_,I.laid (t':=s.toks) (o:=.lst (cutV xs lo hi)) (λb ob q=>YAd _ q) (YAj _) ?_,rfl,q _ (I.hok.fresh (YAj _))⟩;exact⟨YAU (zfG xs lo hi) hz,_,0,(r.drop (HT.sIx xs.length 0 lo)).take (HT.sIx xs.length xs.length hi-HT.sIx xs.length 0 lo),YAr _ rfl⟩
def zhe:V->Bool
 |.non=>true
 |.bl _=>true
 |.int _=>true
 |.str _=>true
 |_=>false
def eqV:V->V->Bool
 |.non,.non=>true
 |.bl a,.bl b=>a==b
 |.bl a,.int b=>(if a then 1 else 0)==b
 |.int a,.bl b=>a==(if b then 1 else 0)
 |.int a,.int b=>a==b
 |.str a,.str b=>a==b
 |_,_=>false
def zrw(ry:RelV y u)(rx:RelV x v)(fy:zhe y=true)(fx:zhe x=true):SeqAt.EqAt A s u v (eqV y x):=by
 cases y with
 |non=>
  cases ry;cases x with
  |non=>cases rx;exact SeqAt.EqAt.same _
  |bl b=>cases rx;exact SeqAt.EqAt.none_bool b
  |int b=>obtain⟨t,rfl⟩:=rx;exact SeqAt.EqAt.none_int b t
  |str b=>obtain⟨t,rfl⟩:=rx;exact SeqAt.EqAt.none_str b t
  |_=>exact absurd (show false=true from fx) YAA
 |bl a=>
  cases ry;cases x with
  |non=>cases rx;exact SeqAt.EqAt.bool_none a
  |bl b=>cases rx;exact SeqAt.EqAt.bool_bool a b
  |int b=>obtain⟨t,rfl⟩:=rx;exact SeqAt.EqAt.bool_int a b t
  |str b=>obtain⟨t,rfl⟩:=rx;exact SeqAt.EqAt.bool_str a b t
  |_=>exact absurd (show false=true from fx) YAA
 |int a=>
  obtain⟨t',rfl⟩:=ry;cases x with
  |non=>cases rx;exact SeqAt.EqAt.int_none a t'
  |bl b=>cases rx;exact SeqAt.EqAt.int_bool a t' b
  |int b=>obtain⟨t,rfl⟩:=rx;exact YCJ a t' b t
  |str b=>obtain⟨t,rfl⟩:=rx;exact SeqAt.EqAt.int_str a t' b t
  |_=>exact absurd (show false=true from fx) YAA
 |str a=>
  obtain⟨t',rfl⟩:=ry;cases x with
  |non=>cases rx;exact SeqAt.EqAt.str_none a t'
  |bl b=>cases rx;exact SeqAt.EqAt.str_bool a t' b
  |int b=>obtain⟨t,rfl⟩:=rx;exact SeqAt.EqAt.str_int a t' b t
  |str b=>obtain⟨t,rfl⟩:=rx;exact SeqAt.EqAt.str_str a t' b t
  |_=>exact absurd (show false=true from fx) YAA
 |_=>exact absurd (show false=true from fy) YAA
def eqU(x:V)(u:Value):Bool:=match u with
 |.none=>eqV .non x
 |.bool b=>eqV (.bl b) x
 |.int i _=>eqV (.int i) x
 |.str z _=>eqV (.str z) x
 |_=>false
def zoV(r:RelV y u)(f:zhe y=true):eqU x u=eqV y x:=by
 cases y with
 |non=>cases r;rfl
 |bl b=>cases r;rfl
 |int i=>obtain⟨t,rfl⟩:=r;rfl
 |str z=>obtain⟨t,rfl⟩:=r;rfl
 |_=>exact absurd (show false=true from f) YAA
theorem zjH:∀{xs:List V}{us:List Value},Vals xs us->xs.all zhe=true->us.any (eqU x)=xs.any λy=>eqV y x
 |_,_,.nil,_=>rfl
 |y::xs,u::us,.cons r t,f=>by
  rw[YDK,YAJ]at f;rw[YCx,YCx,zoV r f.1,zjH t f.2]
theorem zg5(rx:RelV x v)(fx:zhe x=true):∀{xs:List V}{us:List Value},Vals xs us->xs.all zhe=true->∀u∈us,SeqAt.EqAt A s u v (eqU x u)
 |_,_,.nil,_=>λu hu=>by cases hu
 |y::xs,u::us,.cons r t,f=>λu' hu=>by
  rw[YDK,YAJ]at f;rcases YAn.mp hu with rfl|hu
  .rw[zoV r f.1];exact zrw r rx f.1 fx
  .exact zg5 rx fx t f.2 u' hu
def inV(x:V)(xs:List V):Bool:=xs.any λy=>eqV y x
def rIn(K:qg)(neg:Bool):R2:=λx y H Q=>∃p xs,y=.ref p/\(SqL K H p xs\/SqT K H p xs)/\zhe x=true/\xs.all zhe=true/\Q (.bl (if neg then !inV x xs else inV x xs)) H
def zeS:OpR X (compareOp .NotIn) (rIn X.K true):=by
 intro O s Y H x y v u Q I rx ry h;obtain⟨p,xs,rfl,hq,fx,fs,q⟩:=h;cases ry;rcases hq with hq|hq
 .obtain⟨its,r,pl,hz⟩:=I.list hq;refine SeqAt.notIn_listAt (eqU x) pl.isList (λw hw=>zg5 rx fx r fs w (by simpa using hw)) ⟨.bl _,H,I,rfl,?_⟩;rw[show its.toArray.any (eqU x)=its.any (eqU x) by simp,zjH r fs];exact q
 .obtain⟨its,r,pl,hz⟩:=I.tuple hq;refine SeqAt.notIn_tupleAt (eqU x) pl (λw hw=>zg5 rx fx r fs w (by simpa using hw)) ⟨.bl _,H,I,rfl,?_⟩;rw[show its.toArray.any (eqU x)=its.any (eqU x) by simp,zjH r fs];exact q
def zch:CallR X (.builtin "len") (λxs H Q=>∃p ys,xs=[.ref p]/\(SqL X.K H p ys\/SqT X.K H p ys)/\Q (.int ys.length) H):=by
 intro O s Y H xs us Q I r h;obtain⟨p,ys,rfl,hq,q⟩:=h;obtain⟨u,rfl,rx⟩:=zen r;cases rx;have hn:=zfI;rcases hq with hq|hq
 .obtain⟨its,r',pl,hz⟩:=I.list hq;have hlen:=r'.length;exact Calls.call_len_list pl.isList (by simp only[YAu]<;>omega) ⟨.int ys.length,H,I.tok _,⟨s.toks+1,by rw[YAu,hlen]⟩,q⟩
 .obtain⟨its,r',pl,hz⟩:=I.tuple hq;have hlen:=r'.length;exact len_tuple pl (by simp only[YAu]<;>omega) ⟨.int ys.length,H,I.tok _,⟨s.toks+1,by rw[YAu,hlen]⟩,q⟩
def CallR.or{f:Value}{r r':List V->Hp->VK->Prop}(h:CallR X f r)(h':CallR X f r'):CallR X f (λxs H Q=>r xs H Q\/r' xs H Q):=by
 intro O s Y H xs us Q I rs q;rcases q with q|q
 .exact h O s Y H xs us Q I rs q
 .exact h' O s Y H xs us Q I rs q
def zeV:CallR X (.type "list") (λxs H Q=>∃p ys,xs=[.ref p]/\(SqL X.K H p ys\/SqT X.K H p ys)/\∀l,H l=none->Q (.ref l) (upd H l (.lst ys))):=by
 intro O s Y H xs us Q I r h;obtain⟨p,ys,rfl,hq,q⟩:=h;obtain⟨u,rfl,rx⟩:=zen r;cases rx;have fin:∀(its:List Value),Vals ys its->ys.length<=sizeLine->∀(h':Heap)(c':Nat),(∀b o',s.heap.get? b=some o'->h'.get? b=some o') ->
   h'.get? s.heap.objs.size=some {cls:=.type "list",dict:=none,data:=.seq its.toArray c',slots:=#[]}->EP X O Y Q (.ref s.heap.objs.size) {s with heap:=h'}:=λits r' hz h' c' kp e=>
  ⟨.ref s.heap.objs.size,_,I.laid (t':=s.toks) kp (YAj _) (show ObjOk X.prog X.w _ h' _ (.lst ys)from⟨hz,its,c',r',e⟩),rfl,q _ (I.hok.fresh (YAj _))⟩
 rcases hq with hq|hq
 .obtain⟨its,r',pl,hz⟩:=I.list hq;have hlen:=r'.length;obtain⟨o,ho,hc,n,hd⟩:=pl.isList;exact call_list_seq p (.inl rfl) ho hc hd (λh' c' kp e=>fin its r' hz h' c' kp e) (by simp only[YAu]<;>omega)
 .obtain⟨its,r',pl,hz⟩:=I.tuple hq;have hlen:=r'.length;obtain⟨o,ho,hc,n,hd⟩:=pl;exact call_list_seq p (.inr rfl) ho hc hd (λh' c' kp e=>fin its r' hz h' c' kp e) (by simp only[YAu]<;>omega)
def zhA:CallR X (.type "tuple") (λxs H Q=>∃p ys,xs=[.ref p]/\((SqL X.K H p ys/\∀l,H l=none->Q (.ref l) (upd H l (.tup ys)))\/(SqT X.K H p ys/\Q (.ref p) H))):=by
 intro O s Y H xs us Q I r h;obtain⟨p,ys,rfl,h⟩:=h;obtain⟨u,rfl,rx⟩:=zen r;cases rx;rcases h with⟨hq,q⟩|⟨hq,q⟩
 .obtain⟨its,r',pl,hz⟩:=I.list hq;have hlen:=r'.length;refine call_tuple_list pl.isList (λh' kp=>?_) (by simp only[YAu]<;>omega);have I1:Inv X O Y H {s with heap:=h'}:=I.kept (t':=s.toks) kp;have I2:Inv X O Y (upd H h'.objs.size (.tup ys)) {s with heap:=h'.push {cls:=.type "tuple",data:=.seq its.toArray}}:=
   I1.laid (t':=s.toks) (λb o e=>YAd _ e) (YAj _) (show ObjOk X.prog X.w _ _ _ (.tup ys)from⟨hz,its,r',IsTup.new _ _⟩)
  exact⟨.ref h'.objs.size,_,I2,rfl,q _ (I1.hok.fresh (YAj _))⟩
 .obtain⟨its,r',pl,hz⟩:=I.tuple hq;exact call_tuple_same pl ⟨.ref p,H,I,rfl,q⟩
noncomputable def tyV(K:qg)(T:String)(x:V)(H:Hp):Prop:=match x with
 |.str _=>T="str"
 |.int _=>T="int"
 |.ref p=>(T="list" /\ ∃xs,SqL K H p xs)\/(T="tuple" /\ ∃o,K.lookup p=some o/\o.cls=.type "tuple" /\ o.dict=none) \/
   (T="dict" /\ ((∃kvs,H p=some (.dK kvs))\/∃kvs,H p=some (.dT kvs)))\/(T="set" /\ ∃S n,H p=some (.set S n))
 |_=>False
def zqt(I:Inv X O Y H s)(r:RelV x v)(ty:tyV X.K T x H) :
  s.TypeIs v T/\∀a,v=.ref a->∃ob,s.heap.get? a=some ob/\ob.dict=none:=by
 cases x with
 |str z=>
  obtain⟨t,rfl⟩:=r;cases (show T="str" from ty);exact⟨typeIs_str s z t,λ_ e=>nomatch e⟩
 |int i=>
  obtain⟨t,rfl⟩:=r;cases (show T="int" from ty);exact⟨typeIs_int s i t,λ_ e=>nomatch e⟩
 |ref p=>
  cases r;rcases ty with⟨rfl,xs,hq⟩|⟨rfl,o,hk,hc,hd⟩|⟨rfl,hk⟩|⟨rfl,S,n,hk⟩
  .obtain⟨its,_,pl,_⟩:=I.list hq;refine⟨pl.isList.typeIs,λa e=>?_⟩;cases e;obtain⟨o,n,e,c,hd,_⟩:=pl;exact⟨o,e,hd⟩
  .refine⟨⟨o,I.kIn p o hk,hc⟩,λa e=>?_⟩;cases e;exact⟨o,I.kIn _ o hk,hd⟩
  .have z:∃o,s.heap.get? p=some o/\o.ExactDict:=by
    rcases hk with⟨kvs,hk⟩|⟨kvs,hk⟩
    .obtain⟨_,_,_,_,o,_,_,e,ex,_⟩:=I.hok p _ hk;exact⟨o,e,ex⟩
    .obtain⟨_,_,_,_,o,_,_,e,ex,_⟩:=I.hok p _ hk;exact⟨o,e,ex⟩
   obtain⟨o,e,ex⟩:=z;refine⟨⟨o,e,ex.1⟩,λa e2=>?_⟩;cases e2;exact⟨o,e,ex.2.1⟩
  .obtain⟨o,_,_,_,e,ex,_⟩:=I.hok p _ hk;refine⟨⟨o,e,ex.1⟩,λa e2=>?_⟩;cases e2;exact⟨o,e,ex.2.1⟩
 |_=>exact False.elim ty
def tBM(K:qg)(T:String)(r:V->List V->Hp->VK->Prop)(to:TE)(t:TA):TE:=λY H Q=>to Y H λx H1=>tyV K T x H1/\t Y H1 λxs H2=>r x xs H2 Q
variable{o e:Expr}{es:List Expr}{to:TE}{t:TA}{name:Str}{apos cpos:Pos}{T id:String}{r:V->List V->Hp->VK->Prop}
def zkM(pa:PlainAttrs T)(slot:Slot T name id)(hty:typeOf (.builtin id)=pure (.type "method_descriptor"))(hm:MtR X id r)(ho:PE X o to)(ha:PA X (e::es) t)
  (hbase:attributeBase o name X.env (eval o X.env)=eval o X.env:=by rfl)
  (hfew:((backTo cpos (starEach (e::es) X.env)).all (λx=>!x.1)&&(backToKw cpos (keywordEach [] X.env)).all (λx=>x.1.isSome)
   && decide ((e::es).length+([]:List Keyword).length+(if ([]:List Keyword).isEmpty then 0 else 1)<30))=true:=by rfl)
  (hline:(apos.endLine==cpos.line)=true:=by rfl) (hs:starEach (e::es) X.env=(false,eval e X.env)::starEach es X.env:=by rfl) (hplain:(backTo cpos (starEach es X.env)).any (·.1)=false:=by rfl) :
  PE X (.Call (.Attribute o name apos) (e::es) [] cpos) (tBM X.K T r to t):=by
 intro O s Y H Q I h;refine wpAny_Call_method_late hbase hfew hline rfl (thn (ho O s Y H _ I h) λv s1 ⟨x,H1,I1,r1,ty,q1⟩=>?_);obtain⟨h1,h2⟩:=zqt I1 r1 ty;refine⟨T,id,pa,slot,hty,h1,h2,?_⟩;have hA:=ha cpos O s1 Y H1 _ I1 q1;rw[hs]at hA ⊢;refine Calls.callWith_builtin (by show(false || (backTo cpos (starEach es X.env)).any (·.1))=false;rw[hplain]<;>rfl) (Calls.evalArgs_plain ?_);exact thn hA λus s2 ⟨vs,H2,I2,r2,q2⟩=>hm O s2 Y H2 x vs v us Q I2 r1 r2 q2
end
def MtM(X:Cx)(id:String)(r:V->List V->Hp->VK->Prop):Prop:=
 ∀(O:List (Addr×Obj))(s:Shared)(Y:St)(H:Hp)(x:V)(xs:List V)(v:Value)(us:List Value)(Q:VK),Inv X O Y H s->RelV x v->Vals xs us->r x xs H Q ->
  wpAny (model X.prog X.w) X.A (call (.builtin id) (v::us)) (EP X O Y Q) X.xe s
def Vals.one:∀{x:V}{us:List Value},Vals [x] us->∃u,us=[u]/\RelV x u
 |_,_,.cons r .nil=>⟨_,rfl,r⟩
theorem Vals.rep(h:Vals xs us):∀k:Nat,Vals (List.replicate k xs).flatten (List.replicate k us).flatten
 |0=>.nil
 |k+1=>by
  rw[YAV,YAV,YBj,YBj];exact Vals.append h (Vals.rep h k)
theorem ziM(its:List Value):∀(k:Nat)(acc:List Value),
  List.foldl (λx1 x2=>x1++x2) acc.toArray (List.replicate k its.toArray)=(acc++(List.replicate k its).flatten).toArray
 |0,acc=>by simp
 |k+1,acc=>by
  have e:acc.toArray++its.toArray=(acc++its).toArray:=by simp
  have e2:(acc++its)++(List.replicate k its).flatten=acc++(List.replicate (k+1) its).flatten:=by
   rw[YAV,YBj,YAB]
  rw[<-e2,<-ziM its k (acc++its),<-e,YAV,YDa]
section
variable{X:Cx}{O:List (Addr×Obj)}{Y:St}{H:Hp}{s:Shared}{l b:Addr}{xs ys zs:List V}
def Inv.lset{its its':List Value}{n:Nat}{f:Array Value->Array Value}{t':Nat}(I:Inv X O Y H s)(hH:H l=some (.lst xs))
  (e:s.heap.get? l=some {cls:=.type "list",data:=.seq its.toArray n}) (hf:f its.toArray=its'.toArray) (hv:Vals ys its') (hz:ys.length<=sizeLine) :
  Inv X O Y (upd H l (.lst ys)) {s with heap:=s.heap.update l (Obj.mapSeq f),toks:=t'}:=by
 have q:=PySem.IsL.update e f;rw[hf]at q;refine I.write (x:=l) (e:=l) (by rw[hH];exact trivial) (.inl rfl) (λb' u hb hu=>(YBL s.heap (Obj.mapSeq f) (Ne.symm hb)).trans hu) ⟨_,q⟩ ?_;exact⟨hz,its',_,hv,q⟩
def Inv.lnew(I:Inv X O Y H s)(hv:Vals ys its)(hz:ys.length<=sizeLine) :
  Inv X O Y (upd H s.heap.objs.size (.lst ys)) {s with heap:=s.heap.push {cls:=.type "list",data:=.seq its.toArray},toks:=t'}:=
 I.laid (λ_ _ q=>YAd _ q) (YAj _) ⟨hz,its,0,hv,YAr _ rfl⟩
theorem Inv.fresh(I:Inv X O Y H s):H s.heap.objs.size=none:=I.hok.fresh (YAj _)
def Inv.lstM(I:Inv X O Y H s)(hH:H l=some (.lst xs)):xs.length<=sizeLine/\∃(its:List Value)(n:Nat),Vals xs its/\xs.length=its.length/\s.heap.get? l=some {cls:=.type "list",data:=.seq its.toArray n}:=by
 obtain⟨z,its,n,r,e⟩:=I.hok l _ hH;exact⟨z,its,n,r,r.length,e⟩
def zoD{n:Nat}(h:n<=sizeLine):Builtin.List.listTooLong n=false:=by
 unfold Builtin.List.listTooLong;exact YAN (by omega)
end
section
variable{X:Cx}
def zp3:V->List V->Hp->VK->Prop:=λx vs H Q=>∃l xs y,x=.ref l/\vs=[y]/\H l=some (.lst xs)/\xs.length<sizeLine/\Q .non (upd H l (.lst (xs++[y])))
def zbQ:MtM X "list.append" zp3:=by
 intro O s Y H x vs v us Q I rx rv h;obtain⟨l,xs,y,rfl,rfl,hH,hz,q⟩:=h;cases rx;obtain⟨u,rfl,ru⟩:=rv.one;obtain⟨z,its,n,r,hl,e⟩:=I.lstM hH;refine call_meets F.slot_list_append ⟨_,e,rfl⟩ F.entry_list_append (F.args_list_append_2 _ _) (PySem.list_append l its.toArray n u (by rw[YAu];omega)) ⟨e,?_⟩;refine⟨.non,_,I.lset (its':=its++[u]) hH e (by simp) (r.append (.cons ru .nil)) ?_,rfl,q⟩;rw[YAq,YBy];omega
def rCat:R2:=λx y H Q=>∃l b xs zs,x=.ref l/\y=.ref b/\H l=some (.lst xs)/\H b=some (.lst zs)/\xs.length+zs.length<=sizeLine/\∀p,H p=none->Q (.ref p) (upd H p (.lst (xs++zs)))
def op_cat:OpR X (binaryOp .Add) rCat:=by
 intro O s Y H x y v u Q I rx ry h;obtain⟨l,b,xs,zs,rfl,rfl,hH,hB,hz,q⟩:=h;cases rx;cases ry;obtain⟨z,its,n,r,hl,e⟩:=I.lstM hH;obtain⟨z2,its2,n2,r2,hl2,e2⟩:=I.lstM hB;refine PySem.P.add_list e e2 ?_ (by rw[YAu,YAu];omega);have ea:its.toArray++its2.toArray=(its++its2).toArray:=by simp
 rw[ea];exact⟨.ref _,_,I.lnew (t':=s.toks) (r.append r2) (by rw[YAq];omega),rfl,q _ I.fresh⟩
def rRep:R2:=λx y H Q=>∃l k xs,x=.ref l/\y=.int k/\H l=some (.lst xs)/\-(2^63)<=k/\k<2^63/\xs.length*k.toNat<=sizeLine /\
 ∀p,H p=none->Q (.ref p) (upd H p (.lst (List.replicate k.toNat xs).flatten))
def zpP{α:Type}(xs:List α)(k:Nat):(List.replicate k xs).flatten.length=k*xs.length:=by
 induction k with
 |zero=>simp
 |succ k ih=>rw[YAV,YBj,YAq,ih,Nat.succ_mul,Nat.add_comm]
def zma:OpR X (binaryOp .Mult) rRep:=by
 intro O s Y H x y v u Q I rx ry h;obtain⟨l,k,xs,rfl,rfl,hH,h1,h2,hz,q⟩:=h;cases rx;obtain⟨t,rfl⟩:=ry;obtain⟨z,its,n,r,hl,e⟩:=I.lstM hH;have hlen:its.toArray.size*k.toNat<=sizeLine:=by rw[YAu,<-hl];exact hz
 have hcap:¬ its.toArray.size*k.toNat>(2^63-1) / 8:=by
  have:(sizeLine:Nat)<=(2^63-1) / 8:=by decide
  omega
 have hfit:¬ (!Builtin.List.listFitsIndex k)=true:=by
  rw[fitsIndex_both h1 h2];exact YAA
 have hlong:¬ Builtin.List.listTooLong (its.toArray.size*k.toNat)=true:=by
  rw[zoD hlen];exact YAA
 have hnew:List.foldl (λx1 x2=>x1++x2) #[] (List.replicate (if its.toArray.isEmpty=true then 0 else k.toNat) its.toArray)=(List.replicate k.toNat its).flatten.toArray:=by
  have f0:∀m:Nat,List.foldl (λx1 x2=>x1++x2) #[] (List.replicate m its.toArray)=(List.replicate m its).flatten.toArray:=λm=>by
   have:=ziM its m []
   rw[YBs]at this;exact this
  rw[f0];cases its with
  |nil=>simp
  |cons a r'=>rw[if_neg (by simp)]
 refine wpAny_binaryOp_repeat_ref (T:="list") (U:="int") (by decide) ⟨_,e,rfl⟩ (λs'=>typeIs_int s' k t) noFill_list_mul F.fills_int_mul F.slot_int_rmul repeat_list F.slot_int_index.lookup
  (call_meets F.slot_int_rmul (typeIs_int s k t) F.entry_int_rmul (F.args_int_rmul_2 _ _) (int___rmul___int_list k t l its.toArray n)
   ⟨e,rfl,⟨_,e,rfl⟩,call_meets F.slot_list_mul ⟨_,e,rfl⟩ F.entry_list_mul (F.args_list_mul_2 _ _) (AutoListH.list___mul___list_int_3 l its.toArray n k t hfit hcap hlong) ⟨e,?_⟩⟩)
 rw[hnew];exact⟨.ref _,_,I.lnew (t':=s.toks) (r.rep k.toNat) (by rw[zpP,Nat.mul_comm];exact hz),rfl,q _ I.fresh⟩
end
end L2
namespace Att
open PySem PySem.W PySem.Calls PyProof.Rows
def zfE{P:Params}{h:Heap}:∀(ns:List Int)(vs:List Value),WellAll P h vs (ns.map WData.int)->IntsAre vs ns:=by
 intro ns
 induction ns with
 |nil=>
  intro vs w;rw[YDX]at w;cases w;exact .nil
 |cons n ns ih=>
  intro vs w;rw[YAb]at w;cases w with
  |cons a b=>
   cases a;exact .cons _ _ (ih _ b)
def zmv{l:OpenLaw}{n:Nat}(hn:l.most=some n){P:Params}{h:Heap}{args:List WData}{vals:List Value}
  (hpre:l.row.toRowW.claim.pre args=true) (hwl:WellAll P h vals args) :
  ∃a vs ns,vals=[Value.ref a]/\args=[WData.list (ns.map WData.int)]/\h.get? a=some {cls:=.type "list",data:=.seq vs.toArray}/\IntsAre vs ns/\ns.length<=n:=by
 have hsh:WShape.hasAll [] args [.list .int]=true:=(pre_splitW hpre).1;have hc:l.pre.holds [] {args:=args}=true:=(pre_splitW hpre).2;obtain⟨d,r,rfl,h1,h2⟩:=hasAllW_cons hsh;obtain rfl:=hasAllW_nil h2;obtain⟨xs,rfl,h3⟩:=hasW_list h1;obtain⟨ns,rfl⟩:=items_int h3;have hlen:ns.length<=n:=by
  unfold OpenLaw.pre at hc;have h4:(WTm.not (.lt (.lit (.int (n:Int))) (.len (.arg 0)))).holds [] {args:=[.list (ns.map .int)]}=true:=by
   have h4:=(holds_andW hc).1;rw[hn]at h4;exact h4
  have h5:=condW_of h4 (w_not (w_lt w_lit (w_len_list (w_arg rfl))));rw[YAc]at h5;refine YDO λq=>?_;have q':(n:Int)<((ns.length:Nat):Int):=by omega
  first
   | (rw[YAH q']at h5;exact absurd h5 (by decide))
   | (simp at h5;omega)
 cases hwl with
 |cons w1 w2=>
  cases w2;cases w1 with
  |list ho hall=>exact⟨_,_,ns,rfl,rfl,ho,zfE ns _ hall,hlen⟩
def zmb(l:OpenLaw)(args:List WData):l.row.toRowW.claim.post args (.bool true) args=true:=
 postW_of (r:=l.row.toRowW) (X:=(true==true))
  (show WShape.has [] (.bool true) .bool=true by first|rfl|decide|simp[WShape.has,WShape.arms,WShape.armsAll])
  (show(WTm.eq .res (.lit (.bool true))).value [] {args:=args,res:=some (.bool true),after:=args}=some (.bool (true==true))from w_eq_bool (w_res rfl) w_lit) rfl
def attach_call{l:OpenLaw}{n:Nat}{q:Program}{loose:List Str}{XP:(Str->Option Value)->Heap->Prop}{YP:World->Heap->Prop}{d:DefRec}
  (hn:l.most=some n) (hdf:d.params.defaults=[])
  (call:∀(w:World)(s₀ s₁:Shared)(mg mb:Str->Option Value)(fa:Addr)(o:Obj)(pm cd doc:Value)(a:Addr)(vs:List Value)(ns:List Int),
   Ground q loose [] XP w s₀ mg mb s₁.heap->YP w s₁.heap ->
   s₁.heap.get? fa=some o->o.data=.func (docDef d.name d.params d.body d.scope pm cd doc)->s₁.heap.CodeRec cd d.name->mg d.name=some (.ref fa) ->
   s₁.heap.get? a=some {cls:=.type "list",data:=.seq vs.toArray}->IntsAre vs ns->ns.length<=n->s₁.gens=#[] ->
   codeAny (model l.prog w) callerA (.call (.ref fa) ⟨[.ref a],[]⟩) (λr s'=>r=.ok (.ret (.bool true))/\OldK s₁.heap s'.heap/\s'.os=s₁.os/\AllBare s'.gens) s₁) :
  WalkO q loose XP YP l.row.toRowW d [] (λf vs=>PySem.call f vs):=by
 intro w s₀ s₁ mg mb G qe fa o pm cd doc dV kV ho hd hcd hD hmg hg args vals as hpre hlay hrd hwl hlo;obtain rfl:dV=.none:=Dflts.none hD hdf;obtain rfl:kV=.none:=Dflts.noKw hD;obtain⟨a,vs,ns,rfl,rfl,hobj,hints,hlen⟩:=zmv hn hpre hwl;refine enter_call (YDl (call w s₀ s₁ mg mb fa o pm cd doc a vs ns G qe ho (fd_plain hd) hcd hmg hobj hints hlen hg) λr s' hq=>?_);obtain⟨rfl,h2,h3,h4⟩:=hq;exact⟨.inl ⟨.bool true,.bool true,[],rfl,λ_=>rfl,.bool true,zmb l _,λ_=>⟨List.Pairwise.nil,λ_ hm=>(nomatch hm)⟩⟩,h2,h3,h4⟩
end Att
namespace L2
open PySem PySem.Spec PyProof.Rows
theorem zh2:∀{vs:List Value}{ns:List Int},IntsAre vs ns->Vals (ns.map V.int) vs
 |_,_,.nil=>.nil
 |_,_,.cons n t h=>.cons ⟨t,rfl⟩ (zh2 h)
def Only(H:Hp):Prop:=∀b,H b=none\/∃o xs,H b=some (.frz o (.lst xs))
def zon{P:Program}{w:World}{K:qg}{mg mb:Str->Option Value}{CX:CXT}{k:Nat}{fa a:Addr}{fd:FuncData}{x:Str}{sp:Sp}{s₁:Shared}{vs:List Value}{ns:List Int}
  (KX:K.In s₁.heap) (hns:s₁.heap.Ns mainGlobals mg) (hb:s₁.heap.Ns builtinsNs mb) (hbb:∀x:Str,x≠"__name__" -> mb x=bootBuiltins x) (hlim:s₁.heap.NoLimit) (hg:s₁.gens=#[])
  (ha:s₁.heap.get? a=some {cls:=.type "list",data:=.seq vs.toArray}) (hi:IntsAre vs ns) (hl:ns.length<=sizeLine) (hr:Room k callerA)
  (F:∀base:Heap,K.In base->base.Ns mainGlobals mg->FnOk P w K mg base CX k fa fd [x] sp) (hbind:∀(s:Shared)(u:Value),BindsTo s fd ⟨[u],[]⟩ [(x,u)])
  (hsp:∀H:Hp,Only H->SqL K H a (ns.map V.int)->sp [.ref a] H (λv _=>v=.bl true) λ_ _ _=>False)
  (hCX:∀H e s',CX [] H s₁ (λ_ _ _=>False) e s'->False) :
  codeAny (model P w) callerA (.call (.ref fa) ⟨[.ref a],[]⟩) (λr s'=>r=.ok (.ret (.bool true))/\OldK s₁.heap s'.heap/\s'.os=s₁.os/\AllBare s'.gens) s₁:=by
 have rv:=zh2 hi;have lenV:=hi.length
 -- from an abstract heap in which nothing but the script may be tracked
 have core:∀H:Hp,Only H->SqL K H a (ns.map V.int)->HOk P w H s₁.heap->(∀b,H b≠none->b=a)->(H a≠none->K.lookup a=none) ->
   codeAny (model P w) callerA (.call (.ref fa) ⟨[.ref a],[]⟩) (λr s'=>r=.ok (.ret (.bool true))/\OldK s₁.heap s'.heap/\s'.os=s₁.os/\AllBare s'.gens) s₁:=by
  intro H hO hS hok hA hK;have base_of:∀{b:Addr}{o:Obj},s₁.heap.get? b=some o->H b=none->(hidT s₁.heap H).get? b=some o:=λe n=>znJ e n;have noA:∀{b:Addr}{o:Obj}{es:Array DictEntry}{ep:Nat},s₁.heap.get? b=some o->o.data=.dict es ep->H b=none:=λ{b o es ep} e d=>by
   cases q:H b with
   |none=>rfl
   |some u=>
    have e':b=a:=hA b (by rw[q];simp);subst e';rw[ha]at e;cases e;have d':Data.seq vs.toArray _=Data.dict es ep:=d;cases d'
  have nsK:∀{b:Addr}{m:Str->Option Value},s₁.heap.Ns b m->(hidT s₁.heap H).Ns b m:=λ{b m} ⟨o,es,ep,e,d,r⟩=>⟨o,es,ep,base_of e (noA e d),d,r⟩;have hKb:K.In (hidT s₁.heap H):=λb o e=>base_of (KX b o e) (by
   cases q:H b with
   |none=>rfl
   |some u=>
    have e':b=a:=hA b (by rw[q];simp);subst e';rw[hK (by rw[q];simp)]at e;cases e)
  have hM:Mod K mg (hidT s₁.heap H):=⟨hKb,nsK hns,⟨mb,nsK hb,hbb⟩,let⟨mc,h1,h2⟩:=hlim;⟨mc,nsK h1,h2⟩⟩;have e0:Env0 P w K mg (hidT s₁.heap H) callerA [] s₁ H:=⟨rfl,hM,λb o e=>zpg e,Nat.le_of_eq (zmt _ _),trivial,λb hb=>absurd (show b∈([]:List Addr)from hb) (by simp),hok,.of_eq hg⟩;refine YDl ((F _ hKb (nsK hns)).run callerA [] s₁ H ⟨[.ref a],[]⟩ [.ref a] [.ref a] _ _ hr e0 (hbind s₁ (.ref a)) (.cons rfl .nil) (hsp H hO hS)) λr s' h=>?_;cases r with
  |error e=>exact(hCX H e s' h).elim
  |ok fl=>
   cases fl with
   |next=>exact False.elim h
   |brk=>exact False.elim h
   |cont=>exact False.elim h
   |ret u=>
    obtain⟨v,H',os,bare,un,hok',r',q⟩:=h;have q':v=.bl true:=q;subst q';obtain rfl:u=Value.bool true:=r';refine⟨rfl,OldK.of_keep λb o e=>?_,os,bare⟩;cases q:H b with
    |none=>exact un.keep b o e q (by intro z;exact absurd (show b∈([]:List Addr)from z) (by simp)) (by simp)
    |some u=>
     rcases hO b with z|⟨ob,xs,z⟩
     .rw[q]at z;cases z
     .have z2:=un.frzs b ob _ z;obtain⟨e1,_⟩:=hok b _ z;obtain⟨e2,_⟩:=hok' b _ z2;rw[e]at e1;cases e1;exact e2
 cases hk:K.lookup a with
 |some o=>
  -- the script is one of the module's own objects
  have e:=KX a o hk;rw[ha]at e;cases e;refine core (λ_=>none) (λ_=>.inl rfl) (.inr ⟨_,vs.toArray,_,hk,rfl,rfl,rfl,by rw[YAu,lenV];exact hl,by simpa using rv⟩) (λb u z=>by have z':(none:Option HO)=some u:=z;cases z') (λb z=>absurd rfl z) λz=>absurd rfl z
 |none=>
  refine core (λb=>if b=a then some (.frz {cls:=.type "list",data:=.seq vs.toArray} (.lst (ns.map V.int)))else none) (λb=>?_) (.inl (.inr ⟨{cls:=.type "list",data:=.seq vs.toArray},if_pos rfl⟩)) (λb u z=>?_) (λb z=>?_) λ_=>hk
  .by_cases hb:b=a
   .exact .inr ⟨_,_,if_pos hb⟩
   .exact .inl (if_neg hb)
  .by_cases hb:b=a
   .have z':=(if_pos hb).symm.trans z;cases z';subst hb;exact⟨ha,by rw[YAc];exact hl,vs,_,rv,ha⟩
   .have z':=(if_neg hb).symm.trans z;cases z'
  .by_cases hb:b=a
   .exact hb
   .exact absurd (if_neg hb) z
def zp0{l:PySem.W.OpenLaw}{n k:Nat}{q:Program}{loose:List Str}{XP:(Str->Option Value)->Heap->Prop}{YP:World->Heap->Prop}{d:DefRec}{K:Params->qg}{CX:World->CXT}{sp:World->Sp}{x:Str}
  (hn:l.most=some n) (hn2:n<=sizeLine) (hdf:d.params.defaults=[]) (hr:Room k callerA)
  (hY:∀(w:World)(h:Heap),YP w h->(K w.params).In h)
  (F:∀(w:World)(mg:Str->Option Value)(fa:Addr)(h:Heap),(K w.params).In h->h.Ns mainGlobals mg->mg d.name=some (.ref fa) ->
   ∃fd:FuncData,(∀(s:Shared)(u:Value),BindsTo s fd ⟨[u],[]⟩ [(x,u)]) /\
    ∀base:Heap,(K w.params).In base->base.Ns mainGlobals mg->FnOk l.prog w (K w.params) mg base (CX w) k fa fd [x] (sp w))
  (hsp:∀(w:World)(H:Hp)(a:Addr)(ns:List Int),ns.length<=n->Only H->SqL (K w.params) H a (ns.map V.int)->sp w [.ref a] H (λv _=>v=.bl true) λ_ _ _=>False)
  (hCX:∀(w:World)(H:Hp)(s:Shared)(e:Value)(s':Shared),CX w [] H s (λ_ _ _=>False) e s'->False) :
  PySem.W.WalkO q loose XP YP l.row.toRowW d [] (λf vs=>PySem.call f vs):=by
 refine Att.attach_call hn hdf λw s₀ s₁ mg mb fa o pm cd doc a vs ns G qe ho hd hcd hmg hobj hints hlen hg=>?_;have KX:=hY w _ qe;obtain⟨fd,hb,hF⟩:=F w mg fa _ KX G.T.g hmg;exact zon KX G.T.g G.T.b G.T.builtins G.T.nolimit hg hobj hints (YAU hlen hn2) hr hF hb (λH hO hS=>hsp w H a ns hlen hO hS) λH e s'=>hCX w H s₁ e s'
def zc5(s:Stmt):Arguments:=match s with
 |.FunctionDef _ a _ _ _ _ _ _ _ _=>a
 |_=>{posonlyargs:=[],args:=[],vararg:=none,kwonlyargs:=[],kw_defaults:=[],kwarg:=none,defaults:=[]}
def zb6(s:Stmt):List Stmt:=match s with
 |.FunctionDef _ _ b _ _ _ _ _ _ _=>b
 |_=>[]
def zat(s:Stmt):Scope:=match s with
 |.FunctionDef _ _ _ _ _ _ sc _ _ _=>sc
 |_=>{kind:=.function,names:=[],isGenerator:=false,isCoroutine:=false}
abbrev CX0:CXT:=λ_ _ _ _ _ _=>False
abbrev E0:XK:=λ_ _ _=>False
def zot:zne CX0 X E0:=λ_ _ _ _ _ _ _ h=>h.elim
structure Fun(K:qg)(x qual:Str)(st:Stmt)(f:Addr)(fd:FuncData):Prop where
 ex:∃(oc:Value)(od:Option Addr)(kV doc pm:Value)(an:Option Addr)(cdv ct:Value)(osl:Array (Option Value)),
  fd=PySem.W.fnOf x qual (zc5 st) (zb6 st) (zat st) .none kV doc pm an cdv ct/\K.lookup f=some ⟨oc,od,.func fd,osl⟩/\PySem.W.codeIn K cdv qual=true
 kp:PySem.W.keepIn K (.ref f)=true
section
variable{P:Program}{w:World}{K:qg}{mg:Str->Option Value}{base:Heap}
def Fun.ok{x qual:Str}{st:Stmt}{f:Addr}{fd:FuncData}{N ps:List Str}{k:Nat}{sp:Sp}(F:Fun K x qual st f fd)(S:FnScope N ps (zat st))(len:∀vs H Q E,sp vs H Q E->vs.length=ps.length)
  (hbody:∀(cdv:Value)(A:Around)(outer:List Env)(s:Shared)(H:Hp)(vs:List V)(Q:VK)(E:XK),Room k (A.deeper (envOfC qual (zat st) s.heap.objs.size f cdv))->sp vs H Q E ->
   ∃t,PSs (cxOf CX0 P w K mg base N qual (zat st) f cdv A outer s H E).nox (zb6 st) t/\t {nx:=λ_ H'=>Q .non H',rt:=Q} (start N vs) H):FnOk P w K mg base CX0 (k+1) f fd ps sp:=by
 obtain⟨oc,od,kV,doc,pm,an,cdv,ct,osl,rfl,lk,hcd⟩:=F.ex;refine zrR lk hcd S len λA outer s H vs Q E hr hsp=>?_;obtain⟨t,h,q⟩:=hbody cdv A outer s H vs Q E hr hsp;exact⟨t,h.nox,q⟩
def Fun.binds{x qual:Str}{st:Stmt}{f:Addr}{fd:FuncData}{ps:List Str}(F:Fun K x qual st f fd)
  (h:∀(kV doc pm:Value)(an:Option Addr)(cdv ct:Value)(us:List Value),us.length=ps.length->bindArgs (PySem.W.fnOf x qual (zc5 st) (zb6 st) (zat st) .none kV doc pm an cdv ct) ⟨us,[]⟩=pure (ps.zip us)):Binds K fd ps []:=by
 obtain⟨oc,od,kV,doc,pm,an,cdv,ct,osl,rfl,lk,hcd⟩:=F.ex;exact .all (h kV doc pm an cdv ct)
def zqT{x qual:Str}{st:Stmt}{f:Addr}{oc:Value}{od an:Option Addr}{osl:Array (Option Value)}{kV doc pm cdv ct:Value}(l:K.lookup f=some ⟨oc,od,.func (PySem.W.fnOf x qual (zc5 st) (zb6 st) (zat st) .none kV doc pm an cdv ct),osl⟩)
  (c:PySem.W.codeIn K cdv qual=true) (k:PySem.W.keepIn K (.ref f)=true):Fun K x qual st f (PySem.W.fnOf x qual (zc5 st) (zb6 st) (zat st) .none kV doc pm an cdv ct):=⟨⟨oc,od,kV,doc,pm,an,cdv,ct,osl,rfl,l,c⟩,k⟩
end
def znx(hr:Room k A):A.units+1<cLine:=Nat.lt_of_le_of_lt (Nat.add_le_add_left (by decide:1<=64) _) hr.units
section
variable{X:Cx}
def pv(i:Nat)(hN:X.N[i]?=some x:=by rfl)(hv:Vis X.env.scope x:=by first|exact Or.inl rfl|exact Or.inr (Or.inl rfl)|exact Or.inr (Or.inr rfl))(hd:(x==("__debug__":Str))=false:=by decide)
  (hcd:(x==("__classdict__":Str))=false:=by decide):PE X (.Name x pos) (tVar i):=zei hN hv hd hcd
end
def iteF{A B:Prop}(h:B):if false=true then A else B:=by
 rw[if_neg YAA];exact h
def iteT{A B:Prop}(h:A):if true=true then A else B:=by
 rw[if_pos rfl];exact h
def ite2{c A B:Prop}[Decidable c](h1:c->A)(h2:¬ c->B):if c then A else B:=by
 by_cases h:c
 .rw[if_pos h];exact h1 h
 .rw[if_neg h];exact h2 h
def zrS{c A B:Prop}[Decidable c](hc:c)(h:B):if (!decide c)=true then A else B:=by
 rw[YAH hc];exact iteF h
def Same(H H':Hp):Prop:=∀b o,H b=some o->H' b=some o
def Same.refl(H:Hp):Same H H:=λ_ _ h=>h
def Same.trans{H H1 H2:Hp}(a:Same H H1)(b:Same H1 H2):Same H H2:=λc o h=>b c o (a c o h)
def Same.free{H H':Hp}(e:Same H H'){l:Addr}(h:H' l=Option.none):H l=Option.none:=by
 cases q:H l with
 |none=>rfl
 |some o=>
  rw[e l o q]at h;cases h
def Same.seq{K:qg}{H H':Hp}{a:Addr}{xs:List V}(e:Same H H')(h:SqL K H a xs):SqL K H' a xs:=by
 rcases h with(h|⟨o,h⟩)|h
 .exact .inl (.inl (e _ _ h))
 .exact .inl (.inr ⟨o,e _ _ h⟩)
 .exact .inr h
section
variable{κ:Type}[DecidableEq κ]
def valV(kvs:List (κ×V))(k:κ):Option V:=(kvs.find? λkv=>decide (kv.1=k)).map (·.2)
def putK(kvs:List (κ×V))(k:κ)(v:V):List (κ×V):=
 if (kvs.any λkv=>decide (kv.1=k))=true then kvs.map (λkv=>if kv.1=k then(kv.1,v)else kv)else kvs++[(k,v)]
def zfh{p:κ×V}{r:List (κ×V)}{k:κ}(e:p.1=k):valV (p::r) k=some p.2:=by simp[valV,YB1,e]
def zfc{p:κ×V}{r:List (κ×V)}{k:κ}(e:¬ p.1=k):valV (p::r) k=valV r k:=by simp[valV,YB1,e]
theorem zdP(k:κ):∀kvs:List (κ×V),(kvs.any λkv=>decide (kv.1=k))=(valV kvs k).isSome
 |[]=>rfl
 |p::r=>by
  rw[YCx];by_cases e:p.1=k
  .simp only[zfh e,YAH e,Bool.true_or,Option.isSome_some]
  .rw[zfc e,YAN e,Bool.false_or];exact zdP k r
def zdG(kvs:List (κ×V))(k:κ)(v:V):(putK kvs k v).length<=kvs.length+1:=by
 unfold putK;split
 .rw[YAc];omega
 .rw[YAq,YAS,YDb];omega
def zkv{kvs:List (κ×V)}{k:κ}(v:V)(h:valV kvs k=none):putK kvs k v=kvs++[(k,v)]:=by
 unfold putK;rw[zdP,h];exact if_neg (by decide)
def RelO.isSome_eq(r:RelO o u):o.isSome=u.isSome:=by
 cases o with
 |none=>cases u with
  |none=>rfl
  |some _=>exact(show False from r).elim
 |some _=>cases u with
  |none=>exact(show False from r).elim
  |some _=>rfl
def KV.val{kvs:List (κ×V)}{vs:List (κ×Value)}(r:KV kvs vs)(k:κ):RelO (valV kvs k) (valueAt vs k):=by
 unfold KV at r
 induction r with
 |nil=>exact True.intro
 |@cons p q ps qs h t ih=>
  obtain⟨h1,h2⟩:=h;by_cases e:p.1=k
  .have e':q.1=k:=h1.symm.trans e;have b:valueAt (q::qs) k=some q.2:=by simp[valueAt,YB1,e']
   rw[zfh e,b];exact h2
  .have e':¬ q.1=k:=λz=>e (h1.trans z);have b:valueAt (q::qs) k=valueAt qs k:=by simp[valueAt,YB1,e']
   rw[zfc e,b];exact ih
theorem KV.any(r:KV kvs vs)(k:κ):(kvs.any λkv=>decide (kv.1=k))=vs.any λkv=>decide (kv.1=k):=by
 unfold KV at r
 induction r with
 |nil=>rfl
 |cons h t ih=>rw[YCx,YCx,ih,h.1]
def KV.repl(r:KV kvs vs)(k:κ)(ry:RelV y u) :
  KV (kvs.map λkv=>if kv.1=k then(kv.1,y)else kv) (vs.map λkv=>if kv.1=k then(kv.1,u)else kv):=by
 unfold KV at r ⊢
 induction r with
 |nil=>exact .nil
 |@cons p q ps qs h t ih=>
  rw[YAb,YAb];refine .cons ?_ ih;obtain⟨h1,h2⟩:=h;by_cases e:p.1=k
  .rw[if_pos e,if_pos (h1.symm.trans e)];exact⟨h1,ry⟩
  .rw[if_neg e,if_neg (λz=>e (h1.trans z))];exact⟨h1,h2⟩
def KV.put(r:KV kvs vs)(k:κ)(ry:RelV y u):KV (putK kvs k y) (stored vs k u):=by
 unfold putK stored;rw[r.any k];by_cases e:(vs.any λkv=>decide (kv.1=k))=true
 .rw[if_pos e,if_pos e];exact r.repl k ry
 .rw[if_neg e,if_neg e];exact Paired.snoc r ⟨rfl,ry⟩
theorem KV.length(r:KV kvs vs):kvs.length=vs.length:=Paired.length r
end
def zmJ(r:RelV (kV k) u):(zaF P w).is k u=true:=by
 cases k with
 |inl i=>obtain⟨t,e⟩:=(show ∃t,u=Value.int i t from r);subst e;exact zjn P w i t
 |inr x=>obtain⟨t,e⟩:=(show ∃t,u=Value.str x t from r);subst e;exact zjy P w x t
theorem ziZ :∀{ks:List Key}{us:List Value},Vals (ks.map kV) us->ItemsAre (zaF P w) ks us
 |[],_,r=>by rw[YDX]at r;cases r;exact .nil
 |k::ks,_,r=>by
  rw[YAb]at r;cases r with
  |cons h t=>exact .cons (zmJ h) (ziZ t)
abbrev KT(H:Hp):List (List Key×V)->List (List Key×Addr×Value)->Prop:=Paired λp q=>p.1=q.1/\H q.2.1=some (.tup (p.1.map kV))/\RelV p.2 q.2.2
def KT.val{H:Hp}{kvs:List (List Key×V)}{xs:List (List Key×Addr×Value)}(r:KT H kvs xs)(k:List Key):RelO (valV kvs k) ((atKey xs k).map (·.2)):=by
 induction r with
 |nil=>exact True.intro
 |@cons p q ps qs h t ih=>
  obtain⟨h1,_,h2⟩:=h;by_cases e:p.1=k
  .have e':q.1=k:=h1.symm.trans e;have b:atKey (q::qs) k=some q.2:=by simp[atKey,YB1,e']
   rw[zfh e,b];exact h2
  .have e':¬ q.1=k:=λz=>e (h1.trans z);have b:atKey (q::qs) k=atKey qs k:=by simp[atKey,YB1,e']
   rw[zfc e,b];exact ih
def KT.repl(r:KT H kvs xs)(k:List Key)(ry:RelV y u) :
  KT H (kvs.map λkv=>if kv.1=k then(kv.1,y)else kv) (xs.map (putAt k u)):=by
 induction r with
 |nil=>exact .nil
 |@cons p q ps qs h t ih=>
  rw[YAb,YAb];refine .cons ?_ ih;obtain⟨h1,h2,h3⟩:=h;unfold putAt;by_cases e:p.1=k
  .rw[if_pos e,if_pos (h1.symm.trans e)];exact⟨h1,h2,ry⟩
  .rw[if_neg e,if_neg (λz=>e (h1.trans z))];exact⟨h1,h2,h3⟩
def KT.put(r:KT H kvs xs)(k:List Key)(hb:H b=some (.tup (k.map kV)))(ry:RelV y u) :
  KT H (putK kvs k y) (storedH xs k b u):=by
 have e:(kvs.any λkv=>decide (kv.1=k))=(atKey xs k).isSome:=by
  rw[zdP,(r.val k).isSome_eq,Option.isSome_map]
 unfold putK storedH;rw[e];by_cases q:(atKey xs k).isSome=true
 .rw[if_pos q,if_pos q];exact r.repl k ry
 .rw[if_neg q,if_neg q];exact Paired.snoc r ⟨rfl,hb,ry⟩
def KT.keeps(r:KT H kvs xs)(ht:∀b ys,H b=some (.tup ys)->H' b=some (.tup ys)):KT H' kvs xs:=
 Paired.mapP r λ_ _ z=>⟨z.1,ht _ _ z.2.1,z.2.2⟩
section
variable{P:Program}{w:World}{H:Hp}{h:Heap}{a:Addr}
def zri(ok:HOk P w H h)(e:Rd H a u):ObjOk P w H h a u:=e.ok ok
def zlR(ok:HOk P w H h)(e:Rd H a (.dK kvs)):kvs.length<=sizeLine/\(a==sysModules)=false/\∃vs,KV kvs vs/\h.DictOf (zaF P w) a vs:=
 show ObjOk P w H h a (.dK kvs)from zri ok e
def zkP(ok:HOk P w H h)(e:H a=some (.dK kvs)):kvs.length<=sizeLine/\(a==sysModules)=false/\∃vs,KV kvs vs/\h.DictOf (zaF P w) a vs:=zlR ok (.inl e)
def zkg(ok:HOk P w H h)(e:H a=some (.tup (ks.map kV))):(tupleKind (zaF P w)).is h ks a:=by
 obtain⟨_,its,r,o,h1,h2,n,h3⟩:=(show ObjOk P w H h a (.tup (ks.map kV))from ok a _ e);exact⟨o,its.toArray,n,h1,h2,h3,by simpa using ziZ r⟩
def zl8(ok:HOk P w H h)(e:Rd H a (.dT kvs)):kvs.length<=sizeLine/\(a==sysModules)=false /\
  ∃xs,KT H kvs xs/\h.DictOfH (tupleKind (zaF P w)) a xs:=by
 obtain⟨z,y,xs,r,o,es,ep,h1,h2,h3,h4,h5⟩:=(show ObjOk P w H h a (.dT kvs)from zri ok e);refine⟨z,y,xs,r,o,es,ep,h1,h2,h3,h4,λx hx=>?_,h5⟩;have all:∀{l:List (List Key×V)}{m:List (List Key×Addr×Value)},KT H l m->∀x∈m,(tupleKind (zaF P w)).is h x.1 x.2.1:=by
  intro l m q
  induction q with
  |nil=>intro x hx;exact nomatch hx
  |@cons p q ps qs hq t ih=>
   intro x hx;rcases YAn.mp hx with e|hx
   .subst e;exact zkg ok (by rw[<-hq.1];exact hq.2.1)
   .exact ih x hx
 exact all r x hx
def zrT(ok:HOk P w H h)(e:H a=some (.dT kvs)):kvs.length<=sizeLine/\(a==sysModules)=false /\
  ∃xs,KT H kvs xs/\h.DictOfH (tupleKind (zaF P w)) a xs:=zl8 ok (.inl e)
end
def DGet(H:Hp)(a:Addr)(y:V)(r:Option V):Prop:=
 (∃kvs k,Rd H a (.dK kvs)/\y=kV k/\r=valV kvs k)\/∃kvs k b,Rd H a (.dT kvs)/\y=.ref b/\H b=some (.tup (k.map kV))/\r=valV kvs k
def DPut(H:Hp)(a:Addr)(y v:V)(H':Hp):Prop:=
 (∃kvs k,H a=some (.dK kvs)/\y=kV k/\kvs.length<sizeLine/\H'=upd H a (.dK (putK kvs k v))) \/
 ∃kvs k b,H a=some (.dT kvs)/\y=.ref b/\H b=some (.tup (k.map kV))/\kvs.length<sizeLine/\H'=upd H a (.dT (putK kvs k v))
theorem DGet.k{H:Hp}{a:Addr}{kvs:List (Key×V)}{k:Key}(e:H a=some (.dK kvs)):DGet H a (kV k) (valV kvs k):=.inl ⟨kvs,k,.inl e,rfl,rfl⟩
theorem DPut.k{H:Hp}{a:Addr}{kvs:List (Key×V)}{k:Key}{v:V}(e:H a=some (.dK kvs))(hl:kvs.length<sizeLine):DPut H a (kV k) v (upd H a (.dK (putK kvs k v))):=.inl ⟨kvs,k,e,rfl,hl,rfl⟩
section
variable{X:Cx}{O:List (Addr×Obj)}{Y:St}{H:Hp}{s:Shared}{a:Addr}{y v:V}{u r:Value}{o:Option V}{A:Around}{E:Value->Shared->Prop}
def Inv.big(I:Inv X O Y H s):sysModules<s.heap.objs.size:=by
 have h:mainGlobals<s.heap.objs.size:=(I.mod.glob.keeps I.bk).lt;exact Nat.lt_trans (by decide) h
def zlt(hu:A.units+1<cLine)(I:Inv X O Y H s)(g:DGet H a y (some v))(ry:RelV y u)(h:∀w' s',Inv X O Y H s'->RelV v w'->Q w' s') :
  wpAny (model X.prog X.w) A (getItem (.ref a) u) Q E s:=by
 rcases g with⟨kvs,k,e,ey,l⟩|⟨kvs,k,b,e,ey,eb,l⟩
 .subst ey;obtain⟨z,hd,vs,rel,dd⟩:=zlR I.hok e;obtain⟨w',hw,rw'⟩:=RelO.some_of (v:=v) (o:=valueAt vs k) (by rw[l];exact rel.val k);exact wpAny_getItem_of (zmJ ry) dd.mapOf hw (h w' _ (I.tok _) rw')
 .subst ey;cases (show u=Value.ref b from ry);obtain⟨z,hd,xs,rel,dd⟩:=zl8 I.hok e;obtain⟨w',hw,rw'⟩:=RelO.some_of (v:=v) (o:=(atKey xs k).map (·.2)) (by rw[l];exact rel.val k);obtain⟨p,hp,hp2⟩:=Option.map_eq_some_iff.mp hw;refine wpAny_getItem_heap (YDo hu) (zkg I.hok eb) dd hp ?_;rw[hp2];exact h w' _ (I.tok _) rw'
def zpq(hu:A.units+1<cLine)(I:Inv X O Y H s)(g:DGet H a y o)(ry:RelV y u)(h:∀s',Inv X O Y H s'->Q (.bool (!o.isSome)) s') :
  wpAny (model X.prog X.w) A (compareOp .NotIn u (.ref a)) Q E s:=by
 rcases g with⟨kvs,k,e,ey,l⟩|⟨kvs,k,b,e,ey,eb,l⟩
 .subst ey;obtain⟨z,hd,vs,rel,dd⟩:=zlR I.hok e;refine wpAny_notIn_of (zmJ ry) hd dd.mapOf ?_;rw[<-(rel.val k).isSome_eq,<-l];exact h _ (I.tok _)
 .subst ey;cases (show u=Value.ref b from ry);obtain⟨z,hd,xs,rel,dd⟩:=zl8 I.hok e;refine wpAny_notIn_heap (YDo hu) (zkg I.hok eb) hd dd ?_;have q:=(rel.val k).isSome_eq;rw[Option.isSome_map]at q;rw[<-q,<-l];exact h _ (I.tok _)
def zjq(I:Inv X O Y H s)(mu:Mut (H a))(hs:Heap.SameBut a s.heap h')(he:∃q,h'.get? a=some q)(new:ObjOk X.prog X.w (upd H a ob) h' a ob) :
  Inv X O Y (upd H a ob) {s with heap:=h',toks:=t'}:=
 I.write (x:=a) (e:=a) mu (.inl rfl) (λb q hb z=>(hs.2 b hb).trans z) he new
def zoU(z:kvs.length<=sizeLine)(hd:(a==sysModules)=false)(rel:KV kvs vs)(dd:h'.DictOf (zaF P w) a vs) :
  ObjOk P w H' h' a (.dK kvs):=⟨z,hd,vs,rel,dd⟩
def zl7(hu:A.units+1<cLine)(I:Inv X O Y H s)(g:DPut H a y v H')(ry:RelV y u)(rv:RelV v r)(h:∀s',Inv X O Y H' s'->Q () s') :
  wpAny (model X.prog X.w) A (setItem (.ref a) u r) Q E s:=by
 rcases g with⟨kvs,k,e,ey,l,eH⟩|⟨kvs,k,b,e,ey,eb,l,eH⟩
 .subst ey eH;obtain⟨z,hd,vs,rel,dd⟩:=zkP I.hok e;have hz:vs.length<=sizeLine:=by rw[<-rel.length];exact z
  have hl:(putK kvs k v).length<=sizeLine:=by have:=zdG kvs k v;omega
  refine wpAny_setItem_pairs (hsz:=hz) (zmJ ry) dd λh' dd' hs=>h _ ?_;have he:∃q,h'.get? a=some q:=let⟨q,_,_,hq,_⟩:=dd';⟨q,hq⟩
  exact zjq I (by rw[e];exact True.intro) hs he (zoU hl hd (rel.put k rv) dd')
 .subst ey eH;cases (show u=Value.ref b from ry);obtain⟨z,hd,xs,rel,dd⟩:=zrT I.hok e;have hz:xs.length<=sizeLine:=by rw[<-Paired.length rel];exact z
  have hl:(putK kvs k v).length<=sizeLine:=by have:=zdG kvs k v;omega
  refine wpAny_setItem_heap (hsz:=hz) (YDo hu) (zkg I.hok eb) dd λh' dd' hs=>h _ ?_;obtain⟨q,es,ep,hq,h2,h3,h4,_,h5⟩:=dd';refine zjq I (by rw[e];exact True.intro) hs ⟨q,hq⟩ ⟨hl,hd,_,(rel.put k eb rv).keeps λc ys ec=>?_,q,es,ep,hq,h2,h3,h4,h5⟩;rw[zaf (zr0 ec e (λz=>nomatch z))];exact ec
end
def NoSl(i:Expr):Prop:=∀ov iv,subscripted i false ov iv=operate [ov,iv] (getItem ov iv)
def zpr{prog:Program}{w:World}{A:Around}{E:Value->Shared->Prop}{s:Shared}{env:Env}{value slice:Expr}{pos:Pos}{T id:String}{Q:Value->Shared->Prop}
  (hl:typeLookup (.type T) "__getitem__"=pure (some (.builtin id))) (hs:NoSl slice)
  (h:wpAny (model prog w) A (eval value env) (λo s₁=>wpAny (model prog w) A (eval slice env) (λi s₂=>s₂.TypeIs o T/\wpAny (model prog w) A (getItem o i) Q E s₂) E s₁) E s) :
  wpAny (model prog w) A (eval (.Subscript value slice pos) env) Q E s:=by
 refine Subscript_ (YA2 h (λo s₁ h₁=>YA2 h₁ (λi s₂ h₂=>?_) λ_ _ x=>x) λ_ _ x=>x);obtain⟨hT,h₂⟩:=h₂;unfold subscriptTail;refine YAa ?_;rw[getitemInPython_of_ne hT.not_modules];refine YAa (YDc hT hl ?_);have fin:wpAny (model prog w) A (subscripted slice false o i) (λr s₃=>wpAny (model prog w) A (letTemporaryGo value o r >>=λ_=>pure r) Q E s₃) E s₂:=by
  rw[hs o i];exact wpAny_operating (YA2 h₂ (λr s₃ h₃=>YAa (wpAny_letTemporaryGo (YAf h₃))) λ_ _ x=>x)
 first
  |exact YAf (YAa fin)
  |exact YAa (YAf (YAa fin))
  |exact YAa fin
def zjw(I:Inv X O Y H s)(g:DGet H a y o):s.TypeIs (.ref a) "dict":=by
 rcases g with⟨kvs,k,e,_,_⟩|⟨kvs,k,b,e,_,_,_⟩
 .obtain⟨_,_,vs,_,dd⟩:=zlR I.hok e;exact dd.typeIs
 .obtain⟨_,_,xs,_,dd⟩:=zl8 I.hok e;exact dd.typeIs
def zsI(td ty:TE):TE:=λY H Q=>td Y H λx H1=>ty Y H1 λy H2=>∃a v,x=.ref a/\DGet H2 a y (some v)/\Q v H2
def zpb(ty td:TE):TE:=λY H Q=>ty Y H λy H1=>td Y H1 λx H2=>∃a o,x=.ref a/\DGet H2 a y o/\Q (.bl (!o.isSome)) H2
def zr6(td ty tv:TE):TS:=λD Y H=>tv Y H λv H1=>td Y H1 λx H2=>ty Y H2 λy H3=>∃a H4,x=.ref a/\DPut H3 a y v H4/\D.nx Y H4
section
variable{X:Cx}{o i e value:Expr}{pos pos' tpos:Pos}{td ty tv:TE}
def zhL(hu:X.A.units+1<cLine)(ho:PE X o td)(hi:PE X i ty)(hs:NoSl i):PE X (.Subscript o i pos) (zsI td ty):=by
 intro O s Y H Q I h;refine zpr PySem.F.slot_dict_getitem.lookup hs (thn (ho O s Y H _ I h) λu s1 ⟨x,H1,I1,rx,q1⟩=>thn (hi O s1 Y H1 _ I1 q1) λiv s2 ⟨y,H2,I2,ry,a,v,ex,g,q2⟩=>?_);subst ex;obtain rfl:u=Value.ref a:=rx;exact⟨zjw I2 g,zlt hu I2 g ry λw' s3 I3 rw'=>⟨v,H2,I3,rw',q2⟩⟩
def zfu(hu:X.A.units+1<cLine)(hi:PE X i ty)(ho:PE X o td):PC X .NotIn i o (zpb ty td):=by
 intro O s Y H Q I h;refine thn (hi O s Y H _ I h) λiv s1 ⟨y,H1,I1,ry,q1⟩=>thn (ho O s1 Y H1 _ I1 q1) λu s2 ⟨x,H2,I2,rx,a,ov,ex,g,q2⟩=>?_;subst ex;obtain rfl:u=Value.ref a:=rx;exact zpq hu I2 g ry λs3 I3=>⟨.bl (!ov.isSome),H2,I3,rfl,q2⟩
def zpB(hu:X.A.units+1<cLine)(ho:PE X o td)(hi:PE X i ty)(hv:PE X value tv)(hs:swapsWith value (some (.Subscript o i pos')) pos.line X.env=pure false) :
  PS X (.Assign [.Subscript o i pos'] value pos) (zr6 td ty tv):=by
 intro O s Y H D I h;refine wpAny_Assign_Subscript (thn (hv O s Y H _ I h) λr s1 ⟨v,H1,I1,rv,q1⟩=>thn (ho O s1 Y H1 _ I1 q1) λu s2 ⟨x,H2,I2,rx,q2⟩=>thn (hi O s2 Y H2 _ I2 q2) λiv s3 ⟨y,H3,I3,ry,a,H4,ex,g,q3⟩=>?_) hs;subst ex;obtain rfl:u=Value.ref a:=rx;exact zl7 hu I3 g ry rv λs4 I4=>⟨Y,H4,I4,q3⟩
end
def zjW(h:Heap)(hb:sysModules<h.objs.size):ObjOk P w H (h.push {cls:=.type "dict",data:=.dict #[]}) h.objs.size (.dK []):=
 ⟨YAC _,YC7.mpr (Ne.symm (YAv hb)),[],.nil,Heap.DictOf.new h⟩
def zrt:TE:=λ_ H Q=>∀p,H p=none->Q (.ref p) (upd H p (.dK []))
section
variable{X:Cx}{pos:Pos}
def zkD:PE X (.Dict [] [] pos) zrt:=λO s Y H Q I h=>
 wpAny_Dict_empty ⟨.ref s.heap.objs.size,_,I.laid (a:=s.heap.objs.size) (o:=.dK []) (t':=s.toks) (λ_ _ q=>YAd _ q) (YAj _) (zjW s.heap I.big),rfl,h _ (I.hok.fresh (YAj _))⟩
end
def zlT:List (TE×TE)->St->Hp->(List (V×V)->Hp->Prop)->Prop
 |[],_,H,Q=>Q [] H
 | (tk,tv)::r,Y,H,Q=>tk Y H λx H1=>tv Y H1 λy H2=>zlT r Y H2 λps H3=>Q ((x,y)::ps) H3
abbrev VV:List (V×V)->List (Value×Value)->Prop:=Paired λp q=>RelV p.1 q.1/\RelV p.2 q.2
noncomputable def PPs(X:Cx)(pos:Pos)(keys:List (Option Expr))(values:List Expr)(trs:List (TE×TE)):Prop:=
 ∀(O:List (Addr×Obj))(s:Shared)(Y:St)(H:Hp)(Q:List (V×V)->Hp->Prop),Inv X O Y H s->zlT trs Y H Q ->
  wpAny (model X.prog X.w) X.A (evalPairs (pairTrees keys values X.env pos)) (λvs s'=>∃ps H',Inv X O Y H' s'/\VV ps vs/\Q ps H') X.xe s
def zqd:PPs X pos [] [] []:=λO s Y H Q I h=>pairTrees_nil_walk ⟨[],H,I,.nil,h⟩
def zn1(hk:PE X k tk)(hv:PE X v tv)(hr:PPs X pos ks vs trs) :
  PPs X pos (some k::ks) (v::vs) ((tk,tv)::trs):=λO s Y H Q I h=>
 pairTrees_cons_walk (thn (hk O s Y H _ I h) λu s1 ⟨x,H1,I1,rx,q1⟩=>thn (hv O s1 Y H1 _ I1 q1) λw2 s2 ⟨y,H2,I2,ry,q2⟩=>
  thn (hr O s2 Y H2 _ I2 q2) λws s3 ⟨ps,H3,I3,rel,q3⟩=>⟨(x,y)::ps,H3,I3,.cons ⟨rx,ry⟩ rel,q3⟩)
def mergeK(kvs more:List (Key×V)):List (Key×V):=more.foldl (λacc kv=>putK acc kv.1 kv.2) kvs
def KV.merge:∀{more:List (Key×V)}{rs:List (Key×Value)}{kvs:List (Key×V)}{vs:List (Key×Value)},KV more rs->KV kvs vs->KV (mergeK kvs more) (merged vs rs):=by
 intro more rs kvs vs r;unfold KV at r
 induction r generalizing kvs vs with
 |nil=>intro q;exact q
 |@cons p q ps qs h t ih=>
  intro r0;have e:KV (putK kvs p.1 p.2) (stored vs q.1 q.2):=by
   have:=r0.put p.1 h.2
   rw[<-h.1];exact this
  exact ih e
theorem zcE:∀(more kvs:List (Key×V)),(mergeK kvs more).length<=kvs.length+more.length
 |[],kvs=>by show kvs.length<=kvs.length+0;omega
 |p::r,kvs=>by
  have h1:=zcE r (putK kvs p.1 p.2);have h2:=zdG kvs p.1 p.2;show(mergeK (putK kvs p.1 p.2) r).length<=_;rw[YAS];omega
theorem zgF :∀{kvs:List (Key×V)}{ws:List (Value×Value)},VV (kvs.map λkv=>(kV kv.1,kv.2)) ws->∃rs,Carries (zaF P w) ws rs/\KV kvs rs
 |[],_,r=>by rw[YDX]at r;cases r;exact⟨[],True.intro,.nil⟩
 |p::kvs,_,r=>by
  rw[YAb]at r;cases r with
  |@cons a b as bs h t=>
   obtain⟨rs,c,q⟩:=zgF (P:=P) (w:=w) t;obtain⟨b1,b2⟩:=b;exact⟨(p.1,b2)::rs,⟨zmJ h.1,rfl,c⟩,.cons ⟨rfl,h.2⟩ q⟩
def zr4(trs:List (TE×TE)):TE:=λY H Q=>∀p,H p=none->zlT trs Y (upd H p (.dK [])) λps H2=>H2 p=some (.dK [])/\∃kvs:List (Key×V),ps=kvs.map (λkv=>(kV kv.1,kv.2))/\kvs.length<=15/\Q (.ref p) (upd H2 p (.dK (mergeK [] kvs)))
def zpc(h:PPs X pos keys values trs)(hall:keys.all (·.isSome)=true)(hl:keys.length=values.length)(h0:keys≠[])
  (h15:keys.length<=15):PE X (.Dict keys values pos) (zr4 trs):=by
 intro O s Y H Q I q;have hn:=I.hok.fresh (YAj s.heap.objs.size);have I1:=I.laid (a:=s.heap.objs.size) (o:=.dK []) (h':=s.heap.push {cls:=.type "dict",data:=.dict #[]}) (t':=s.toks) (λ_ _ q=>YAd _ q) (YAj _) (zjW s.heap I.big);refine wpAny_Dict_walk (knd:=zaF X.prog X.w) hall hl h0 h15 (thn (h O _ Y _ _ I1 (q _ hn)) λws s2 ⟨ps,H2,I2,rel,e,kvs,ep,lk,q2⟩=>?_);subst ep;obtain⟨rs,c,rk⟩:=zgF (P:=X.prog) (w:=X.w) rel;obtain⟨z,hd,vs0,r0,dd⟩:=zkP I2.hok e;cases r0;refine⟨rs,c,dd,λh' dd' hs=>⟨.ref s.heap.objs.size,_,?_,rfl,q2⟩⟩;have hz:(mergeK [] kvs).length<=sizeLine:=by
  have h1:=zcE kvs [];rw[YDb]at h1;rw[YAO];omega
 have he:∃q,h'.get? s.heap.objs.size=some q:=let⟨q,_,_,hq,_⟩:=dd';⟨q,hq⟩
 exact zjq I2 (by rw[e];exact True.intro) hs he (zoU hz hd (rk.merge .nil) dd')
structure M1(X:Cx)(o:Expr)(m:Str)(apos:Pos)(e:Expr)(cpos:Pos):Prop where
 base:attributeBase o m X.env (eval o X.env)=eval o X.env
 few:((backTo cpos (starEach [e] X.env)).all (λx=>!x.1)&&(backToKw cpos (keywordEach [] X.env)).all (λx=>x.1.isSome)
  && decide (([e]:List Expr).length+([]:List Keyword).length+(if ([]:List Keyword).isEmpty then 0 else 1)<30))=true
 line:(apos.endLine==cpos.line)=true
 trees:backTo cpos (starEach [e] X.env)=[(false,eval e X.env)]
def IsD(H:Hp)(a:Addr):Prop:=(∃kvs,Rd H a (.dK kvs))\/∃kvs,Rd H a (.dT kvs)
def zrP(I:Inv X O Y H s)(d:IsD H a) :
  s.TypeIs (.ref a) "dict" /\ (∀b,Value.ref a=.ref b->∃ob,s.heap.get? b=some ob/\ob.dict=none)/\(a==sysModules)=false:=by
 rcases d with⟨kvs,e⟩|⟨kvs,e⟩
 .obtain⟨_,hd,vs,_,dd⟩:=zlR I.hok e;refine⟨dd.typeIs,λb q=>?_,hd⟩;cases q;obtain⟨ob,_,_,h1,h2,_⟩:=dd;exact⟨ob,h1,h2.2.1⟩
 .obtain⟨_,hd,xs,_,dd⟩:=zl8 I.hok e;refine⟨dd.typeIs,λb q=>?_,hd⟩;cases q;obtain⟨ob,_,_,h1,h2,_⟩:=dd;exact⟨ob,h1,h2.2.1⟩
section
variable{κ:Type}[DecidableEq κ]
def zoC{kvs:List (κ×V)}{k:κ}(h:valV kvs k=none):¬ k∈kvs.map (·.1):=by
 intro m;obtain⟨p,hp,e⟩:=YAF.mp m;have q:(kvs.any λkv=>decide (kv.1=k))=true:=List.any_eq_true.mpr ⟨p,hp,YAH e⟩;rw[zdP,h]at q;exact absurd q (by simp)
def zmS{kvs:List (κ×V)}{k:κ}{v:V}(h:valV kvs k=some v):k∈kvs.map (·.1):=by
 have q:(kvs.any λkv=>decide (kv.1=k))=true:=by
  rw[zdP,h]
  all_goals rfl
 obtain⟨p,hp,e⟩:=List.any_eq_true.mp q;exact YAF.mpr ⟨p,hp,YA7 e⟩
theorem zgX:∀{l:List κ}{k:κ},l.Nodup->¬ k∈l->(l++[k]).Nodup
 |[],k,_,_=>by simp
 |a::r,k,h,hk=>by
  obtain⟨h1,h2⟩:=YBl.mp h;show(a::(r++[k])).Nodup;refine YBl.mpr ⟨λm=>?_,zgX h2 λm=>hk (YAn.mpr (Or.inr m))⟩;rcases YAk.mp m with q|q
  .exact h1 q
  .exact hk (YAn.mpr (Or.inl (YAg.mp q).symm))
end
end L2
set_option maxHeartbeats 4000000
namespace L2
open PySem PySem.Spec PyProof.Rows
def zqJ(Y:St):Option Nat->Option V
 |none=>none
 |some j=>(Y[j]?).join
def zbe(sub:List (Option Nat))(Y:St):St:=sub.map (zqJ Y)
def zdU(sub:List (Option Nat))(Y:St):(zbe sub Y).length=sub.length:=by unfold zbe;simp
def zc4{sub:List (Option Nat)}{Y:St}{i:Nat}{v:V}(h:(zbe sub Y)[i]?=some (some v)):∃j,sub[i]?=some (some j)/\Y[j]?=some (some v):=by
 unfold zbe at h;rw[YAo]at h;cases e:sub[i]? with
 |none=>rw[e]at h;cases h
 |some o=>
  rw[e]at h;have h':zqJ Y o=some v:=Option.some.inj h;cases o with
  |none=>cases h'
  |some j=>
   refine⟨j,rfl,?_⟩;have h2:(Y[j]?).join=some v:=h';cases e2:Y[j]? with
   |none=>rw[e2]at h2;cases h2
   |some w=>rw[e2]at h2;exact congrArg some h2
noncomputable def zgU(N:List Str)(osc sc:Scope)(Nc:List Str)(sub:List (Option Nat)):Bool:=
 decide (sc.kind=.function)&&sc.names.all (λy=>decide (y.2≠.cell))&&sc.names.all (λy=>!decide (y.2=.local) || decide (sc.names.lookup y.1=some .local))&&decide (sub.length=Nc.length) &&
 (Nc.zip sub).all (λp=>match p.2 with|none=>true|some j=>decide (N[j]?=some p.1)&&decide (sc.names.lookup p.1=some .free)) &&
 sc.names.all (λy=>!decide (y.2=.free) || (decide (osc.names.lookup y.1=some .cell) || decide (osc.names.lookup y.1=some .free)))
structure CompScope(N:List Str)(osc sc:Scope)(Nc:List Str)(sub:List (Option Nat)):Prop where
 kind:sc.kind=.function
 nocell:∀y∈sc.names,y.2≠.cell
 names:∀y∈sc.names,y.2=.local->sc.names.lookup y.1=some .local
 len:sub.length=Nc.length
 vis:∀(i j:Nat)(x:Str),Nc[i]?=some x->sub[i]?=some (some j)->N[j]?=some x/\sc.names.lookup x=some .free
 frees:∀y∈sc.names,y.2=.free->osc.names.lookup y.1=some .cell\/osc.names.lookup y.1=some .free
def CompScope.of{N:List Str}{osc sc:Scope}{Nc:List Str}{sub:List (Option Nat)}(h:zgU N osc sc Nc sub=true):CompScope N osc sc Nc sub:=by
 unfold zgU at h;simp only[YAJ,YCl,YCy,Bool.or_eq_true,Bool.not_eq_true',decide_eq_false_iff_not]at h;obtain⟨⟨⟨⟨⟨h1,h2⟩,h3⟩,h4⟩,h5⟩,h6⟩:=h;refine⟨h1,h2,λy hy e=>(h3 y hy).elim (λz=>absurd e z) id,h4,λi j x e1 e2=>?_,λy hy e=>(h6 y hy).elim (λz=>absurd e z) id⟩;have hz:(Nc.zip sub)[i]?=some (x,some j):=by
  rw[List.getElem?_zip_eq_some];exact⟨e1,e2⟩
 have q:=h5 (x,some j) (YAz hz);simp only[YAJ,YCy]at q;exact q
def clOf(cells:List (Str×Addr)):List (Str×NameKind)->List (Str×Addr)->List (Str×Addr)
 |[],acc=>acc
 | (n,k)::r,acc=>clOf cells r (if k=.free then(n,(cells.lookup n).getD 0)::acc else acc)
def zhu:∀(names:List (Str×NameKind))(acc:List (Str×Addr)),(∀y∈names,y.2=.free->∃c,env.cells.lookup y.1=some c) ->
  (forIn names acc λx r=>match x with|(name,kind)=>if (kind==NameKind.free)=true then do let a <-cellOf env name;pure (ForInStep.yield ((name,a)::r))else pure (ForInStep.yield r):Sem (List (Str×Addr)))=pure (clOf env.cells names acc):=by
 intro names
 induction names with
 |nil=>intro acc _;rfl
 |cons y r ih=>
  intro acc h;obtain⟨n,k⟩:=y;have ih':=ih (if k=.free then(n,(env.cells.lookup n).getD 0)::acc else acc) λy hy=>h y (YAp _ hy);rw[YDd];by_cases hk:k=.free
  .subst hk;obtain⟨c,hc⟩:=h (n,.free) YAi rfl;have e1:cellOf env n=pure c:=by unfold cellOf;rw[hc]
   simp only[beq_self_eq_true,YCX,e1,pure_bind];unfold clOf;rw[hc]at ih' ⊢
   simpa using ih'
  .have hb:(k==NameKind.free)=false:=by simpa using hk
   simp only[hb,YA0,YB6,pure_bind];unfold clOf;rw[if_neg hk]at ih' ⊢;exact ih'
def zoo:∀(names:List (Str×NameKind))(acc:List (Str×Addr)),(∀y∈names,y.2=.free->∃c,cells.lookup y.1=some c)->(∀p∈acc,cells.lookup p.1=some p.2) ->
  ∀p∈clOf cells names acc,cells.lookup p.1=some p.2:=by
 intro names
 induction names with
 |nil=>intro acc _ h;exact h
 |cons y r ih=>
  intro acc h ha;obtain⟨n,k⟩:=y;refine ih _ (λy hy=>h y (YAp _ hy)) ?_;by_cases hk:k=.free
  .rw[if_pos hk];intro p hp;rcases YAn.mp hp with e|e
   .subst e;obtain⟨c,hc⟩:=h (n,k) YAi hk;show cells.lookup n=some ((cells.lookup n).getD 0);have hc':cells.lookup n=some c:=hc;rw[hc'];rfl
   .exact ha p e
  .rw[if_neg hk];exact ha
def zm4 :∀(names:List (Str×NameKind))(acc:List (Str×Addr)),p∈acc->p∈clOf cells names acc:=by
 intro names
 induction names with
 |nil=>intro acc h;exact h
 |cons y r ih=>
  intro acc h;obtain⟨n,k⟩:=y;refine ih _ ?_;by_cases hk:k=.free
  .rw[if_pos hk];exact YAp _ h
  .rw[if_neg hk];exact h
def zn8 :∀(names:List (Str×NameKind))(acc:List (Str×Addr)),(x,NameKind.free)∈names->∃c,(x,c)∈clOf cells names acc:=by
 intro names
 induction names with
 |nil=>intro acc h;cases h
 |cons y r ih=>
  intro acc h;obtain⟨n,k⟩:=y;rcases YAn.mp h with e|e
  .cases e;refine⟨(cells.lookup x).getD 0,?_⟩;unfold clOf;refine zm4 _ _ ?_;rw[if_pos rfl];exact YAi
  .exact ih _ e
theorem zd1{α:Type}{x:Str}{c:α}:∀{l:List (Str×α)},(x,c)∈l->∃d,l.lookup x=some d
 |[],h=>by cases h
 | (y,d)::r,h=>by
  by_cases e:x=y
  .subst e;exact⟨d,by simp[List.lookup]⟩
  .have hb:(x==y)=false:=YC7.mpr e;rcases YAn.mp h with q|q
   .cases q;exact absurd rfl e
   .obtain⟨d',q'⟩:=zd1 q;exact⟨d',by simp only[List.lookup,hb];exact q'⟩
def zbJ(h:∀y∈scope.names,y.2=.free->∃c,env.cells.lookup y.1=some c) :
  ∃cl,closureFor scope env=pure cl/\(∀x c,cl.lookup x=some c->env.cells.lookup x=some c)/\∀x,scope.names.lookup x=some .free->∃c,cl.lookup x=some c:=by
 refine⟨clOf env.cells scope.names [],?_,λx c e=>?_,λx e=>?_⟩
 .unfold closureFor;show(forIn scope.names ([]:List (Str×Addr)) (λx r=>match x with|(name,kind)=>if (kind==NameKind.free)=true then do let a <-cellOf env name;pure (ForInStep.yield ((name,a)::r))else pure (ForInStep.yield r)) >>=λcs=>pure cs:Sem (List (Str×Addr)))=_;rw[zhu scope.names [] h,pure_bind]
 .exact zoo scope.names [] h (λp hp=>nomatch hp) (x,c) (YBv e)
 .obtain⟨c,hc⟩:=zn8 (cells:=env.cells) scope.names [] (YBv e);exact zd1 hc
theorem zcc{env:Env}:∀{names:List (Str×NameKind)}{x:Str},names.lookup x=some .free ->
  (names.map λ(n,k)=>if (k==NameKind.free&&env.scope.kind==.function&&env.kindOf n==some .cell)then(n,NameKind.cell)else(n,k)).lookup x=some .cell \/
  (names.map λ(n,k)=>if (k==NameKind.free&&env.scope.kind==.function&&env.kindOf n==some .cell)then(n,NameKind.cell)else(n,k)).lookup x=some .free
 |[],_,h=>by simp at h
 | (n,k)::r,x,h=>by
  have ih:=@zcc env r x;show List.lookup x ((if (k==NameKind.free&&env.scope.kind==.function&&env.kindOf n==some .cell)=true then(n,NameKind.cell)else(n,k))::_)=_\/List.lookup x ((if (k==NameKind.free&&env.scope.kind==.function&&env.kindOf n==some .cell)=true then(n,NameKind.cell)else(n,k))::_)=_;cases hx:x==n with
  |true=>
   simp only[YBu,hx]at h;cases h;by_cases hc:(NameKind.free==NameKind.free&&env.scope.kind==.function&&env.kindOf n==some .cell)=true
   .rw[if_pos hc];left;simp only[YBu,hx]
   .rw[if_neg hc];right;simp only[YBu,hx]
  |false=>
   simp only[YBu,hx]at h;by_cases hc:(k==NameKind.free&&env.scope.kind==.function&&env.kindOf n==some .cell)=true
   .rw[if_pos hc];simp only[YBu,hx];exact ih h
   .rw[if_neg hc];simp only[YBu,hx];exact ih h
theorem zc1{env:Env}:∀{names:List (Str×NameKind)}{x:Str},(∀y∈names,y.2≠.cell) ->
  ((names.map λ(n,k)=>if (k==NameKind.free&&env.scope.kind==.function&&env.kindOf n==some .cell)then(n,NameKind.cell)else(n,k)).lookup x=some .cell \/
  (names.map λ(n,k)=>if (k==NameKind.free&&env.scope.kind==.function&&env.kindOf n==some .cell)then(n,NameKind.cell)else(n,k)).lookup x=some .free)->names.lookup x=some .free
 |[],_,_,h=>by simp at h
 | (n,k)::r,x,nc,h=>by
  have ih:=@zc1 env r x λy hy=>nc y (YAp _ hy);have nk:k≠.cell:=nc (n,k) YAi;have h':List.lookup x ((if (k==NameKind.free&&env.scope.kind==.function&&env.kindOf n==some .cell)=true then(n,NameKind.cell)else(n,k))::(r.map λ(n,k)=>if (k==NameKind.free&&env.scope.kind==.function&&env.kindOf n==some .cell)then(n,NameKind.cell)else(n,k)))=some .cell\/List.lookup x ((if (k==NameKind.free&&env.scope.kind==.function&&env.kindOf n==some .cell)=true then(n,NameKind.cell)else(n,k))::(r.map λ(n,k)=>if (k==NameKind.free&&env.scope.kind==.function&&env.kindOf n==some .cell)then(n,NameKind.cell)else(n,k)))=some .free:=h;clear h;by_cases hc:(k==NameKind.free&&env.scope.kind==.function&&env.kindOf n==some .cell)=true
  .rw[if_pos hc]at h';have kf:k=.free:=by
    rw[YAJ,YAJ]at hc;exact beq_iff_eq.mp hc.1.1
   cases hx:x==n with
   |true=>simp only[YBu,hx];rw[kf]
   |false=>simp only[YBu,hx]at h' ⊢;exact ih h'
  .rw[if_neg hc]at h';cases hx:x==n with
   |true=>
    simp only[YBu,hx]at h' ⊢;rcases h' with e|e
    .exact absurd (Option.some.inj e) nk
    .exact e
   |false=>simp only[YBu,hx]at h' ⊢;exact ih h'
def zaq(X:Cx)(Nc:List Str)(scope:Scope)(cl:List (Str×Addr))(L:Addr)(s₀:Shared)(H₀:Hp)(ex:List Addr):Cx:=
 {X with N:=Nc,s₀:=s₀,H₀:=H₀,env:=compEnvC scope cl L X.env,outer:=X.stack,ex:=ex,fn:=λ_=>false,pn:=[],xe:=λ_ _=>False}
def ze3(sub:List (Option Nat))(g:TG):Prop:=∀v Y H (Q:St->Hp->Prop),g v Y H Q->g v Y H λY2 H2=>Q Y2 H2/\∀(i j:Nat),sub[i]?=some (some j)->Y2[i]?=Y[i]?
def zgt(sub:List (Option Nat))(g:TGs):Prop:=∀v Y H (Q:St->Hp->Prop),g v Y H Q->g v Y H λY2 H2=>Q Y2 H2/\∀(i j:Nat),sub[i]?=some (some j)->Y2[i]?=Y[i]?
def zdy(h:sub[i]?=some none):ze3 sub (zcY i):=λv Y H Q q=>by
 refine⟨q,λk j e=>?_⟩;have ne:i≠k:=λz=>by subst z;rw[h]at e;cases e
 rw[YAD ne]
def zmO:zgt sub gNil:=λ_ _ _ _ ⟨e,q⟩=>⟨e,q,λ_ _ _=>rfl⟩
def zeF(g:TG):Prop:=∀v Y H (Q Q':St->Hp->Prop),(∀ Y2 H2,Q Y2 H2->Q' Y2 H2)->g v Y H Q->g v Y H Q'
def zfH(g:TGs):Prop:=∀v Y H (Q Q':St->Hp->Prop),(∀ Y2 H2,Q Y2 H2->Q' Y2 H2)->g v Y H Q->g v Y H Q'
def zbg:zeF (zcY i):=λ_ _ _ _ _ f q=>f _ _ q
def zeJ:zfH gNil:=λ_ _ _ _ _ f ⟨e,q⟩=>⟨e,f _ _ q⟩
def zbH(h1:zeF t)(h2:zfH u):zfH (ze4 t u):=λv Y H Q Q' f ⟨x,r,e,q⟩=>⟨x,r,e,h1 _ _ _ _ _ (λY2 H2 z=>h2 _ _ _ _ _ f z) q⟩
def zqU{K:qg}{n:Nat}{t:TGs}(h:zfH t):zeF (gTup K n t):=λv Y H Q Q' f ⟨a,xs,e,s,l,q⟩=>⟨a,xs,e,s,l,h _ _ _ _ _ f q⟩
def zdK(h1:ze3 sub t)(m1:zeF t)(h2:zgt sub u)(m2:zfH u):zgt sub (ze4 t u):=λv Y H Q ⟨x,r,e,q⟩=>by
 refine⟨x,r,e,?_⟩;refine m1 _ _ _ _ _ (λY2 H2 z=>?_) (h1 _ _ _ _ q);obtain⟨z,k⟩:=z;refine m2 _ _ _ _ _ (λY3 H3 y=>?_) (h2 _ _ _ _ z);exact⟨y.1,λi j e=>(y.2 i j e).trans (k i j e)⟩
def zq5{K:qg}{sub:List (Option Nat)}{n:Nat}{t:TGs}(h:zgt sub t):ze3 sub (gTup K n t):=λv Y H Q ⟨a,xs,e,s,l,q⟩=>⟨a,xs,e,s,l,h _ _ _ _ q⟩
noncomputable def PIfs(X:Cx)(ifs:List Expr)(t:TT):Prop:=
 ∀(O:List (Addr×Obj))(s:Shared)(Y:St)(H:Hp)(Q:Bool->Hp->Prop),Inv X O Y H s->t Y H Q ->
  wpAny (model X.prog X.w) X.A (forIn ifs true λc r=>if r=true then do let ok <-isTrue c X.env (eval c X.env);pure (ForInStep.yield ok)else pure (ForInStep.yield r)) (TP X O Y Q) X.xe s
def znv:TT:=λ_ H Q=>Q true H
def pif0:PIfs X [] znv:=λ_ _ _ H _ I h=>wpAny_tests_nil ⟨H,I,h⟩
def pif1(h:PT X c t):PIfs X [c] t:=λO s Y H Q I q=>wpAny_tests_one (h O s Y H Q I q)
noncomputable def zif(g:TG)(tc:TT)(te:TE)(Yc:St)(l:Addr)(J:It)(H1:Hp)(Q:VK):Prop:=
 ∃W:Nat->Nat->List V->Hp->Prop,(∃m,W 0 m [] (upd H1 l (.lst [])))/\∀i m xs H2,W i m xs H2->H2 l=some (.lst xs) /\
  ((J.stop i H2/\Q (.ref l) H2)\/(J.go i H2/\∃N:List V->Hp->Prop,(∀xs' H',N xs' H'->∃m',m'<m/\W (i+1) m' xs' H') /\
   ∀x H',J.yld i H2 x H'->g x Yc H' λY2 H3=>tc Y2 H3 λb H4=>if b=true then te Y2 H4 λy H5=>H5 l=some (.lst xs)/\xs.length<sizeLine/\N (xs++[y]) (upd H5 l (.lst (xs++[y])))else N xs H4))
def zmU(sub:List (Option Nat))(wi:TI)(g:TG)(tc:TT)(te:TE):TE:=λY H Q=>wi Y H λJ H1=>∀l,H1 l=none->zif g tc te (zbe sub Y) l J H1 Q
section
variable{X:Cx}{O:List (Addr×Obj)}{Y:St}{H:Hp}{s:Shared}{scope:Scope}{Nc:List Str}{sub:List (Option Nat)}{elt tg iter:Expr}{ifs:List Expr}{pos:Pos}{g:TG}{tc:TT}{te:TE}
def zfp{cl:List (Str×Addr)}{fp:List Addr}{it:Addr}{J:It}{tn:Nat->Heap->Prop}(I:Inv X O Y H s)(hS:CompScope X.N X.env.scope scope Nc sub)
  (hcl:∀x c,cl.lookup x=some c->X.env.cells.lookup x=some c) (hcl2:∀x,scope.names.lookup x=some .free->∃c,cl.lookup x=some c)
  (hf:∀b∈fp,FpOk X O H b) (hlt:∀b∈fp,b<s.heap.objs.size):(zaq X Nc scope cl s.heap.objs.size s H fp).Ok where
 mod:=I.ok.mod
 kind:=hS.kind
 glob:=I.ok.glob
 blt:=I.ok.blt
 above:=YAj _
 inj:=λx y c e1 e2=>I.ok.inj x y c (hcl x c e1) (hcl y c e2)
 has:=λx h=>hcl2 x (zc1 (env:=X.env) hS.nocell h)
 cab:=λx c h=>by cases h
 hd:=I.ok.hd
 frames:=I.ok.frames
 stk:=.inl rfl
 exf:=λb hb=>⟨YAv (hlt b hb),λx c e=>(hf b hb).2.2.2.2.1 x c (hcl x c e)⟩
 bs:=I.bs
 bsz:=YAU I.ok.bsz I.sz
 noex:=λb o e hb=>by
  rcases(hf b hb).2.2.2.1 with z|z
  .exact I.ok.noex b o e z
  .exact absurd (YAt (YAm e) (YAU I.ok.bsz z)) (YBe _)
 exfs:=λb hb hq=>by
  rcases YAn.mp (I.stkSub b hq)with z|z
  .exact(hf b hb).2.1 z
  .exact(hf b hb).2.2.1 z
 funs:=I.stack
 frf:=I.stkFree
def zc2{cl:List (Str×Addr)}{fp:List Addr}{h1:Heap}{t':Nat}{m:Str->Option Value}(I:Inv X O Y H s)(hS:CompScope X.N X.env.scope scope Nc sub)
  (hcl:∀x c,cl.lookup x=some c->X.env.cells.lookup x=some c) (hcl2:∀x,scope.names.lookup x=some .free->∃c,cl.lookup x=some c)
  (ok:(zaq X Nc scope cl s.heap.objs.size s H fp).Ok) (hn:h1.Ns s.heap.objs.size m) (hk:∀b o,s.heap.get? b=some o->h1.get? b=some o) :
  Inv (zaq X Nc scope cl s.heap.objs.size s H fp) [] (zbe sub Y) H {s with heap:=h1,toks:=t'}where
 ok:=ok
 os:=rfl
 bare:=I.bare
 base:=Un.kept hk
 loc:=by
  refine⟨m,hn,λi x v e1 e2 _=>?_⟩;obtain⟨j,e3,e4⟩:=zc4 e2;obtain⟨e5,e6⟩:=hS.vis i j x e1 e3;obtain⟨m',_,hl⟩:=I.loc;have hfr:X.env.kindOf x=some .cell\/X.env.kindOf x=some .free:=hS.frees (x,.free) (YBv e6) rfl;obtain⟨u,r,l⟩:=hl j x v e5 e4 (.inr hfr);refine⟨u,r,?_⟩;rcases l with⟨k,_⟩|⟨_,c,e,z⟩
  .rcases hfr with q|q
   .rw[k]at q;cases q
   .rw[k]at q;cases q
  .obtain⟨c',e'⟩:=hcl2 x e6
   have:=hcl x c' e'
   rw[e]at this;cases this;exact .inr ⟨zcc (env:=X.env) e6,c,e',z.keeps hk⟩
 cell:=λx c e=>by
  obtain⟨v,z⟩:=I.cell x c (hcl x c e);exact⟨v,z.keeps hk⟩
 free:=I.hok.fresh (YAj _)
 freeC:=λx c e=>I.freeC x c (hcl x c e)
 pin:=λp hp=>absurd (show p∈([]:List (Addr×Obj))from hp) (by simp)
 hok:=I.hok.kept hk
 len:=(zdU sub Y).trans hS.len
def zeD{cl:List (Str×Addr)}{fp:List Addr}{pinsC:List (Addr×Obj)}{Yc:St}{H':Hp}{s':Shared}(I:Inv X O Y H s)(hf:∀b∈fp,FpOk X O H b)
  (J:Inv (zaq X Nc scope cl s.heap.objs.size s H fp) pinsC Yc H' s'):Inv X O Y H' s':=
 I.call' (ch:=fp) J.os J.base J.hok J.bare λb hb=>⟨(hf b hb).2.2.2.1,(hf b hb).2.1,(hf b hb).2.2.2.2.1,(hf b hb).2.2.2.2.2⟩
def zku{cl:List (Str×Addr)}{fp:List Addr}{it:Addr}{J:It}{tn:Nat->Heap->Prop}{E:Value->Shared->Prop}{Q:VK}{RR:Value->Addr->Result->Shared->Prop}
  (hc:X.calm=true) (I:Inv X O Y H s) (hS:CompScope X.N X.env.scope scope Nc sub)
  (hcl:∀x c,cl.lookup x=some c->X.env.cells.lookup x=some c) (hcl2:∀x,scope.names.lookup x=some .free->∃c,cl.lookup x=some c)
  (T:Turn X.prog X.w X.K tg J fp it tn) (st:tn 0 s.heap) (hf:∀b∈fp,FpOk X O H b)
  (hg:∀cl L s0 H0 ex,PG (zaq X Nc scope cl L s0 H0 ex) tg g) (gk:ze3 sub g)
  (hi:∀cl L s0 H0 ex,PIfs (zaq X Nc scope cl L s0 H0 ex) ifs tc) (he:∀cl L s0 H0 ex,PE (zaq X Nc scope cl L s0 H0 ex) elt te)
  (gm:zeF g) (q:∀l,H l=none->zif g tc te (zbe sub Y) l J H Q)
  (hRR:∀l C H' s' m,Inv X O Y H' s'->Q (.ref l) H'->s'.heap.Ns C m->s.heap.objs.size<=C->H' C=none->RR (.ref l) C (.ok .next) s') :
  wpAny (model X.prog X.w) X.A (newList []) (λacc s₃=>wpAny (model X.prog X.w) X.A (newFunctionEnv scope X.env.globals cl [] X.env.qual none .none (some X.env)) (λcenv s₄=>
   codeAny (model X.prog X.w) X.A (.compStart (.ListComp elt [⟨tg,iter,ifs,0⟩] scope pos) 0 (.ref it) acc {cenv with scope:=relabel scope X.env}) (RR acc cenv.locals) s₄) E s₃) E s:=by
 have hlt:∀b∈fp,b<s.heap.objs.size:=λb hb=>let⟨o,e,_⟩:=T.obj _ _ st b hb;YAm e
 have hl0:H s.heap.objs.size=none:=I.hok.fresh (YAj _);obtain⟨W,⟨m0,w0⟩,turn⟩:=q s.heap.objs.size hl0;refine YAX ?_
 -- the list is laid
 have I3:Inv X O Y (upd H s.heap.objs.size (.lst [])) {s with heap:=s.heap.push {cls:=.type "list",data:=.seq ([]:List Value).toArray},toks:=s.toks}:=I.lnew (its:=[]) .nil (YAC _);generalize hs3:({s with heap:=s.heap.push {cls:=.type "list",data:=.seq ([]:List Value).toArray},toks:=s.toks}:Shared)=s3 at I3;have e3:({s with heap:=s.heap.push {cls:=.type "list",data:=.seq ([]:List Value).toArray}}:Shared)=s3:=hs3;have k3:∀b o,s.heap.get? b=some o->s3.heap.get? b=some o:=λb o e=>by rw[<-hs3];exact YAd _ e
 have z3:s.heap.objs.size<=s3.heap.objs.size:=by rw[<-hs3];show _<=(s.heap.push _).objs.size;rw[YBk];exact YDL _
 have f3:∀b∈fp,FpOk X O (upd H s.heap.objs.size (.lst [])) b:=λb hb=>⟨by rw[zaf (YAv (hlt b hb))];exact(hf b hb).1,(hf b hb).2⟩;have lt3:∀b∈fp,b<s3.heap.objs.size:=λb hb=>YAt (hlt b hb) z3;have st3:tn 0 s3.heap:=T.keep _ _ _ st λb _ o e=>k3 b o e;refine YCZ hS.nocell (by intro y hy;simp at hy) (λh₁ hns₁ hsb₁=>?_) hS.kind;have k4:∀b o,s3.heap.get? b=some o->h₁.get? b=some o:=λb o e=>hsb₁.extBut b o (YAv (YAm e)) (YAd _ e);have ok4:=zfp (J:=J) (it:=it) (tn:=tn) I3 hS hcl hcl2 f3 lt3;have I4:=zc2 (t':=s3.toks+([]:List (Str×Value)).length) I3 hS hcl hcl2 ok4 hns₁ k4;have st4:tn 0 h₁:=T.keep _ _ _ st3 λb _ o e=>k4 b o e
 -- what stays true of the iterator's objects
 have stat:∀{H':Hp},(∀b∈fp,H' b=none)->∀b∈fp,FpOk (zaq X Nc scope cl s3.heap.objs.size s3 (upd H s.heap.objs.size (.lst [])) fp) [] H' b:=λhn b hb=>
  ⟨hn b hb,(ok4.exf b hb).1,ok4.exfs b hb,.inl hb,(ok4.exf b hb).2,λp hp=>absurd (show p∈([]:List (Addr×Obj))from hp) (by simp)⟩
 have loop:∀s₄:Shared,s₄={s3 with heap:=h₁,toks:=s3.toks+([]:List (Str×Value)).length} ->
   codeAny (model X.prog X.w) X.A (.compLoop (.ListComp elt [⟨tg,iter,ifs,0⟩] scope pos) 0 (.ref it) (.ref s.heap.objs.size) (compEnvC scope cl s3.heap.objs.size X.env)) (RR (.ref s.heap.objs.size) s3.heap.objs.size) s₄:=by
  rintro s₄ rfl;refine YDY rfl (λn s'=>∃i xs H',Inv (zaq X Nc scope cl s3.heap.objs.size s3 (upd H s.heap.objs.size (.lst [])) fp) [] (zbe sub Y) H' s'/\tn i s'.heap/\(∀b∈fp,H' b=none)/\W i n xs H') ?_ m0
   ⟨0,[],_,I4,st4,λb hb=>(f3 b hb).1,w0⟩
  rintro n s5 ⟨i,xs,H5,I5,st5,fr5,w5⟩;show wpAny _ X.A ((compTurn (.ListComp elt [⟨tg,iter,ifs,0⟩] scope pos) 0 (.ref it) (.ref s.heap.objs.size) (compEnvC scope cl s3.heap.objs.size X.env)).onRaise (λx=>do noteFrame x (compEnvC scope cl s3.heap.objs.size X.env);theTreesLotGoes x)) _ _ s5;refine YEi ?_;rw[compTurn_list];refine YAa (YBp (YAa ?_));obtain⟨hl5,w5⟩:=turn i n xs H5 w5;rcases w5 with⟨stop,qn⟩|⟨go,N,hN,step⟩
  .refine thn (T.done (zaq X Nc scope cl s3.heap.objs.size s3 (upd H s.heap.objs.size (.lst [])) fp) rfl rfl rfl hc i [] s5 (zbe sub Y) H5 _ I5 (stat fr5) st5 stop) λr s6 ⟨hr,I6⟩=>?_;subst hr;obtain⟨m6,hn6,_⟩:=I6.loc;exact YAf (hRR _ _ H5 s6 m6 (zeD I3 f3 I6) qn hn6 z3 I6.free)
  .refine thn (T.item (zaq X Nc scope cl s3.heap.objs.size s3 (upd H s.heap.objs.size (.lst [])) fp) rfl rfl rfl hc i [] s5 (zbe sub Y) H5 _ I5 (stat fr5) st5 go) λr s6 ⟨u,hr,h6⟩=>?_;subst hr;refine YAa (thn h6 λ_ s7 ⟨x,H7,I7,r7,y7,st7,fr7⟩=>?_);have I7':=I7.pinned (stat fr7) (T.obj _ _ st7);have again:∀{Y8:St}{H8:Hp}{ys:List V}{s8:Shared},Inv (zaq X Nc scope cl s3.heap.objs.size s3 (upd H s.heap.objs.size (.lst [])) fp) ([]++zeN fp s7.heap) Y8 H8 s8->(∀(i j:Nat),sub[i]?=some (some j)->Y8[i]?=(zbe sub Y)[i]?)->N ys H8 ->
     ∃m,m<n/\∃i xs H',Inv (zaq X Nc scope cl s3.heap.objs.size s3 (upd H s.heap.objs.size (.lst [])) fp) [] (zbe sub Y) H' s8/\tn i s8.heap/\(∀b∈fp,H' b=none)/\W i m xs H':=λ{Y8 H8 ys s8} I8 k8 n8=>by
    obtain⟨m',hm,w8⟩:=hN ys H8 n8;refine⟨m',hm,i+1,ys,H8,?_,T.keep _ _ _ st7 λb hb o e=>(I8.pin (b,o) (YAl _ (YAl _ (zbc hb e)))).1,λb hb=>?_,w8⟩
    .refine I8.unpinned.weak ?_ λk v e=>?_
     .rw[I8.len];exact(zdU sub Y).trans hS.len
     .obtain⟨j,e1,_⟩:=zc4 e;rw[k8 k j e1];exact e
    .obtain⟨o,e,d⟩:=T.obj _ _ st7 b hb;exact(I8.pin (b,o) (YAl _ (YAl _ (zbc hb e)))).2.1
   refine YAa (YA2 (hg cl _ s3 _ fp _ s7 (zbe sub Y) H7 x u _ I7' r7 (gk _ _ _ _ (step x H7 y7))) (λ_ s8 ⟨Y8,H8,I8,q8,k8⟩=>?_) λ_ _ z=>False.elim z);refine YAa (YA2 (hi cl _ s3 _ fp _ s8 Y8 H8 _ I8 q8) (λok s9 ⟨H9,I9,q9⟩=>?_) λ_ _ z=>False.elim z);cases ok with
   |false=>exact YAf ⟨rfl,again I9 k8 q9⟩
   |true=>
    refine YAa (YAa (YA2 (he cl _ s3 _ fp _ s9 Y8 H9 _ I9 q9) (λxv s10 ⟨y,H10,I10,r10,hl10,hz,q10⟩=>?_) λ_ _ z=>False.elim z));refine YAa (YA2 (zbQ (X:=(zaq X Nc scope cl s3.heap.objs.size s3 (upd H s.heap.objs.size (.lst [])) fp)) _ s10 Y8 H10 (.ref s.heap.objs.size) [y] (.ref s.heap.objs.size) [xv] (λ_ H11=>N (xs++[y]) H11) I10 rfl (.cons r10 .nil) ⟨_,xs,y,rfl,rfl,hl10,hz,q10⟩) (λ_ s11 ⟨_,H11,I11,_,q11⟩=>?_) λ_ _ z=>False.elim z);exact YAf (YAf ⟨rfl,again I11 k8 q11⟩)
 exact codeAny_compStart_list (loop _ rfl) (T.self _ 0 _ _ _ st4 (loop _ rfl))
def zdm(I:Inv X O Y H s)(hS:CompScope X.N X.env.scope scope Nc sub):∀y∈scope.names,y.2=.free->∃c,X.env.cells.lookup y.1=some c:=λy hy e=>
 I.ok.has y.1 (hS.frees y hy e)
def zhj(hc:X.calm=true)(hS:CompScope X.N X.env.scope scope Nc sub)(hI:PI X tg iter wi)
  (hg:∀cl L s0 H0 ex,PG (zaq X Nc scope cl L s0 H0 ex) tg g) (gk:ze3 sub g) (gm:zeF g)
  (hi:∀cl L s0 H0 ex,PIfs (zaq X Nc scope cl L s0 H0 ex) ifs tc) (he:∀cl L s0 H0 ex,PE (zaq X Nc scope cl L s0 H0 ex) elt te)
  (hs:∀x,foldedSetIterable iter X.env x=pure x:=by intro _;rfl):PE X (.ListComp elt [⟨tg,iter,ifs,0⟩] scope pos) (zmU sub wi g tc te):=by
 intro O s Y H Q I h;obtain⟨cl,hcl0,hcl,hcl2⟩:=zbJ (zdm I hS);rw[eval_ListComp];refine YCe (use:=none) rfl hs hcl0 hS.kind hS.names ?_;refine thn (hI O s Y H _ I h) λxv s1 h1=>thn h1 λitv s2 h2=>?_;obtain⟨it,fp,tn,J,H2,e,I2,T,st2,f2,q⟩:=h2;subst e;refine zku hc I2 hS hcl hcl2 T st2 f2 hg gk hi he gm q λl C H' s' m I' q' hn hC hfr=>?_;refine⟨m,hn,λh' sb=>?_⟩;have nL:C≠X.env.locals:=YBi (YAt I2.lt hC);refine⟨.ref l,H',?_,rfl,q'⟩;exact I'.turned (it:=C) (t':=s'.toks) (λb o hb e=>(sb.2 b hb).trans e) hfr nL (.inr (YAU I2.sz hC)) (λx c e z=>by
  obtain⟨v,w⟩:=I2.cell x c e;exact absurd (YAt w.lt (by rw[z];exact hC)) (YBe _)) λp hp z=>
  absurd (YAt (YAm (I2.pin p hp).1) (by rw[z];exact hC)) (YBe _)
def znc(hc:X.calm=true)(hN:X.N.Nodup)(hiN:X.N[i]?=some y)(hy:X.env.scope.names.lookup y=some .local)(hS:CompScope X.N X.env.scope scope Nc sub)(hI:PI X tg iter wi)
  (hg:∀cl L s0 H0 ex,PG (zaq X Nc scope cl L s0 H0 ex) tg g) (gk:ze3 sub g) (gm:zeF g)
  (hi:∀cl L s0 H0 ex,PIfs (zaq X Nc scope cl L s0 H0 ex) ifs tc) (he:∀cl L s0 H0 ex,PE (zaq X Nc scope cl L s0 H0 ex) elt te)
  (hsw:swapsWith (.ListComp elt [⟨tg,iter,ifs,0⟩] scope pos) (some (.Name y py)) spos.line X.env=pure true:=by rfl)
  (hs:∀x,foldedSetIterable iter X.env x=pure x:=by intro _;rfl):PS X (.Assign [.Name y py] (.ListComp elt [⟨tg,iter,ifs,0⟩] scope pos) spos) (tAsg (zmU sub wi g tc te) (zcY i)):=by
 intro O s Y H D I h;obtain⟨cl,hcl0,hcl,hcl2⟩:=zbJ (zdm I hS);rw[exec_Assign_Name_used _ _ _ _ hsw];refine YAa (YBp (YAa ?_));show wpAny _ X.A (do let _ <-comprehension (.ListComp elt [⟨tg,iter,ifs,0⟩] scope pos) scope X.env _ (newList []) false (eval iter X.env) (some (assign (.Name y py) X.env))) _ _ s;refine YAa (YA2 (YCe (use:=some (assign (.Name y py) X.env)) (Q:=λ_ s'=>SP X O D .next s') rfl hs hcl0 hS.kind hS.names
  (thn (hI O s Y H _ I h) λxv s1 h1=>thn h1 λitv s2 h2=>?_)) (λ_ s' hq=>YAf (YAf hq)) λ_ _ e=>e)
 obtain⟨it,fp,tn,J,H2,e,I2,T,st2,f2,q⟩:=h2;subst e;refine zku hc I2 hS hcl hcl2 T st2 f2 hg gk hi he gm q λl C H' s' m I' q' hn hC hfr=>?_;have nL:C≠X.env.locals:=YBi (YAt I2.lt hC);show wpAny _ X.A (assign (.Name y py) X.env (.ref l)) _ _ _;refine YDy (zf6 I' hN hiN (.inl hy) (v:=.ref l) rfl (λs6 I6 ⟨a,sb6,ha⟩=>?_) (.inr hy));have nA:C≠a:=λz=>by
  rcases ha with e|e
  .exact nL (z.trans e)
  .obtain⟨v,w⟩:=I2.cell y a e;exact absurd (YAt w.lt (by rw[<-z];exact hC)) (YBe _)
 refine⟨m,hn.sameBut sb6 nA,λh' sb=>?_⟩;refine⟨_,H',I6.turned (it:=C) (t':=s6.toks) (λb o hb e=>(sb.2 b hb).trans e) hfr nL (.inr (YAU I2.sz hC)) (λx c e z=>by
  obtain⟨v,w⟩:=I2.cell x c e;exact absurd (YAt w.lt (by rw[z];exact hC)) (YBe _)) (λp hp z=>
  absurd (YAt (YAm (I2.pin p hp).1) (by rw[z];exact hC)) (YBe _)),q'⟩
end
def zic{K:qg}{a l:Addr}{ys:List V}{g:TG}{tc:TT}{te:TE}{Yc:St}{H1:Hp}{Q:VK}(Pv:Nat->List V->Hp->Prop)(h0:Pv 0 [] (upd H1 l (.lst [])))
  (hl:∀i xs H,i<=ys.length->Pv i xs H->SqL K H a ys/\H l=some (.lst xs))
  (hs:∀i x xs H,ys[i]?=some x->Pv i xs H->g x Yc H λY2 H3=>tc Y2 H3 λb H4=>if b=true then te Y2 H4 λy H5=>H5 l=some (.lst xs)/\xs.length<sizeLine/\Pv (i+1) (xs++[y]) (upd H5 l (.lst (xs++[y])))else Pv (i+1) xs H4)
  (hd:∀xs H,Pv ys.length xs H->Q (.ref l) H):zif g tc te Yc l (Itl K a) H1 Q:=by
 refine⟨λi m xs H=>m=ys.length-i/\i<=ys.length/\Pv i xs H,⟨ys.length,by simp,YAC _,h0⟩,?_⟩;rintro i m xs H ⟨rfl,hi,p⟩;obtain⟨q,hll⟩:=hl i xs H hi p;refine⟨hll,?_⟩;by_cases hlt:i<ys.length
 .refine .inr ⟨⟨ys,ys[i],q,by simp[hlt]⟩,Pv (i+1),λxs' H' p'=>⟨ys.length-(i+1),by omega,rfl,hlt,p'⟩,λx H' y=>?_⟩;obtain⟨e,y⟩:=y;subst e;exact hs i x xs _ (y ys q) p
 .have e:i=ys.length:=by omega
  subst e;exact .inl ⟨⟨ys,q,YAj _⟩,hd xs H p⟩
def zk1{l:Addr}{lo:Int}{n:Nat}{g:TG}{tc:TT}{te:TE}{Yc:St}{H1:Hp}{Q:VK}(Pv:Nat->List V->Hp->Prop)(h0:Pv 0 [] (upd H1 l (.lst [])))
  (hl:∀i xs H,i<=n->Pv i xs H->H l=some (.lst xs))
  (hs:∀i xs H,i<n->Pv i xs H->g (.int (lo+i)) Yc H λY2 H3=>tc Y2 H3 λb H4=>if b=true then te Y2 H4 λy H5=>H5 l=some (.lst xs)/\xs.length<sizeLine/\Pv (i+1) (xs++[y]) (upd H5 l (.lst (xs++[y])))else Pv (i+1) xs H4)
  (hd:∀xs H,Pv n xs H->Q (.ref l) H):zif g tc te Yc l (Itr lo n) H1 Q:=by
 refine⟨λi m xs H=>m=n-i/\i<=n/\Pv i xs H,⟨n,by simp,YAC _,h0⟩,?_⟩;rintro i m xs H ⟨rfl,hi,p⟩;refine⟨hl i xs H hi p,?_⟩;by_cases hlt:i<n
 .refine .inr ⟨hlt,Pv (i+1),λxs' H' p'=>⟨n-(i+1),by omega,rfl,hlt,p'⟩,λx H' y=>?_⟩;obtain⟨e,y⟩:=y;subst e y;exact hs i xs _ hlt p
 .have e:i=n:=by omega
  subst e;exact .inl ⟨YAj _,hd xs H p⟩
def zfU(elt tg iter tg2 iter2:Expr)(ifs:List Expr)(scope:Scope)(pos:Pos)(it acc:Value)(env:Env) :
  compTurn (.ListComp elt [⟨tg,iter,[],0⟩,⟨tg2,iter2,ifs,0⟩] scope pos) 0 it acc env=(do
   standAt iter.pos
   match <-pyNext it with
   |none=>pure (.done .next)
   |some v=>
    letOwnedTupleGo tg it v
    assign tg env v
    let mut ok:=true
    for c in([]:List Expr) do
     if ok then ok <-isTrue c env (eval c env)
    if ok then
     let x <-eval iter2 env
     standAt iter2.pos
     let x <-foldedSetIterable iter2 env x
     let _ <-runOwn (.compStart (.ListComp elt [⟨tg,iter,[],0⟩,⟨tg2,iter2,ifs,0⟩] scope pos) 1 (<-holding [x] (pyIter x)) acc env) env
    again (.compLoop (.ListComp elt [⟨tg,iter,[],0⟩,⟨tg2,iter2,ifs,0⟩] scope pos) 0 it acc env)):=by rfl
def zfL(elt tg iter tg2 iter2:Expr)(ifs:List Expr)(scope:Scope)(pos:Pos)(it acc:Value)(env:Env) :
  compTurn (.ListComp elt [⟨tg,iter,[],0⟩,⟨tg2,iter2,ifs,0⟩] scope pos) 1 it acc env=(do
   standAt iter2.pos
   match <-pyNext it with
   |none=>pure (.done .next)
   |some v=>
    letOwnedTupleGo tg2 it v
    assign tg2 env v
    let mut ok:=true
    for c in ifs do
     if ok then ok <-isTrue c env (eval c env)
    if ok then
     (do let _ <-call (.builtin "list.append") [acc,<-eval elt env])
    again (.compLoop (.ListComp elt [⟨tg,iter,[],0⟩,⟨tg2,iter2,ifs,0⟩] scope pos) 1 it acc env)):=by rfl
def zcJ
  (h0:codeAny (model prog w) A (.compLoop (.ListComp elt [⟨tg,iter,[],0⟩,⟨tg2,iter2,ifs,0⟩] scope pos) 1 it acc env) R s)
  (h:wpAny (model prog w) A (pyIter it) (λit' s'=>codeAny (model prog w) A (.compLoop (.ListComp elt [⟨tg,iter,[],0⟩,⟨tg2,iter2,ifs,0⟩] scope pos) 1 it' acc env) R s')
   (notedBy (model prog w) A env λx s'=>R (.error x) s') s) :
  codeAny (model prog w) A (.compStart (.ListComp elt [⟨tg,iter,[],0⟩,⟨tg2,iter2,ifs,0⟩] scope pos) 1 it acc env) R s:=by
 refine YDe ?_;show wpAny _ _ ((compStart (.ListComp elt [⟨tg,iter,[],0⟩,⟨tg2,iter2,ifs,0⟩] scope pos) 1 it acc env).onRaise (λx=>do noteFrame x env;standAt theWindowsPlace)) _ _ s;refine wpAny_notedAt ?_;unfold compStart;show wpAny _ _ (ask >>= _) _ _ s;refine YAa (YCm (wpAny_ite ?_));split
 .first
   |exact YAa (YAf (YAf (And.intro rfl h0)))
   |exact YAf (And.intro rfl h0)
 .first
   |exact YAa (YBr (YAa (YBp (YAa (YA2 h (λit' s' h'=>YAf (And.intro rfl h')) λ_ _ x=>x)))))
   | (refine YAa (YBr ?_);show wpAny _ _ (standAt iter2.pos >>= _) _ _ s;exact YAa (YBp (YAa (YA2 h (λit' s' h'=>YAf (And.intro rfl h')) λ_ _ x=>x))))
noncomputable def tIn(g:TG)(tc:TT)(te:TE)(Yc:St)(l:Addr)(J:It)(H1:Hp)(xs0:List V)(N:List V->Hp->Prop):Prop:=
 ∃W:Nat->Nat->List V->Hp->Prop,(∃m,W 0 m xs0 H1)/\∀i m xs H2,W i m xs H2->H2 l=some (.lst xs) /\
  ((J.stop i H2/\N xs H2)\/(J.go i H2/\∃N':List V->Hp->Prop,(∀xs' H',N' xs' H'->∃m',m'<m/\W (i+1) m' xs' H') /\
   ∀x H',J.yld i H2 x H'->g x Yc H' λY2 H3=>tc Y2 H3 λb H4=>if b=true then te Y2 H4 λy H5=>H5 l=some (.lst xs)/\xs.length<sizeLine/\N' (xs++[y]) (upd H5 l (.lst (xs++[y])))else N' xs H4))
def zlk
  (hc:X.calm=true) (hx:X.xe=λ_ _=>False) (I:Inv X O Y H s) (T:Turn X.prog X.w X.K tg2 J fp it tn) (st:tn 0 s.heap) (hf:∀b∈fp,FpOk X O H b)
  (hg:PG X tg2 g) (gk:∀v H (Q:St->Hp->Prop),g v Y H Q->g v Y H λY2 H2=>Q Y2 H2/\∀(i:Nat)(v:V),Y[i]?=some (some v)->Y2[i]?=some (some v)) (hi:PIfs X ifs tc) (he:PE X elt te)
  (q:tIn g tc te Y l J H xs0 N) (hR:∀ys H' s',Inv X O Y H' s'->N ys H'->R (.ok .next) s') :
  codeAny (model X.prog X.w) X.A (.compStart (.ListComp elt [⟨tg,iter,[],0⟩,⟨tg2,iter2,ifs,0⟩] scope pos) 1 (.ref it) (.ref l) X.env) R s:=by
 obtain⟨W,⟨m0,w0⟩,turn⟩:=q;have stat:∀{H':Hp},(∀b∈fp,H' b=none)->∀b∈fp,FpOk X O H' b:=λhn b hb=>⟨hn b hb,(hf b hb).2⟩;have nox:∀{E:Value->Shared->Prop}(a:Value)(b:Shared),X.xe a b->E a b:=λ{E} a b z=>by rw[hx]at z;exact z.elim
 have loop:codeAny (model X.prog X.w) X.A (.compLoop (.ListComp elt [⟨tg,iter,[],0⟩,⟨tg2,iter2,ifs,0⟩] scope pos) 1 (.ref it) (.ref l) X.env) R s:=by
  refine YDY rfl (λn s'=>∃i xs H',Inv X O Y H' s'/\tn i s'.heap/\(∀b∈fp,H' b=none)/\W i n xs H') ?_ m0 ⟨0,xs0,H,I,st,λb hb=>(hf b hb).1,w0⟩;rintro n s5 ⟨i,xs,H5,I5,st5,fr5,w5⟩;show wpAny _ X.A ((compTurn (.ListComp elt [⟨tg,iter,[],0⟩,⟨tg2,iter2,ifs,0⟩] scope pos) 1 (.ref it) (.ref l) X.env).onRaise (λx=>do noteFrame x X.env;theTreesLotGoes x)) _ _ s5;refine YEi ?_;rw[zfL];refine YAa (YBp (YAa ?_));obtain⟨hl5,w5⟩:=turn i n xs H5 w5;rcases w5 with⟨stop,qn⟩|⟨go,N',hN,step⟩
  .refine thn (T.done X rfl rfl rfl hc i O s5 Y H5 _ I5 (stat fr5) st5 stop) λr s6 ⟨hr,I6⟩=>?_;subst hr;exact YAf (hR _ H5 s6 I6 qn)
  .refine thn (T.item X rfl rfl rfl hc i O s5 Y H5 _ I5 (stat fr5) st5 go) λr s6 ⟨u,hr,h6⟩=>?_;subst hr;refine YAa (thn h6 λ_ s7 ⟨x,H7,I7,r7,y7,st7,fr7⟩=>?_);have I7':=I7.pinned (stat fr7) (T.obj _ _ st7);have again:∀{Y8:St}{H8:Hp}{ys:List V}{s8:Shared},Inv X (O++zeN fp s7.heap) Y8 H8 s8->(∀(i:Nat)(v:V),Y[i]?=some (some v)->Y8[i]?=some (some v))->N' ys H8 ->
     ∃m,m<n/\∃i xs H',Inv X O Y H' s8/\tn i s8.heap/\(∀b∈fp,H' b=none)/\W i m xs H':=λ{Y8 H8 ys s8} I8 k8 n8=>by
    obtain⟨m',hm,w8⟩:=hN ys H8 n8;refine⟨m',hm,i+1,ys,H8,?_,T.keep _ _ _ st7 λb hb o e=>(I8.pin (b,o) (YAl _ (YAl _ (zbc hb e)))).1,λb hb=>?_,w8⟩
    .refine I8.unpinned.weak ?_ λk v e=>k8 k v e;rw[I8.len];exact I.len
    .obtain⟨o,e,d⟩:=T.obj _ _ st7 b hb;exact(I8.pin (b,o) (YAl _ (YAl _ (zbc hb e)))).2.1
   refine YAa (YA2 (hg _ s7 Y H7 x u _ I7' r7 (gk _ _ _ (step x H7 y7))) (λ_ s8 ⟨Y8,H8,I8,q8,k8⟩=>?_) nox);refine YAa (YA2 (hi _ s8 Y8 H8 _ I8 q8) (λok s9 ⟨H9,I9,q9⟩=>?_) nox);cases ok with
   |false=>exact YAf ⟨rfl,again I9 k8 q9⟩
   |true=>
    refine YAa (YAa (YA2 (he _ s9 Y8 H9 _ I9 q9) (λxv s10 ⟨y,H10,I10,r10,hl10,hz,q10⟩=>?_) nox));refine YAa (YA2 (zbQ (X:=X) _ s10 Y8 H10 (.ref l) [y] (.ref l) [xv] (λ_ H11=>N' (xs++[y]) H11) I10 rfl (.cons r10 .nil) ⟨_,xs,y,rfl,rfl,hl10,hz,q10⟩) (λ_ s11 ⟨_,H11,I11,_,q11⟩=>?_) nox);exact YAf (YAf ⟨rfl,again I11 k8 q11⟩)
 exact zcJ loop (T.self _ 0 _ _ _ st loop)
def zpw(sub:List (Option Nat))(g g2:TG):Prop:=∀v (Y:St) H (Q:St->Hp->Prop),g v (zbe sub Y) H Q->g v (zbe sub Y) H λY2 H2=>Q Y2 H2 /\
 ∀ Y',Y'=Y->∀u H' (Q':St->Hp->Prop),g2 u Y2 H' Q'->g2 u Y2 H' λY3 H3=>Q' Y3 H3/\∀(i:Nat)(v:V),Y2[i]?=some (some v)->Y3[i]?=some (some v)
noncomputable def zmr(g:TG)(wi2:TI)(g2:TG)(tc:TT)(te:TE)(Yc:St)(l:Addr)(J:It)(H1:Hp)(Q:VK):Prop:=
 ∃W:Nat->Nat->List V->Hp->Prop,(∃m,W 0 m [] (upd H1 l (.lst [])))/\∀i m xs H2,W i m xs H2->H2 l=some (.lst xs) /\
  ((J.stop i H2/\Q (.ref l) H2)\/(J.go i H2/\∃N:List V->Hp->Prop,(∀xs' H',N xs' H'->∃m',m'<m/\W (i+1) m' xs' H') /\
   ∀x H',J.yld i H2 x H'->g x Yc H' λY2 H3=>wi2 Y2 H3 λJ2 H4=>tIn g2 tc te Y2 l J2 H4 xs N))
def zmG(sub:List (Option Nat))(wi:TI)(g:TG)(wi2:TI)(g2:TG)(tc:TT)(te:TE):TE:=λY H Q=>wi Y H λJ H1=>∀l,H1 l=none->zmr g wi2 g2 tc te (zbe sub Y) l J H1 Q
section
variable{X:Cx}{O:List (Addr×Obj)}{Y:St}{H:Hp}{s:Shared}{scope:Scope}{Nc:List Str}{sub:List (Option Nat)}{elt tg iter tg2 iter2:Expr}{ifs:List Expr}{pos:Pos}{g g2:TG}{wi2:TI}{tc:TT}{te:TE}
def zmX{cl:List (Str×Addr)}{fp:List Addr}{it:Addr}{J:It}{tn:Nat->Heap->Prop}{E:Value->Shared->Prop}{Q:VK}{RR:Value->Addr->Result->Shared->Prop}
  (hc:X.calm=true) (I:Inv X O Y H s) (hS:CompScope X.N X.env.scope scope Nc sub)
  (hcl:∀x c,cl.lookup x=some c->X.env.cells.lookup x=some c) (hcl2:∀x,scope.names.lookup x=some .free->∃c,cl.lookup x=some c)
  (T:Turn X.prog X.w X.K tg J fp it tn) (st:tn 0 s.heap) (hf:∀b∈fp,FpOk X O H b)
  (hg:∀cl L s0 H0 ex,PG (zaq X Nc scope cl L s0 H0 ex) tg g) (gk:ze3 sub g) (hI2:∀cl L s0 H0 ex,PI (zaq X Nc scope cl L s0 H0 ex) tg2 iter2 wi2) (hg2:∀cl L s0 H0 ex,PG (zaq X Nc scope cl L s0 H0 ex) tg2 g2) (gk2:zpw sub g g2) (hs2:∀cl L s0 H0 ex x,foldedSetIterable iter2 (zaq X Nc scope cl L s0 H0 ex).env x=pure x)
  (hi:∀cl L s0 H0 ex,PIfs (zaq X Nc scope cl L s0 H0 ex) ifs tc) (he:∀cl L s0 H0 ex,PE (zaq X Nc scope cl L s0 H0 ex) elt te)
  (gm:zeF g) (q:∀l,H l=none->zmr g wi2 g2 tc te (zbe sub Y) l J H Q)
  (hRR:∀l C H' s' m,Inv X O Y H' s'->Q (.ref l) H'->s'.heap.Ns C m->s.heap.objs.size<=C->H' C=none->RR (.ref l) C (.ok .next) s') :
  wpAny (model X.prog X.w) X.A (newList []) (λacc s₃=>wpAny (model X.prog X.w) X.A (newFunctionEnv scope X.env.globals cl [] X.env.qual none .none (some X.env)) (λcenv s₄=>
   codeAny (model X.prog X.w) X.A (.compStart (.ListComp elt [⟨tg,iter,[],0⟩,⟨tg2,iter2,ifs,0⟩] scope pos) 0 (.ref it) acc {cenv with scope:=relabel scope X.env}) (RR acc cenv.locals) s₄) E s₃) E s:=by
 have hlt:∀b∈fp,b<s.heap.objs.size:=λb hb=>let⟨o,e,_⟩:=T.obj _ _ st b hb;YAm e
 have hl0:H s.heap.objs.size=none:=I.hok.fresh (YAj _);obtain⟨W,⟨m0,w0⟩,turn⟩:=q s.heap.objs.size hl0;refine YAX ?_
 -- the list is laid
 have I3:Inv X O Y (upd H s.heap.objs.size (.lst [])) {s with heap:=s.heap.push {cls:=.type "list",data:=.seq ([]:List Value).toArray},toks:=s.toks}:=I.lnew (its:=[]) .nil (YAC _);generalize hs3:({s with heap:=s.heap.push {cls:=.type "list",data:=.seq ([]:List Value).toArray},toks:=s.toks}:Shared)=s3 at I3;have e3:({s with heap:=s.heap.push {cls:=.type "list",data:=.seq ([]:List Value).toArray}}:Shared)=s3:=hs3;have k3:∀b o,s.heap.get? b=some o->s3.heap.get? b=some o:=λb o e=>by rw[<-hs3];exact YAd _ e
 have z3:s.heap.objs.size<=s3.heap.objs.size:=by rw[<-hs3];show _<=(s.heap.push _).objs.size;rw[YBk];exact YDL _
 have f3:∀b∈fp,FpOk X O (upd H s.heap.objs.size (.lst [])) b:=λb hb=>⟨by rw[zaf (YAv (hlt b hb))];exact(hf b hb).1,(hf b hb).2⟩;have lt3:∀b∈fp,b<s3.heap.objs.size:=λb hb=>YAt (hlt b hb) z3;have st3:tn 0 s3.heap:=T.keep _ _ _ st λb _ o e=>k3 b o e;refine YCZ hS.nocell (by intro y hy;simp at hy) (λh₁ hns₁ hsb₁=>?_) hS.kind;have k4:∀b o,s3.heap.get? b=some o->h₁.get? b=some o:=λb o e=>hsb₁.extBut b o (YAv (YAm e)) (YAd _ e);have ok4:=zfp (J:=J) (it:=it) (tn:=tn) I3 hS hcl hcl2 f3 lt3;have I4:=zc2 (t':=s3.toks+([]:List (Str×Value)).length) I3 hS hcl hcl2 ok4 hns₁ k4;have st4:tn 0 h₁:=T.keep _ _ _ st3 λb _ o e=>k4 b o e
 -- what stays true of the iterator's objects
 have stat:∀{H':Hp},(∀b∈fp,H' b=none)->∀b∈fp,FpOk (zaq X Nc scope cl s3.heap.objs.size s3 (upd H s.heap.objs.size (.lst [])) fp) [] H' b:=λhn b hb=>
  ⟨hn b hb,(ok4.exf b hb).1,ok4.exfs b hb,.inl hb,(ok4.exf b hb).2,λp hp=>absurd (show p∈([]:List (Addr×Obj))from hp) (by simp)⟩
 have loop:∀s₄:Shared,s₄={s3 with heap:=h₁,toks:=s3.toks+([]:List (Str×Value)).length} ->
   codeAny (model X.prog X.w) X.A (.compLoop (.ListComp elt [⟨tg,iter,[],0⟩,⟨tg2,iter2,ifs,0⟩] scope pos) 0 (.ref it) (.ref s.heap.objs.size) (compEnvC scope cl s3.heap.objs.size X.env)) (RR (.ref s.heap.objs.size) s3.heap.objs.size) s₄:=by
  rintro s₄ rfl;refine YDY rfl (λn s'=>∃i xs H',Inv (zaq X Nc scope cl s3.heap.objs.size s3 (upd H s.heap.objs.size (.lst [])) fp) [] (zbe sub Y) H' s'/\tn i s'.heap/\(∀b∈fp,H' b=none)/\W i n xs H') ?_ m0
   ⟨0,[],_,I4,st4,λb hb=>(f3 b hb).1,w0⟩
  rintro n s5 ⟨i,xs,H5,I5,st5,fr5,w5⟩;show wpAny _ X.A ((compTurn (.ListComp elt [⟨tg,iter,[],0⟩,⟨tg2,iter2,ifs,0⟩] scope pos) 0 (.ref it) (.ref s.heap.objs.size) (compEnvC scope cl s3.heap.objs.size X.env)).onRaise (λx=>do noteFrame x (compEnvC scope cl s3.heap.objs.size X.env);theTreesLotGoes x)) _ _ s5;refine YEi ?_;rw[zfU];refine YAa (YBp (YAa ?_));obtain⟨hl5,w5⟩:=turn i n xs H5 w5;rcases w5 with⟨stop,qn⟩|⟨go,N,hN,step⟩
  .refine thn (T.done (zaq X Nc scope cl s3.heap.objs.size s3 (upd H s.heap.objs.size (.lst [])) fp) rfl rfl rfl hc i [] s5 (zbe sub Y) H5 _ I5 (stat fr5) st5 stop) λr s6 ⟨hr,I6⟩=>?_;subst hr;obtain⟨m6,hn6,_⟩:=I6.loc;exact YAf (hRR _ _ H5 s6 m6 (zeD I3 f3 I6) qn hn6 z3 I6.free)
  .refine thn (T.item (zaq X Nc scope cl s3.heap.objs.size s3 (upd H s.heap.objs.size (.lst [])) fp) rfl rfl rfl hc i [] s5 (zbe sub Y) H5 _ I5 (stat fr5) st5 go) λr s6 ⟨u,hr,h6⟩=>?_;subst hr;refine YAa (thn h6 λ_ s7 ⟨x,H7,I7,r7,y7,st7,fr7⟩=>?_);have I7':=I7.pinned (stat fr7) (T.obj _ _ st7);have again:∀{Y8:St}{H8:Hp}{ys:List V}{s8:Shared},Inv (zaq X Nc scope cl s3.heap.objs.size s3 (upd H s.heap.objs.size (.lst [])) fp) ([]++zeN fp s7.heap) Y8 H8 s8->(∀(i j:Nat),sub[i]?=some (some j)->Y8[i]?=(zbe sub Y)[i]?)->N ys H8 ->
     ∃m,m<n/\∃i xs H',Inv (zaq X Nc scope cl s3.heap.objs.size s3 (upd H s.heap.objs.size (.lst [])) fp) [] (zbe sub Y) H' s8/\tn i s8.heap/\(∀b∈fp,H' b=none)/\W i m xs H':=λ{Y8 H8 ys s8} I8 k8 n8=>by
    obtain⟨m',hm,w8⟩:=hN ys H8 n8;refine⟨m',hm,i+1,ys,H8,?_,T.keep _ _ _ st7 λb hb o e=>(I8.pin (b,o) (YAl _ (YAl _ (zbc hb e)))).1,λb hb=>?_,w8⟩
    .refine I8.unpinned.weak ?_ λk v e=>?_
     .rw[I8.len];exact(zdU sub Y).trans hS.len
     .obtain⟨j,e1,_⟩:=zc4 e;rw[k8 k j e1];exact e
    .obtain⟨o,e,d⟩:=T.obj _ _ st7 b hb;exact(I8.pin (b,o) (YAl _ (YAl _ (zbc hb e)))).2.1
   refine YAa (YA2 (hg cl _ s3 _ fp _ s7 (zbe sub Y) H7 x u _ I7' r7 (gk2 _ _ _ _ (gk _ _ _ _ (step x H7 y7)))) (λ_ s8 ⟨Y8,H8,I8,⟨q8,k8⟩,hga⟩=>?_) λ_ _ z=>False.elim z);refine YAa (wpAny_tests_nil ?_);refine YAa (YA2 (hI2 cl _ s3 _ fp _ s8 Y8 H8 _ I8 q8) (λxv s9 h9=>?_) λ_ _ z=>False.elim z);refine YAa (YBp (YAa (YEj (hs2 cl s3.heap.objs.size s3 (upd H s.heap.objs.size (.lst [])) fp xv) (YAa (YAZ (YA2 h9 (λitv s10 h10=>?_) λ_ _ z=>False.elim z))))));obtain⟨it2,fp2,tn2,J2,H10,e10,I10,T2,st10,f10,q10⟩:=h10;subst e10;refine YAa (wpAny_runOwn (zlk (X:=zaq X Nc scope cl s3.heap.objs.size s3 (upd H s.heap.objs.size (.lst [])) fp) hc rfl I10 T2 st10 f10 (hg2 cl _ s3 _ fp) (hga Y rfl) (hi cl _ s3 _ fp) (he cl _ s3 _ fp) q10 λys H11 s11 I11 n11=>?_));exact YAf ⟨rfl,again I11 k8 n11⟩
 exact codeAny_compStart_list (loop _ rfl) (T.self _ 0 _ _ _ st4 (loop _ rfl))
def znw(hc:X.calm=true)(hN:X.N.Nodup)(hiN:X.N[i]?=some y)(hy:X.env.scope.names.lookup y=some .local)(hS:CompScope X.N X.env.scope scope Nc sub)(hI:PI X tg iter wi)
  (hg:∀cl L s0 H0 ex,PG (zaq X Nc scope cl L s0 H0 ex) tg g) (gk:ze3 sub g) (hI2:∀cl L s0 H0 ex,PI (zaq X Nc scope cl L s0 H0 ex) tg2 iter2 wi2) (hg2:∀cl L s0 H0 ex,PG (zaq X Nc scope cl L s0 H0 ex) tg2 g2) (gk2:zpw sub g g2) (hs2:∀cl L s0 H0 ex x,foldedSetIterable iter2 (zaq X Nc scope cl L s0 H0 ex).env x=pure x) (gm:zeF g)
  (hi:∀cl L s0 H0 ex,PIfs (zaq X Nc scope cl L s0 H0 ex) ifs tc) (he:∀cl L s0 H0 ex,PE (zaq X Nc scope cl L s0 H0 ex) elt te)
  (hsw:swapsWith (.ListComp elt [⟨tg,iter,[],0⟩,⟨tg2,iter2,ifs,0⟩] scope pos) (some (.Name y py)) spos.line X.env=pure true:=by rfl)
  (hs:∀x,foldedSetIterable iter X.env x=pure x:=by intro _;rfl):PS X (.Assign [.Name y py] (.ListComp elt [⟨tg,iter,[],0⟩,⟨tg2,iter2,ifs,0⟩] scope pos) spos) (tAsg (zmG sub wi g wi2 g2 tc te) (zcY i)):=by
 intro O s Y H D I h;obtain⟨cl,hcl0,hcl,hcl2⟩:=zbJ (zdm I hS);rw[exec_Assign_Name_used _ _ _ _ hsw];refine YAa (YBp (YAa ?_));show wpAny _ X.A (do let _ <-comprehension (.ListComp elt [⟨tg,iter,[],0⟩,⟨tg2,iter2,ifs,0⟩] scope pos) scope X.env _ (newList []) false (eval iter X.env) (some (assign (.Name y py) X.env))) _ _ s;refine YAa (YA2 (YCe (use:=some (assign (.Name y py) X.env)) (Q:=λ_ s'=>SP X O D .next s') rfl hs hcl0 hS.kind hS.names
  (thn (hI O s Y H _ I h) λxv s1 h1=>thn h1 λitv s2 h2=>?_)) (λ_ s' hq=>YAf (YAf hq)) λ_ _ e=>e)
 obtain⟨it,fp,tn,J,H2,e,I2,T,st2,f2,q⟩:=h2;subst e;refine zmX hc I2 hS hcl hcl2 T st2 f2 hg gk hI2 hg2 gk2 hs2 hi he gm q λl C H' s' m I' q' hn hC hfr=>?_;have nL:C≠X.env.locals:=YBi (YAt I2.lt hC);show wpAny _ X.A (assign (.Name y py) X.env (.ref l)) _ _ _;refine YDy (zf6 I' hN hiN (.inl hy) (v:=.ref l) rfl (λs6 I6 ⟨a,sb6,ha⟩=>?_) (.inr hy));have nA:C≠a:=λz=>by
  rcases ha with e|e
  .exact nL (z.trans e)
  .obtain⟨v,w⟩:=I2.cell y a e;exact absurd (YAt w.lt (by rw[<-z];exact hC)) (YBe _)
 refine⟨m,hn.sameBut sb6 nA,λh' sb=>?_⟩;refine⟨_,H',I6.turned (it:=C) (t':=s6.toks) (λb o hb e=>(sb.2 b hb).trans e) hfr nL (.inr (YAU I2.sz hC)) (λx c e z=>by
  obtain⟨v,w⟩:=I2.cell x c e;exact absurd (YAt w.lt (by rw[z];exact hC)) (YBe _)) (λp hp z=>
  absurd (YAt (YAm (I2.pin p hp).1) (by rw[z];exact hC)) (YBe _)),q'⟩
end
end L2
set_option maxHeartbeats 1000000
namespace L2
open PySem
def Up(xs:Array Nat):Prop:=xs.toList.Pairwise (·<·)
def Up.lt{xs:Array Nat}(h:Up xs){i j a b:Nat}(hij:i<j)(ha:xs[i]?=some a)(hb:xs[j]?=some b):a<b:=by
 obtain⟨h1,e1⟩:=YBK.mp ha;obtain⟨h2,e2⟩:=YBK.mp hb
 have:=YA4.mp h i j (by simpa using h1) (by simpa using h2) hij
 simp only[YC0]at this;omega
def znB(xs:Array Nat)(j:Nat)(hu:Up xs):∀(fuel lo hi:Nat),hi-lo<=fuel->lo<=hi->hi<=xs.size->(∀i a,i<lo->xs[i]?=some a->a<j)->(∀i a,hi<=i->xs[i]?=some a->j<=a) ->
  SetTable.below.go xs j fuel lo hi<=xs.size/\(∀i a,i<SetTable.below.go xs j fuel lo hi->xs[i]?=some a->a<j)/\(∀i a,SetTable.below.go xs j fuel lo hi<=i->xs[i]?=some a->j<=a):=by
 intro fuel
 induction fuel with
 |zero=>
  intro lo hi h1 h2 h3 h4 h5;have e:lo=hi:=by omega
  subst e;unfold SetTable.below.go;exact⟨h3,h4,h5⟩
 |succ fuel ih=>
  intro lo hi h1 h2 h3 h4 h5;unfold SetTable.below.go;by_cases hl:lo<hi
  .rw[if_pos hl];have hm:(lo+hi) / 2<hi:=by omega
   have hm2:lo<=(lo+hi) / 2:=by omega
   have hs:(lo+hi) / 2<xs.size:=by omega
   have hg:xs[(lo+hi) / 2]?=some xs[(lo+hi) / 2]:=YA5 hs;have hd:xs.getD ((lo+hi) / 2) j=xs[(lo+hi) / 2]:=by simp[Array.getD,hs]
   dsimp only;rw[hd];by_cases hc:xs[(lo+hi) / 2]<j
   .rw[if_pos hc];refine ih _ _ (by omega) (by omega) h3 (λi a hi' ha=>?_) h5;by_cases e:i=(lo+hi) / 2
    .subst e;rw[hg]at ha;cases ha;exact hc
    .have:=hu.lt (show i<(lo+hi) / 2 by omega) ha hg
     omega
   .rw[if_neg hc];refine ih _ _ (by omega) hm2 (by omega) h4 (λi a hi' ha=>?_);by_cases e:i=(lo+hi) / 2
    .subst e;rw[hg]at ha;cases ha;omega
    .have:=hu.lt (show(lo+hi) / 2<i by omega) hg ha
     omega
  .rw[if_neg hl];have e:lo=hi:=by omega
   subst e;exact⟨h3,h4,h5⟩
def zg7(hu:Up xs)(j:Nat):SetTable.below xs j<=xs.size/\(∀i a,i<SetTable.below xs j->xs[i]?=some a->a<j)/\(∀i a,SetTable.below xs j<=i->xs[i]?=some a->j<=a):=by
 unfold SetTable.below;exact znB xs j hu xs.size 0 xs.size (by omega) (by omega) (YAj _) (λi a h=>absurd h (Nat.not_lt_zero _)) (λi a h e=>by
  obtain⟨h1,_⟩:=YBK.mp e;omega)
def zkL{xs:Array Nat}(hu:Up xs){i a:Nat}(h:xs[i]?=some a):SetTable.below xs (a+1)=i+1:=by
 obtain⟨h1,h2,h3⟩:=zg7 hu (a+1);obtain⟨hi,_⟩:=YBK.mp h;have c1:¬ SetTable.below xs (a+1)<=i:=λz=>by have:=h3 i a z h;omega
 have c2:¬ i+1<SetTable.below xs (a+1):=λz=>by
  have hs:i+1<xs.size:=by omega
  have e2:xs[i+1]?=some xs[i+1]:=YA5 hs
  have:=h2 (i+1) _ z e2
  have:=hu.lt (YCn i) h e2
  omega
 omega
def zkW(xs:Array Nat)(hu:Up xs):SetTable.below xs 0=0:=by
 obtain⟨h1,h2,_⟩:=zg7 hu 0;by_cases h:0<SetTable.below xs 0
 .have hs:0<xs.size:=by omega
  have:=h2 0 _ h (YA5 hs)
  omega
 .omega
structure TabOk(led:Bool)(t:SetTable):Prop where
 up:Up t.place
 nod:t.dummies=#[]
 led:t.led=led
theorem TabOk.fresh(f m:Nat)(led:Bool):TabOk led (SetTable.fresh f m led):=⟨by simp[Up,SetTable.fresh],rfl,rfl⟩
theorem TabOk.standIn{led:Bool}{t:SetTable}(h:TabOk led t)(n:Nat):TabOk led (t.standIn n):=
 ⟨by simp only[Up,SetTable.standIn,Array.toList_range];exact List.pairwise_lt_range,rfl,h.led⟩
theorem TabOk.orStandIn{led:Bool}{t:SetTable}(h:TabOk led t)(n:Nat):TabOk led (t.orStandIn n):=by
 unfold SetTable.orStandIn;split
 .exact h
 .exact h.standIn n
def TabOk.plainOff{led:Bool}{t:SetTable}(h:TabOk led t):TabOk led {t with plain:=false}:=⟨h.up,h.nod,h.led⟩
def zlL(j:Nat):SetTable.has #[] j=false:=by simp[SetTable.has]
theorem TabOk.put{led:Bool}{t:SetTable}(h:TabOk led t){j:Nat}(hj:t.place[SetTable.below t.place j]?≠some j):TabOk led (t.put j).1:=by
 refine⟨?_,?_,h.led⟩
 .show(SetTable.insertAt t.place (SetTable.below t.place j) j).toList.Pairwise (·<·);rw[SetTable.toList_insertAt];obtain⟨h1,h2,h3⟩:=zg7 h.up j;have e:=YBb (SetTable.below t.place j) t.place.toList;have hp:(t.place.toList.take (SetTable.below t.place j)++t.place.toList.drop (SetTable.below t.place j)).Pairwise (·<·):=by rw[e];exact h.up
  obtain⟨p1,p2,p3⟩:=YBS.mp hp;have lo:∀a∈t.place.toList.take (SetTable.below t.place j),a<j:=λa ha=>by
   obtain⟨i,hi,e⟩:=List.mem_take_iff_getElem.mp ha;exact h2 i a (by omega) (by rw[<-e];simp only[YC0];exact YA5 _)
  have hi:∀a∈t.place.toList.drop (SetTable.below t.place j),j<a:=λa ha=>by
   obtain⟨i,hi,e⟩:=List.mem_drop_iff_getElem.mp ha;have hs:SetTable.below t.place j+i<t.place.size:=by simp at hi;omega
   have ea:t.place[SetTable.below t.place j+i]?=some a:=by rw[<-e];simp only[YC0];exact YA5 _
   have g1:=h3 _ a (YBI _ _) ea;by_cases z:j=a
   .exfalso
    by_cases z2:i=0
    .subst z2;rw[Nat.add_zero,<-z]at ea;exact hj ea
    .have hs0:SetTable.below t.place j<t.place.size:=by omega
     have e0:t.place[SetTable.below t.place j]?=some t.place[SetTable.below t.place j]:=YA5 hs0;have g2:=h3 _ _ (YAj _) e0;have g3:=h.up.lt (show SetTable.below t.place j<SetTable.below t.place j+i by omega) e0 ea;omega
   .omega
  refine YBS.mpr ⟨p1,YBh.mpr ⟨hi,p2⟩,λa ha b hb=>?_⟩;rcases YAn.mp hb with z|z
  .subst z;exact lo a ha
  .exact p3 a ha b z
 .show(if SetTable.has t.dummies j=true then _ else _)=_;rw[h.nod,zlL]
  simp
def zjA(hd:t.dummies=#[])(f:Nat->Int)(h:Int):∀(fuel:Nat)(p:SetTable.Probe),p.dummy=none->∀j d,SetTable.probe.go t f h fuel p=some (.empty j d)->d=none/\t.place[SetTable.below t.place j]?≠some j:=by
 intro fuel
 induction fuel with
 |zero=>intro p _ j d e;unfold SetTable.probe.go at e;cases e
 |succ fuel ih=>
  intro p hp j d e;unfold SetTable.probe.go at e;have adv:∀q:SetTable.Probe,q.dummy=none->(t.advance q).dummy=none:=λq hq=>by
   unfold SetTable.advance;split
   .exact hq
   .exact hq
  cases hs:t.slot p.j with
  |empty=>
   rw[hs]at e;injection e with e
   injection e with e1 e2
   subst e1 e2;refine⟨hp,λz=>?_⟩;unfold SetTable.slot at hs;simp only[z,beq_self_eq_true,YCX]at hs;cases hs
  |dummy=>
   exfalso
   unfold SetTable.slot at hs;rw[hd,zlL]at hs;by_cases z:t.place[SetTable.below t.place p.j]?=some p.j
   .simp[z]at hs
   .simp[z]at hs
  |live i=>
   rw[hs]at e;dsimp only at e;split at e
   .cases e
   .exact ih _ (adv p hp) j d e
theorem TabOk.layNew{led:Bool}{t:SetTable}(h:TabOk led t)(es:Array (Int×Value))(hh:Int)(x:Value):TabOk led (PySem.layNew t es hh x).2.1:=by
 unfold PySem.layNew;cases e:t.freeSlot hh with
 |none=>exact h.standIn _
 |some r=>
  obtain⟨slot,wd⟩:=r;unfold SetTable.freeSlot at e;cases e2:t.probe (λ_=>hh+1) hh (t.probeStart hh)with
  |none=>rw[e2]at e;cases e
  |some m=>
   rw[e2]at e;cases m with
   |candidate _ _ _=>cases e
   |empty j d=>
    obtain⟨z1,z2⟩:=zjA h.nod (λ_=>hh+1) hh (10*SetTable.turns t.mask) (t.probeStart hh) rfl j d (by unfold SetTable.probe at e2;exact e2);subst z1;injection e with e
    injection e with e3 e4
    subst e3;exact(h.put z2).orStandIn _
theorem TabOk.relayAll{led:Bool}{t:SetTable}(h:TabOk led t)(es:Array (Int×Value))(wanted:Nat):TabOk led (PySem.relayAll t es wanted).2.1:=by
 unfold PySem.relayAll;cases e:t.relaid (es.map (·.1)) wanted with
 |none=>exact h.standIn _
 |some r=>
  obtain⟨t',order⟩:=r;dsimp only;have ok:TabOk led t':=by
   unfold SetTable.relaid SetTable.laid at e;cases e1:SetTable.layClean (SetTable.sizeAbove wanted-1) (es.map (·.1))with
   |none=>rw[e1]at e;cases e
   |some owner=>
    rw[e1]at e;injection e with e
    injection e with e2 e3
    subst e2;refine⟨?_,rfl,h.led⟩;show List.Pairwise (·<·) _;simp only[List.toList_toArray,List.pairwise_map];refine List.Pairwise.filterMap (R:=(·<·)) _ ?_ List.pairwise_lt_range;intro a a' haa b hb b' hb';simp only[Option.mem_def,Option.map_eq_some_iff]at hb hb';obtain⟨k,_,q⟩:=hb;obtain⟨k',_,q'⟩:=hb';subst q q';exact haa
  split
  .exact ok
  .exact h.standIn _
end L2
namespace L2
open PySem PyProof.Rows
def slot_setiter_next:Slot "set_iterator" "__next__" "set_iterator.__next__":=
 .of (owner:="set_iterator") (n:="__next__") (by rw[typeLookup_type,builtinLookup_eq_fast];kernel_rfl) (by decide +kernel) (by decide +kernel) (by decide +kernel)
  (by first|exact .inl (by decide +kernel)|exact .inr (by decide +kernel)) (by rw[isSubtype_type];kernel_rfl)
def zcr:Slot "set_iterator" "__iter__" "set_iterator.__iter__":=
 .of (owner:="set_iterator") (n:="__iter__") (by rw[typeLookup_type,builtinLookup_eq_fast];kernel_rfl) (by decide +kernel) (by decide +kernel) (by decide +kernel)
  (by first|exact .inl (by decide +kernel)|exact .inr (by decide +kernel)) (by rw[isSubtype_type];kernel_rfl)
def zcf:entryFor table "set_iterator.__next__"=some Builtin.«set_iterator.__next__»:=entryFor_of_fast (by kernel_rfl)
def zcq(a:Value):argsOk "set_iterator.__next__" ⟨[a],[]⟩:=by unfold argsOk;kernel_rfl
def zgr:entryFor table "set.__iter__"=some Builtin.«frozenset.__iter__»:=
 YEa (id':="frozenset.__iter__") (by kernel_rfl) rfl (by decide +kernel) (by kernel_rfl)
def zhF(a:Value):argsOk "set.__iter__" ⟨[a],[]⟩:=by unfold argsOk;kernel_rfl
structure SetRec(w:World)(h:Heap)(a:Addr)(es:Array (Int×Value))(ep:Nat)(t:SetTable):Prop where
 at_:h.get? a=some {cls:=.type "set",dict:=none,data:=.set es ep t}
 fits:t.fits es.size=true
 tab:TabOk (!w.params.followText "set-order") t
def SetRec.keep(r:SetRec w h a es ep t)(k:∀o,h.get? a=some o->h'.get? a=some o):SetRec w h' a es ep t:=⟨k _ r.at_,r.fits,r.tab⟩
def zgx{α:Type}{l:List α}{i:Nat}(h:i<l.length):(l[i]::l.eraseIdx i).Perm l:=by
 have e:l=l.take i++l[i]::l.drop (i+1):=by rw[List.getElem_cons_drop,YBb]
 have e2:l.eraseIdx i=l.take i++l.drop (i+1):=List.eraseIdx_eq_take_drop_succ l i;rw[e2];exact List.perm_middle.symm.trans (YDf e.symm)
def zf7{α:Type}(next:Nat->Nat):∀(fuel k:Nat)(left:List α)(out:Array α),left.length<=fuel->(pickOrder.go next fuel k left out).toList.Perm (out.toList++left):=by
 intro fuel
 induction fuel with
 |zero=>
  intro k left out h;have e:left=[]:=List.eq_nil_of_length_eq_zero (by omega);subst e;unfold pickOrder.go;rw[YAR]
 |succ fuel ih=>
  intro k left out h;unfold pickOrder.go;cases hl:left with
  |nil=>simp
  |cons x r=>
   have hi:next k % (x::r).length<(x::r).length:=Nat.mod_lt _ (by simp)
   have e:(x::r)[next k % (x::r).length]?=some (x::r)[next k % (x::r).length]:=YAe hi;rw[e];dsimp only;refine(ih _ _ _ (by rw[List.length_eraseIdx,if_pos hi];rw[hl]at h;omega)).trans ?_;rw[YBY,YAB,List.singleton_append];exact(zgx hi).append_left _
def zgi{α:Type}(next:Nat->Nat)(xs:Array α):(pickOrder next xs).toList.Perm xs.toList:=by
 unfold pickOrder
 have:=zf7 next xs.size 0 xs.toList #[] (by simp)
 simpa using this
section
variable{prog:Program}{w:World}{A:Around}{E:Value->Shared->Prop}{s:Shared}
def ziv{qf:Model}{src:Source}{n:Nat}{Q:Nat->Shared->Prop}(hn:n≠0)(h:∀i d,i<n->Q i {s with drawn:=d}):wpAny qf A (choose src n) Q E s:=λ_ _ _=>⟨hn,h _ _ (Nat.mod_lt _ (Nat.pos_of_ne_zero hn))⟩
def zfW{α:Type}:∀(n:Nat)(xs:List α)(s:Shared){qf:Model}{Q:List α->Shared->Prop},xs.length<=n->(∀ys d,ys.Perm xs->Q ys {s with drawn:=d})->wpAny qf A (drawOrder n xs) Q E s:=by
 intro n
 induction n with
 |zero=>
  intro xs s qf Q h hq;have e:xs=[]:=List.eq_nil_of_length_eq_zero (by omega);subst e;unfold drawOrder;exact YAf (hq [] s.drawn (.refl _))
 |succ n ih=>
  intro xs s qf Q h hq;cases xs with
  |nil=>unfold drawOrder;exact YAf (hq [] s.drawn (.refl _))
  |cons x r=>
   unfold drawOrder;refine YAa (ziv (by simp) λi d hi=>?_);have e:(x::r)[i]?=some (x::r)[i]:=YAe hi;rw[e];dsimp only;refine YAa (ih _ _ (by rw[List.length_eraseIdx,if_pos hi];omega) λys d' hp=>YAf ?_);exact hq _ d' ((hp.cons _).trans (zgx hi))
def zdQ(h:Q (w.params.followText "set-order") s):wpAny (model prog w) A setsByText Q E s:=by
 unfold setsByText;exact YAa (YCm (YAf h))
variable{a:Addr}{es:Array (Int×Value)}{ep:Nat}{t:SetTable}
def zcg(r:SetRec w s.heap a es ep t)(h:Q (es,ep,t) s):wpAny (model prog w) A (setState a) Q E s:=wpAny_setState_of r.at_ rfl r.fits h
def zh9(r:SetRec w s.heap a es ep t)(ht:w.params.followText "set-order"=true)(h:Q (pickOrder (w.params.setOrder a ep) es) s):wpAny (model prog w) A (setWalk a) Q E s:=by
 unfold setWalk;refine YAa (zcg r ?_);dsimp only;refine YAa (zdQ ?_);rw[if_pos ht];exact YAa (YCm (YAf h))
def zeU(r:SetRec w s.heap a es ep t)(ht:w.params.followText "set-order"=true)
  (h:Q (((pickOrder (w.params.setOrder a ep) es)[given]?).map λe=>(e.2,slot)) s):wpAny (model prog w) A (setNext a slot given ep) Q E s:=by
 unfold setNext;refine YAa (zcg r ?_);dsimp only;refine YAa (zdQ ?_);rw[if_pos ht];simp only[YCf,YA0,YB6];exact YAa (zh9 r ht (YAf h))
def zef(r:SetRec w s.heap a es ep t)(ht:w.params.followText "set-order"=false)(hd:(!t.plain&&decide (es.size>1))=false)
  (h:Q (match es[SetTable.below t.place slot]?,t.place[SetTable.below t.place slot]? with|some (_,x),some j=>some (x,j+1)|_,_=>none) s):wpAny (model prog w) A (setNext a slot given ep') Q E s:=by
 unfold setNext;refine YAa (zcg r ?_);dsimp only;refine YAa (zdQ ?_);rw[if_neg (by rw[ht];exact YAA)];show wpAny _ _ (if (!t.plain&&decide (es.size>1))=true then _ else _) _ _ _;rw[if_neg (by rw[hd];exact YAA)];have hl:t.led=true:=by have:=r.tab.led;rw[ht]at this;exact this
 show wpAny _ _ ((if (!t.led && !es.isEmpty)=true then unsupported "set:maker-not-led" else pure ()) >>= _) _ _ _;rw[if_neg (by rw[hl];simp)];exact YAa (YAf (YAf h))
def znr(r:SetRec w s.heap a es ep t)(h:Q (!w.params.followText "set-order"&&(!t.plain&&decide (es.size>1))) s):wpAny (model prog w) A (setDrawn a) Q E s:=by
 unfold setDrawn;refine YAa (zcg r ?_);dsimp only;exact YAa (zdQ (YAf h))
noncomputable def Goes(w:World)(a p:Addr)(es:Array (Int×Value))(ep:Nat)(t:SetTable)(first:Value)(ord:List (Int×Value))(i:Nat)(h:Heap):Prop:=
 (w.params.followText "set-order"=true/\ord=(pickOrder (w.params.setOrder a ep) es).toList/\∃k tk,first=.int k tk) \/
 (w.params.followText "set-order"=false/\∃ps n,first=.ref p/\h.get? p=some {cls:=.type "tuple",data:=.seq ps n}/\ps.size=es.size/\ord.length=es.size/\∀(j:Nat) e,ord[j]?=some e->∃k:Nat,ps[j]?=some (rawInt k)/\es[k]?=some e) \/
 (w.params.followText "set-order"=false/\(!t.plain&&decide (es.size>1))=false/\ord=es.toList/\∃k:Nat,first=rawInt k/\SetTable.below t.place k=i)
structure IterAt(w:World)(h:Heap)(it a p:Addr)(es:Array (Int×Value))(ep:Nat)(t:SetTable)(ord:List (Int×Value))(i:Nat):Prop where
 rc:SetRec w h a es ep t
 rec':∃first,h.get? it=some {cls:=.type "set_iterator",data:=.fields #[first,rawInt i,.ref a,rawInt es.size,rawInt ep]}/\Goes w a p es ep t first ord i h
 len:ord.length=es.size
end
def zlh:¬ (Value.type "set_iterator"=Value.type "set"):=by decide +kernel
def zgp:¬ (Value.type "set_iterator"=Value.type "tuple"):=by decide +kernel
section
variable{prog:Program}{w:World}{A:Around}{E:Value->Shared->Prop}{s:Shared}{it a p:Addr}{es:Array (Int×Value)}{ep:Nat}{t:SetTable}{ord:List (Int×Value)}{i:Nat}
def IterAt.ty(x:IterAt w s.heap it a p es ep t ord i):s.TypeIs (.ref it) "set_iterator":=let⟨_,e,_⟩:=x.rec';⟨_,e,rfl⟩
def zfz{h h':Heap}{f f':Value}(x:IterAt w h it a p es ep t ord i)(hg':Goes w a p es ep t f' ord (i+1) h')
  (hs:Heap.SameBut it h h') (e':h'.get? it=some {cls:=.type "set_iterator",data:=.fields #[f',rawInt (i+1:Nat),.ref a,rawInt es.size,rawInt ep]}):IterAt w h' it a p es ep t ord (i+1):=by
 have ne:a≠it:=λz=>by
  obtain⟨f,e,_⟩:=x.rec';have q:=x.rc.at_;rw[z,e]at q;exact zlh (congrArg Obj.cls (Option.some.inj q))
 exact⟨x.rc.keep λo e=>(hs.2 a ne).trans e,⟨f',e',hg'⟩,x.len⟩
def zfM{e:Int×Value}{Q:Option Value->Shared->Prop}(x:IterAt w s.heap it a p es ep t ord i)(he:ord[i]?=some e)
  (hQ:∀h',IterAt w h' it a p es ep t ord (i+1)->Heap.SameBut it s.heap h'->Q (some e.2) {s with heap:=h'}):wpAny (model prog w) A (pyNext (.ref it)) Q E s:=by
 obtain⟨f,hf,hg⟩:=id x.rec';unfold pyNext;refine YAa (YCK (YA3 (name:=Str.ofString "__next__") x.ty slot_setiter_next
  (YAY slot_setiter_next x.ty zcf ?_ (zcq _))))
 unfold Builtin.«set_iterator.__next__»;refine YAa (m:=slotArgs "__next__" 0 _) (YAf ?_);dsimp only;refine YAa (wpAny_fieldsOf hf rfl ?_);dsimp only[rawInt];refine YAa (YDg x.rc.at_ rfl x.rc.fits ?_);simp only[YCf,YA0,YB6];have ei:((i:Int)+1)=((i+1:Nat):Int):=by omega
 rcases hg with⟨ht,ho,k,tk,rfl⟩|⟨ht,ps,n,rfl,hp,hz,hl,hP⟩|⟨ht,hd,ho,k,rfl,hb⟩
 .dsimp only;simp only[YAE];refine YAa (zeU x.rc ht ?_);have e1:(pickOrder (w.params.setOrder a ep) es)[i]?=some e:=by rw[<-YA6,<-ho];exact he
  rw[e1];dsimp only[Option.map];refine YAa (YAW hf (by simp) λh1 e1 s1=>?_);refine YAa (YAW (s:={s with heap:=h1}) e1 (by simp) λh2 e2 s2=>?_);refine YAf ⟨e.2,rfl,YAf (hQ h2 (zfz (f:=.int k tk) (f':=.int (k.toNat:Nat) 0) x (.inl ⟨ht,ho,_,_,rfl⟩) (s1.trans s2) ?_) (s1.trans s2))⟩;rw[e2,ei];rfl
 .dsimp only;refine YAa (YBC hp rfl ?_);obtain⟨k,e1,e2⟩:=hP i e he;simp only[YAE,e1,rawInt];refine YAa ?_;unfold setNextDrawn;refine YAa (zcg x.rc ?_);simp only[YCf,YA0,YB6,e2];refine YAf ?_;refine YAa (YAW hf (by simp) λh2 e2 s2=>?_);have nep:p≠it:=λz=>by rw[z,hf]at hp;exact zgp (congrArg Obj.cls (Option.some.inj hp))
  refine YAf ⟨e.2,rfl,YAf (hQ h2 (zfz (f:=.ref p) (f':=.ref p) x (.inr (.inl ⟨ht,ps,n,rfl,(s2.2 p nep).trans hp,hz,hl,hP⟩)) s2 ?_) s2)⟩;rw[e2,ei];rfl
 .dsimp only[rawInt];simp only[YAE];refine YAa (zef x.rc ht hd ?_);have e1:es[i]?=some e:=by rw[<-YA6,<-ho];exact he
  have hi:i<es.size:=(YBK.mp e1).1;have hps:t.place.size=es.size:=by
   have:=x.rc.fits
   simp only[SetTable.fits,YAJ,beq_iff_eq,YCy]at this;exact this.1
  have e3:t.place[i]?=some t.place[i]:=YA5 (by omega);rw[hb,e1,e3];dsimp only;refine YAa (YAW hf (by simp) λh1 e1 s1=>?_);refine YAa (YAW (s:={s with heap:=h1}) e1 (by simp) λh2 e2 s2=>?_);refine YAf ⟨e.2,rfl,YAf (hQ h2 (zfz (f:=rawInt k) (f':=rawInt (t.place[i]+1:Nat)) x (.inr (.inr ⟨ht,hd,ho,t.place[i]+1,rfl,zkL x.rc.tab.up e3⟩)) (s1.trans s2) ?_) (s1.trans s2))⟩;rw[e2,ei];rfl
def zhh{s1:Shared}{A':Around}{Q:Option Value->Shared->Prop}(hh:A'.handled=none)(h:∀h',(∀b o,s1.heap.get? b=some o->h'.get? b=some o)->Q none {s1 with heap:=h'}){R:Fin->Shared->Prop} :
  wpAny (model prog w) A' (do let x <-newExc (Value.type "StopIteration") [];raiseNew x:Sem Fin) R (λe s'=>wpAny (model prog w) A (do
     let b <-isInstance e (Value.type "StopIteration")
     if b=true then pure none else throw e) Q E s') s1:=by
 refine YAa ?_;simp only[newExc,newTuple];refine YAa (YAX ?_ (by size_fits));refine YAa (m:=firstArgMember _ _) (YEj (a:=Value.none) (by first|rfl|(simp only[firstArgMember];rfl)) ?_);refine YAX ?_ (by size_fits);simp only[raiseNew];refine YAa (wpAny_handled ?_);rw[hh];refine YAa (YAf (wpAny_throw ?_));refine YAa (YCD (T:="StopIteration") (b:=true) ⟨_,YAr _ rfl,rfl⟩ YEb ?_);exact YAf (h _ λb o e=>YAd _ (YAd _ e))
def zgh{Q:Option Value->Shared->Prop}(hh:A.handled=none)(x:IterAt w s.heap it a p es ep t ord i)(he:i=es.size)
  (hQ:∀h',(∀b o,b≠it->s.heap.get? b=some o->h'.get? b=some o)->Q none {s with heap:=h'}):wpAny (model prog w) A (pyNext (.ref it)) Q E s:=by
 obtain⟨f,hf,hg⟩:=id x.rec';unfold pyNext;refine YAa (YCK (YA3 (name:=Str.ofString "__next__") x.ty slot_setiter_next
  (YAY slot_setiter_next x.ty zcf ?_ (zcq _))))
 unfold Builtin.«set_iterator.__next__»;refine YAa (m:=slotArgs "__next__" 0 _) (YAf ?_);dsimp only;refine YAa (wpAny_fieldsOf hf rfl ?_);dsimp only[rawInt];refine YAa (YDg x.rc.at_ rfl x.rc.fits ?_);simp only[YCf,YA0,YB6];rcases hg with⟨ht,ho,k,tk,rfl⟩|⟨ht,ps,n,rfl,hp,hz,hl,hP⟩|⟨ht,hd,ho,k,rfl,hb⟩
 .dsimp only;simp only[YAE];refine YAa (zeU x.rc ht ?_);have e1:(pickOrder (w.params.setOrder a ep) es)[i]?=none:=by
   rw[<-YA6,<-ho];exact YB8.mpr (by rw[x.len];omega)
  rw[e1];dsimp only[Option.map];refine YAa (YAW hf (by simp) λh1 e1 s1=>?_);exact zhh (A':=A.in1) (s1:={s with heap:=h1}) hh λh' k=>hQ h' λb o nb e=>k b o ((s1.2 b nb).trans e)
 .dsimp only;refine YAa (YBC hp rfl ?_);have e1:ps[i]?=none:=by simp;omega
  simp only[YAE,e1];refine YAa (YAW hf (by simp) λh1 e1 s1=>?_);refine YAa (YAW (s:={s with heap:=h1}) e1 (by simp) λh2 e2 s2=>?_);exact zhh (A':=A.in1) (s1:={s with heap:=h2}) hh λh' k=>hQ h' λb o nb e=>k b o (((s1.trans s2).2 b nb).trans e)
 .dsimp only[rawInt];simp only[YAE];refine YAa (zef x.rc ht hd ?_);have e1:es[i]?=none:=by simp;omega
  rw[hb,e1];dsimp only;refine YAa (YAW hf (by simp) λh1 e1 s1=>?_);exact zhh (A':=A.in1) (s1:={s with heap:=h1}) hh λh' k=>hQ h' λb o nb e=>k b o ((s1.2 b nb).trans e)
def zk8(r:SetRec w s.heap a es ep t)(hz:es.size<=sizeLine)
  (hQ:∀it p h' d ord,s.heap.objs.size<=it->(p=a\/s.heap.objs.size<=p)->(∀b o,s.heap.get? b=some o->h'.get? b=some o)->ord.Perm es.toList->IterAt w h' it a p es ep t ord 0->Q (.ref it) {s with heap:=h',drawn:=d}) :
  wpAny (model prog w) A (pyIter (.ref a)) Q E s:=by
 have hT:s.TypeIs (.ref a) "set":=⟨_,r.at_,rfl⟩;refine YDA hT F.slot_set_iter (YAY F.slot_set_iter hT zgr ?_ (zhF _));unfold Builtin.«frozenset.__iter__» Builtin.Frozenset.slot0;refine YAa (YAa (m:=slotArgs "__iter__" 0 _) (YAf ?_));dsimp only;unfold Builtin.Frozenset.addrOf;refine YAf ?_;refine YAa (m:=Builtin.Frozenset.sizeOf a) ?_;unfold Builtin.Frozenset.sizeOf;refine YAa (YDg r.at_ rfl r.fits (YAf ?_));refine YAa (znr r ?_);by_cases hdr:(!w.params.followText "set-order"&&(!t.plain&&decide (es.size>1)))=true
 .rw[if_pos hdr];have ht:w.params.followText "set-order"=false:=by
   rw[YAJ]at hdr
   simpa using hdr.1
  refine YAa (zfW es.size (List.range es.size) s (by simp) λys d hp=>?_);have hyl:ys.length=es.size:=by rw[hp.length_eq];simp
  refine YAa (YEc ?_ (by rw[YAc,hyl];exact hz));refine YAa (m:=setEpoch a) ?_;unfold setEpoch;have r1:SetRec w (s.heap.push {cls:=.type "tuple",data:=.seq (ys.map λ(i:Nat)=>rawInt i).toArray}) a es ep t:=r.keep λo e=>YAd _ e;refine YAa (zcg (s:={s with heap:=s.heap.push {cls:=.type "tuple",data:=.seq (ys.map λ(i:Nat)=>rawInt i).toArray},drawn:=d}) r1 (YAf ?_));refine YAa (YAX ?_ (by size_fits));refine YAf ⟨_,rfl,"set_iterator",_,⟨_,YAr _ rfl,rfl⟩,slot_setiter_next.lookup,?_⟩;refine hQ _ s.heap.objs.size _ d (ys.filterMap λj=>es[j]?) ?_ (.inr (YAj _)) (λb o e=>YAd _ (YAd _ e)) ?_ ?_
  .show s.heap.objs.size<=(s.heap.push _).objs.size;rw[YBk];omega
  .exact(hp.filterMap _).trans (YDf (filterMap_getElem?_range es))
  .have all:∀j∈ys,∃e,es[j]?=some e:=λj hj=>by
    have:=hp.mem_iff.mp hj
    exact⟨_,YA5 (YBg.mp this)⟩
   have key:∀(l:List Nat),(∀j∈l,∃e,es[j]?=some e)->(l.filterMap λj=>es[j]?).length=l.length/\∀(k:Nat) e,(l.filterMap λj=>es[j]?)[k]?=some e->∃j,l[k]?=some j/\es[j]?=some e:=by
    intro l
    induction l with
    |nil=>intro _;exact⟨rfl,λk e h=>by simp at h⟩
    |cons j r ih=>
     intro h;obtain⟨e0,he0⟩:=h j YAi;obtain⟨i1,i2⟩:=ih λj hj=>h j (YAp _ hj);rw[List.filterMap_cons_some (b:=e0) he0];refine⟨by rw[YAS,YAS,i1],λk e hk=>?_⟩;cases k with
     |zero=>simp at hk;subst hk;exact⟨j,rfl,he0⟩
     |succ k=>simpa using i2 k e (by simpa using hk)
   obtain⟨k1,k2⟩:=key ys all;refine⟨r1.keep λo e=>YAd _ e,⟨_,YAr _ rfl,.inr (.inl ⟨ht,_,_,rfl,YAd _ (YAr _ rfl),by simp[hyl],by rw[k1];exact hyl,λj e hj=>?_⟩)⟩,by rw[k1];exact hyl⟩;obtain⟨k,e1,e2⟩:=k2 j e hj;exact⟨k,by simp[e1],e2⟩
 .rw[if_neg hdr];refine YAa (YAf ?_);refine YAa (m:=setEpoch a) ?_;unfold setEpoch;refine YAa (zcg r (YAf ?_));refine YAa (YAX ?_ (by size_fits));refine YAf ⟨_,rfl,"set_iterator",_,⟨_,YAr _ rfl,rfl⟩,slot_setiter_next.lookup,?_⟩;cases ht:w.params.followText "set-order" with
  |true=>
   have hp:=zgi (w.params.setOrder a ep) es;refine hQ _ a _ s.drawn (pickOrder (w.params.setOrder a ep) es).toList (YAj _) (.inl rfl) (λb o e=>YAd _ e) hp ?_;exact⟨r.keep λo e=>YAd _ e,⟨_,YAr _ rfl,.inl ⟨ht,rfl,_,_,rfl⟩⟩,by rw[hp.length_eq];simp⟩
  |false=>
   have hd:(!t.plain&&decide (es.size>1))=false:=by rw[ht]at hdr;simpa using hdr
   refine hQ _ a _ s.drawn es.toList (YAj _) (.inl rfl) (λb o e=>YAd _ e) (.refl _) ?_;exact⟨r.keep λo e=>YAd _ e,⟨_,YAr _ rfl,.inr (.inr ⟨ht,hd,rfl,0,rfl,zkW _ r.tab.up⟩)⟩,by simp⟩
end
theorem zaX:∀{ks xs:List Int},ks.Nodup->(∀x∈ks,x∈xs)->ks.length<=xs.length
 |[],_,_,_=>YAC _
 |k::r,xs,nd,h=>by
  obtain⟨n1,n2⟩:=YBl.mp nd;have hk:k∈xs:=h k YAi;have ih:=zaX (xs:=xs.erase k) n2 λx hx=>(List.mem_erase_of_ne (show x≠k from λz=>n1 (z▸hx))).mpr (h x (YAp _ hx));rw[List.length_erase_of_mem hk]at ih
  have:0<xs.length:=List.length_pos_of_mem hk
  rw[YAS];omega
def keyV:Value->Int
 |.int k _=>k
 |_=>0
def keys(es:Array (Int×Value)):List Int:=es.toList.map λe=>keyV e.2
def AllInt(es:Array (Int×Value)):Prop:=∀e∈es.toList,∃k t,e=(hashInt k,Value.int k t)
structure SetInts(w:World)(h:Heap)(a:Addr)(xs:List Int):Prop where
 ex:∃es ep t,SetRec w h a es ep t/\AllInt es/\es.size<scanBound/\(keys es).Nodup/\∀k,k∈keys es↔k∈xs
theorem SetInts.keep(r:SetInts w h a xs)(k:∀o,h.get? a=some o->h'.get? a=some o):SetInts w h' a xs:=
 let⟨es,ep,t,r1,r2⟩:=r.ex
 ⟨es,ep,t,r1.keep k,r2⟩
def AllInt.elems(h:AllInt es):ElemsOf (intKind prog w) es.toList:=λe he=>by
 obtain⟨k,t,rfl⟩:=h e he;exact⟨⟨k,YDB _ _ _ _,rfl⟩,rfl⟩
def AllInt.perm(h:AllInt es)(p:es'.toList.Perm es.toList):AllInt es':=λe he=>h e (p.mem_iff.mp he)
def mem_keys(h:AllInt es)(k:Int):k∈keys es↔∃e∈es.toList,(intKind prog w).is k e.2=true:=by
 unfold keys;rw[YAF];constructor
 .rintro⟨e,he,rfl⟩;obtain⟨k,t,rfl⟩:=h e he;exact⟨_,he,YDB _ _ _ _⟩
 .rintro⟨e,he,q⟩;obtain⟨k',t,rfl⟩:=h e he;exact⟨_,he,((intKind prog w).inj _ _ _ q (YDB _ _ _ _)).symm⟩
section
variable{prog:Program}{w:World}{A:Around}{E:Value->Shared->Prop}{s:Shared}{a:Addr}
def zh8(r:SetRec w h a es ep t)(hf:t'.fits es'.size=true)(ht:TabOk (!w.params.followText "set-order") t') :
  SetRec w (h.update a (Obj.putSet es' t')) a es' (ep+1) t':=by
 refine⟨?_,hf,ht⟩;have q:=YBx (Obj.putSet es' t') r.at_ (by rw[putSet_of es' t' rfl];rfl);rw[putSet_of es' t' rfl]at q;exact q
def zgI(r:SetInts w s.heap a xs)(hr:xs.length+1<scanBound)
  (h:∀b h',Heap.SameBut a s.heap h'->SetInts w h' a (k::xs)->Q b {s with heap:=h'}):wpAny (model prog w) A (setAddHashed a (.int k tk) (hashInt k)) Q E s:=by
 obtain⟨es,ep,t,r1,ai,hb,nd,hm⟩:=r.ex;have hkey:(intKind prog w).is k (.int k tk)=true:=YDB _ _ _ _;have hlen:es.size<=xs.length:=by
  have e1:es.size=(keys es).length:=by unfold keys;simp
  rw[e1];exact zaX nd λx hx=>(hm x).mp hx
 unfold setAddHashed setAddHashedIn;refine YAZ (YAa (zcg r1 ?_));dsimp only;rw[byScan_of (knd:=intKind prog w) rfl hb ai.elems];simp only[↓reduceIte];unfold setAddByScan;refine YAa (YAa (YBr ?_));refine YAa (wpAny_setScan_of (knd:=intKind prog w) hkey r1.at_ rfl r1.fits ai.elems ?_);cases hr2:List.findIdx? (λe=>(intKind prog w).is k e.2) es.toList with
 |some j=>
  dsimp only;obtain⟨hj,hpj,_⟩:=List.findIdx?_eq_some_iff_getElem.mp hr2;have hk:k∈xs:=(hm k).mp ((mem_keys (prog:=prog) (w:=w) ai k).mpr ⟨_,YDP hj,hpj⟩);refine YAf (YAf ?_);exact h _ s.heap (Heap.SameBut.refl a s.heap) ⟨es,ep,t,r1,ai,hb,nd,λk'=>by
   rw[hm k',YAn];exact⟨.inr,λz=>z.elim (λe=>e▸hk) id⟩⟩
 |none=>
  dsimp only;have hk:k∉keys es:=λhk=>by
   obtain⟨e,he,q⟩:=(mem_keys (prog:=prog) (w:=w) ai k).mp hk
   have:=List.findIdx?_eq_none_iff.mp hr2 e he
   rw[q]at this;cases this
  have hperm:=layNew_perm t es (hashInt k) (.int k tk);have hfits:=layNew_fits t es (hashInt k) (.int k tk);have htab:=r1.tab.layNew es (hashInt k) (.int k tk);have hgw:∀(b:Bool){s₁:Shared}{Q':Unit->Shared->Prop},Q' () s₁->wpAny (model prog w) A (match b with|true=>rule "set.scan.the-table-gave-way"|false=>pure ()) Q' E s₁:=
   λb s₁ Q' hq=>by cases b<;>first|exact YAf hq|exact YBr hq
  show wpAny (model prog w) A (match layNew t es (hashInt k) (.int k tk)with|_=>_) _ _ _;generalize layNew t es (hashInt k) (.int k tk)=L at hperm hfits htab ⊢;obtain⟨es1,t1,wd,gave⟩:=L;dsimp only at hperm hfits htab ⊢;rw[YBY]at hperm;have ai1:AllInt es1:=λe he=>by
   rcases YAk.mp (hperm.mem_iff.mp he)with z|z
   .exact ai e z
   .rw[YAg]at z;exact⟨k,tk,z⟩
  have kp:(keys es1).Perm (keys es++[k]):=by
   have:=hperm.map λe:Int×Value=>keyV e.2
   rw[YAy]at this;exact this
  have hz1:es1.size=es.size+1:=by
   have:=hperm.length_eq
   rw[YAq]at this
   simpa using this
  have hb1:es1.size<scanBound:=by omega
  have nd1:(keys es1).Nodup:=kp.nodup_iff.mpr (YCz.mpr ⟨nd,by simp,λx hx y hy=>by rw[YAg]at hy;subst hy;exact λz=>hk (z▸hx)⟩);have hm1:∀k',k'∈keys es1↔k'∈k::xs:=λk'=>by
   rw[kp.mem_iff,YAk,YAg,YAn,hm k'];exact or_comm
  refine YAa (hgw _ ?_)
  -- the table as it is stored: plain stays or goes
  have fin:∀t2:SetTable,t2.fits es1.size=true->TabOk (!w.params.followText "set-order") t2->wpAny (model prog w) A (do
    storeSet a es1 t2
    if (!wd&&t2.tooFull)=true then do
      (match (relayAll t2 es1 (SetTable.grown es1.size)).2.2 with|true=>rule "set.scan.the-table-gave-way"|false=>pure ())
      storeSet a (relayAll t2 es1 (SetTable.grown es1.size)).1 (relayAll t2 es1 (SetTable.grown es1.size)).2.1
      pure (some true)
     else pure (some true)) (λx s'=>wpAny (model prog w) A (match x with|some added=>pure added|none=>setAddHashedIn a (.int k tk) (hashInt k) 99999) Q E s') E s:=λt2 hf2 ht2=>by
   refine YAa (wpAny_storeSet_of r1.at_ rfl ?_ (YDC hb1));have r2:=zh8 (es':=es1) (t':=t2) r1 hf2 ht2;split
   .have hp2:=relayAll_perm t2 es1 (SetTable.grown es1.size);have hf3:=relayAll_fits t2 es1 (SetTable.grown es1.size);have ht3:=ht2.relayAll es1 (SetTable.grown es1.size);generalize relayAll t2 es1 (SetTable.grown es1.size)=R at hp2 hf3 ht3 ⊢;obtain⟨es2,t3,gave2⟩:=R;dsimp only at hp2 hf3 ht3 ⊢;have hz2:es2.size=es1.size:=by simpa using hp2.length_eq
    have kp2:(keys es2).Perm (keys es1):=hp2.map _;refine YAa (hgw _ ?_);refine YAa (wpAny_storeSet_of (s:={s with heap:=_}) r2.at_ rfl ?_ (YDC (by omega)));refine YAf (YAf ?_);exact h _ _ ((YCj ..).trans (YCj ..)) ⟨es2,_,t3,zh8 r2 hf3 ht3,ai1.perm hp2,by omega,kp2.nodup_iff.mpr nd1,λk'=>(kp2.mem_iff).trans (hm1 k')⟩
   .refine YAf (YAf ?_);exact h _ _ (YCj ..) ⟨es1,_,t2,r2,ai1,hb1,nd1,hm1⟩
  split
  .refine YAa ?_;rw[hashByValue_scannable 8 rfl];refine YAf ?_;split
   .exact fin t1 hfits htab
   .exact fin _ (SetTable.fits_plain_off hfits) htab.plainOff
  .refine YAa (YAf ?_);simp only[↓reduceIte];exact fin t1 hfits htab
end
section
variable{prog:Program}{w:World}{A:Around}{R:Result->Shared->Prop}{I S:Addr}{fp wr:List Addr}{n:Nat}{P:Nat->Value->Prop}{St:Nat->Heap->Prop}
def zjo(W:Walks prog w A.in1 I fp wr n P St)(hSf:S∉fp)(val:Nat->Int)(hval:∀i v,P i v->∃t,v=.int (val i) t)(hb:n+1<scanBound) :
  ∀(k i:Nat)(s:Shared),n-i=k->i<=n->St i s.heap->SetInts w s.heap S ((List.range i).map val).reverse ->
   (∀h' tk,(∀b o,b∉S::wr->s.heap.get? b=some o->h'.get? b=some o)->SetInts w h' S ((List.range n).map val).reverse->R (.ok (.ret .none)) {s with heap:=h',toks:=tk}) ->
   codeAny (model prog w) A (.builtin "set.update.loop" ⟨[.ref S,.ref I],[]⟩) R s:=by
 have hSw:S∉wr:=λh=>hSf (W.sub _ h);intro k
 induction k with
 |zero=>
  intro i s hk hi hst hS hR;have hin:i=n:=by omega
  subst hin;refine YBE PyProof.Rows.F.entry_set_update_loop ?_;rw[YB9 YBW _];show wpAny _ A.in1 (pyNext (.ref I) >>= _) _ _ s;refine YAa (W.done s _ _ hst λh' tk hm=>YAf ?_);exact hR h' tk (λb o hb' e=>hm b o (λz=>hb' (YAp _ z)) e) (hS.keep λo e=>hm S o hSw e)
 |succ k ih=>
  intro i s hk hi hst hS hR;have hlt:i<n:=by omega
  refine YBE PyProof.Rows.F.entry_set_update_loop ?_;rw[YB9 YBW _];show wpAny _ A.in1 (pyNext (.ref I) >>= _) _ _ s;refine YAa (W.item i s _ _ hlt hst λv h1 tk1 hP hst' hm=>?_);obtain⟨t,rfl⟩:=hval i v hP;show wpAny _ A.in1 (holding [Value.int (val i) t] (setAdd S (.int (val i) t)) >>= _) _ _ _;refine YAa (YAZ ?_);unfold setAdd;refine YAZ (YAa ((intKind prog w).pyHash (k:=val i) (YDB _ _ _ _) ?_));refine zgI (s:={s with heap:=h1,toks:=tk1+1}) (xs:=((List.range i).map val).reverse) (hS.keep λo e=>hm S o hSw e) (by simp;omega) λb h2 sb hS2=>?_;refine YAf ⟨YCL YBW _,ih (i+1) _ (by omega) hlt (W.frame _ _ _ hst' λb hb o e=>(sb.2 b (λz=>hSf (z▸hb))).trans e) ?_ λh3 tk3 hm3 hS3=>?_⟩
  .rw[YDZ,YAy,YDh];exact hS2
  .exact hR h3 tk3 (λb o hb' e=>hm3 b o hb' ((sb.2 b (λz=>hb' (z▸YAi))).trans (hm b o (λz=>hb' (YAp _ z)) e))) hS3
end
section
variable{prog:Program}{w:World}{A:Around}{E:Value->Shared->Prop}{s:Shared}
def zir
  (h:Q₁ (.ref s.heap.objs.size) {s with heap:=s.heap.push {cls:=.type "set",dict:=none,data:=.set #[] 0 (.fresh 0 0 (!w.params.followText "set-order"))}}) :
  codeAny (model prog w) A (.call (.builtin "set.__new__") ⟨[.type "set",a],[]⟩) (wants Q₁ E) s:=by
 refine YDe ?_;show wpAny _ A.in1 (do checkBuiltinCall "set.__new__" ⟨[.type "set",a],[]⟩;again (.builtin "set.__new__" ⟨[.type "set",a],[]⟩)) _ _ s;refine YAa (YEj (PySem.F.newCall_set_1 a) (YAf ⟨YCL PySem.F.plain_set_new _,YBE PySem.F.entry_set_new ?_⟩));rw[YB9 PySem.F.plain_set_new _];unfold Builtin.«set.__new__» Builtin.Frozenset.newClass;have hsub:=sub_set_self;obtain⟨hp,g,d,tk,os⟩:=s;dsimp only
 wp_walk
 refine YCm (YAf ?_);dsimp only;simp only[newObj];exact YAa (wpAny_alloc (YAf (YAf h)))
def zgP{h:Heap}:SetInts w (h.push {cls:=.type "set",dict:=none,data:=.set #[] 0 (.fresh 0 0 (!w.params.followText "set-order"))}) h.objs.size []:=
 ⟨#[],0,_,⟨YAr _ rfl,by rfl,TabOk.fresh _ _ _⟩,λe he=>by simp at he,by decide,by simp[keys],λk=>by simp[keys]⟩
abbrev set0(led:Bool):Obj:={cls:=.type "set",dict:=none,data:=.set #[] 0 (.fresh 0 0 led)}
def ziG{l:Addr}{ns:List Int}{Q:Value->Shared->Prop}
  (hin:∀(led:Bool)(R:PySem.Fin->Shared->Prop)(E:Value->Shared->Prop),SetInts w (s.heap.push (set0 led)) s.heap.objs.size []->(∀h' tk,SetInts w h' s.heap.objs.size ns->(∀b o,s.heap.get? b=some o->h'.get? b=some o)->R (.done (.ret .none)) {s with heap:=h',toks:=tk}) ->
   wpAny (model prog w) A.in1.in1 (Builtin.«set.__init__» ⟨[.ref s.heap.objs.size,.ref l],[]⟩) R E {s with heap:=s.heap.push (set0 led)})
  (h:∀(h':Heap)(tk:Nat),SetInts w h' s.heap.objs.size ns->(∀b o,s.heap.get? b=some o->h'.get? b=some o)->Q (.ref s.heap.objs.size) {s with heap:=h',toks:=tk}) :
  wpAny (model prog w) A (call (.type "set") [.ref l]) Q E s:=by
 obtain⟨c,tl,hmro⟩:=YBF.mro;have hmade:=YBF.made;have hsub:=YBF.sub;refine wpAny_call (YDe ?_);show wpAny _ _ (callAny (.type "set") _) _ _ _;refine YAf ⟨YDp _ (by decide +kernel),YBE PySem.F.entry_type_call ?_⟩;rw[Around.under_plain (weight_type_call_type "set" [.ref l] []) rfl];have h1:=YBF.notType;have h2:=YBF.canCreate;have hct:=PySem.F.typeCall_set_1 (.ref l)
 repeat (any_goals (first|assumption|wp_step))
 refine YDl (zir (a:=.ref l) (E:=E) (Q₁:=λobj s₁=>obj=.ref s.heap.objs.size/\s₁={s with heap:=s.heap.push (set0 (!w.params.followText "set-order"))}) ⟨rfl,rfl⟩) λr s₁ hr=>?_;cases r with
 |error e=>exact hr
 |ok fl=>
  cases fl with
  |ret obj=>
   obtain⟨rfl,rfl⟩:=hr;have hSI:SetInts w (s.heap.push (set0 (!w.params.followText "set-order"))) s.heap.objs.size []:=zgP;generalize (!w.params.followText "set-order")=led at hSI ⊢;have hT:Shared.TypeIs {s with heap:=s.heap.push (set0 led)} (.ref s.heap.objs.size) "set":=⟨_,YAr _ rfl,rfl⟩;have hli:=YBF.init.lookup;have hbi:=YBF.init.bind (.ref s.heap.objs.size)
   repeat (any_goals (first|assumption|wp_step))
   refine YDl (codeAny_call_builtin (R:=wants (λr s₂=>r=.none/\∃h' tk,s₂={s with heap:=h',toks:=tk}/\SetInts w h' s.heap.objs.size ns/\(∀b o,s.heap.get? b=some o->h'.get? b=some o)) E)
    YBF.init.plain PySem.F.entry_set_init (check_set_init_1 hT (hin led _ _ hSI λh' tk a b=>⟨rfl,h',tk,rfl,a,b⟩))) λr₂ s₂ hr₂=>?_
   cases r₂ with
   |error e=>exact hr₂
   |ok fl₂=>
    cases fl₂ with
    |ret r=>
     obtain⟨rfl,h',tk,rfl,hS',hk'⟩:=hr₂
     repeat (any_goals (first|assumption|wp_step))
     exact h _ _ hS' hk'
    |_=>exact hr₂.elim
  |_=>exact hr.elim
def zq1(h:Heap)(a b:Obj)(f:b.isFreed=false):((h.push a).push b).get? (h.objs.size+1)=some b:=by rw[<-YBk h a];exact YAr _ f
def zsD{items:Array Value}{ns:List Int}(hi:IntsAre items.toList ns):(∀(i:Nat)(v:Value),items[i]?=some v->∃t,v=.int (ns.getD i 0) t)/\((List.range items.size).map λi=>ns.getD i 0)=ns:=
 ⟨λi v hv=>IntsAre.int_at hi i v (by rw[YA6];exact hv),by
  have hnl:items.size=ns.length:=by rw[<-hi.length];simp
  apply YCo
  .simp[hnl]
  .intro j h1 h2;simp[List.getD,YAe h2]⟩
def zkf{l:Addr}{items:Array Value}{ns:List Int}{led:Bool}{R:Result->Shared->Prop}{itO:Obj}{St:Nat->Heap->Prop}(hi:IntsAre items.toList ns)(hb:items.size+1<scanBound)(hl:l<s.heap.objs.size)(hSI:SetInts w (s.heap.push (set0 led)) s.heap.objs.size [])
  (W:Walks prog w A.in1.in1.in1 (s.heap.objs.size+1) [s.heap.objs.size+1,l] [s.heap.objs.size+1] items.size (λi v=>items[i]?=some v) St) (st:St 0 ((s.heap.push (set0 led)).push itO))
  (k:∀h' tk,SetInts w h' s.heap.objs.size ns->(∀b o,s.heap.get? b=some o->h'.get? b=some o)->R (.ok (.ret .none)) {s with heap:=h',toks:=tk}) :
  codeAny (model prog w) A.in1.in1 (.builtin "set.update.loop" ⟨[.ref s.heap.objs.size,.ref (s.heap.objs.size+1)],[]⟩) R {s with heap:=(s.heap.push (set0 led)).push itO}:=by
 obtain⟨hval,hns⟩:=zsD hi;refine zjo W (by simp only[YAn,YAP,YBU,not_or];exact⟨YAv (YCn _),YBi hl⟩) (λi=>ns.getD i 0) hval hb (items.size-0) 0 _ (by omega) (YAC _) st (hSI.keep λo e=>YAd _ e) λh' tk hm hS'=>?_;rw[hns]at hS';refine k h' tk ?_ λb o e=>?_
 .obtain⟨es,ep,t,q1,q2,q3,q4,q5⟩:=hS'.ex;exact⟨es,ep,t,q1,q2,q3,q4,λk=>by rw[q5 k,YDQ]⟩
 .have hb1:=YAm e;exact hm b o (by simp only[YAn,YAP,YBU,not_or];exact⟨YAv hb1,YAv (YA9 hb1)⟩) (YAd _ (YAd _ e))
def zgn(hh:A.handled=none)(hl:s.heap.IsList l items)(hi:IntsAre items.toList ns)(hb:items.size+1<scanBound)
  (h:∀(h':Heap)(tk:Nat),SetInts w h' s.heap.objs.size ns->(∀b o,s.heap.get? b=some o->h'.get? b=some o)->Q (.ref s.heap.objs.size) {s with heap:=h',toks:=tk}) :
  wpAny (model prog w) A (call (.type "set") [.ref l]) Q E s:=ziG (λled R E hSI k=>by
 obtain⟨⟨ocls,odict,odata,oslots⟩,hol,hcl,nl,hdl⟩:=hl;simp only at hcl hdl;subst hcl;subst hdl;have hol':(s.heap.push (set0 led)).get? l=some {cls:=.type "list",dict:=odict,data:=.seq items nl,slots:=oslots}:=YAd _ hol;have hsls:=PySem.F.sub_list_set;have hslf:=PySem.F.sub_list_frozenset;have hne:(Value.type "list"==Value.type "dict")=false:=by decide
 have hl1:(s.heap.push (set0 led)).IsList l items:=⟨_,hol',rfl,nl,rfl⟩;unfold Builtin.«set.__init__» noKeywords Builtin.Frozenset.updateFrom;generalize hPI:pyIter=PI
 wp_walk
 subst hPI;refine YCw hl1 ?_;have hlS:l<s.heap.objs.size:=YAm hol;have hz:(s.heap.push (set0 led)).objs.size=s.heap.objs.size+1:=YBk _ _;rw[hz];refine YAa (YDt (zkf hi hb hlS hSI (Walks.list (by simp[hh]) _ l (YAv (YA9 hlS)) items) ⟨⟨_,zq1 _ _ _ rfl,rfl,rfl⟩,hl1.push _⟩ λh' tk a b=>?_));exact YAf (YAf (k h' tk a b))) h
end
def zg9:splitId "set.__len__"=some ("set","__len__"):=by decide +kernel
def zeg:entryFor table "set_iterator.__iter__"=some Builtin.«dict_keyiterator.__iter__»:=
 YEa (id':="dict_keyiterator.__iter__") (by kernel_rfl) rfl (by decide +kernel) (by kernel_rfl)
def zet(a:Value):argsOk "set_iterator.__iter__" ⟨[a],[]⟩:=by unfold argsOk;kernel_rfl
def IterAt.frame{w:World}{h h':Heap}{it a p:Addr}{es:Array (Int×Value)}{ep:Nat}{t:SetTable}{ord:List (Int×Value)}{i:Nat}(x:IterAt w h it a p es ep t ord i)
  (k:∀b∈[it,a,p],∀o,h.get? b=some o->h'.get? b=some o):IterAt w h' it a p es ep t ord i:=by
 obtain⟨f,e,g⟩:=x.rec';refine⟨x.rc.keep λo e=>k a (by simp) o e,⟨f,k it (by simp) _ e,?_⟩,x.len⟩;rcases g with g|⟨ht,ps,n,e1,e2,r⟩|g
 .exact .inl g
 .exact .inr (.inl ⟨ht,ps,n,e1,k p (by simp) _ e2,r⟩)
 .exact .inr (.inr g)
def zjT{qf:Model}{A:Around}{E:Value->Shared->Prop}{s:Shared}{α:Type}{c:Prop}[Decidable c]{x y:Sem α}{Q:α->Shared->Prop}(hc:c)(h:wpAny qf A x Q E s):wpAny qf A (if c then x else y) Q E s:=by rw[if_pos hc];exact h
def zoJ{qf:Model}{A:Around}{E:Value->Shared->Prop}{s:Shared}{α:Type}{c:Prop}[Decidable c]{x y:Sem α}{Q:α->Shared->Prop}(hc:¬ c)(h:wpAny qf A y Q E s):wpAny qf A (if c then x else y) Q E s:=by rw[if_neg hc];exact h
section
variable{prog:Program}{w:World}{A:Around}{E:Value->Shared->Prop}{s:Shared}
def zl1{it a p:Addr}{es:Array (Int×Value)}{ep:Nat}{t:SetTable}{ord:List (Int×Value)}(hh:A.handled=none)(hl:ord.length=es.size) :
  Walks prog w A it [it,a,p] [it] es.size (λi v=>∃e,ord[i]?=some e/\v=e.2) (λi h=>IterAt w h it a p es ep t ord i)where
 sub:=λb hb=>by simp at hb;simp[hb]
 frame:=λi h h' st k=>st.frame k
 item:=λi s Q E' hi st hQ=>by
  have e:ord[i]?=some ord[i]:=YAe (by omega);refine zfM st e λh' st' sb=>?_;exact hQ _ h' s.toks ⟨_,e,rfl⟩ st' λb o hb e=>(sb.2 b (by simpa using hb)).trans e
 done:=λs Q E' st hQ=>zgh hh st rfl λh' k=>hQ h' s.toks λb o hb e=>k b o (by simpa using hb) e
 self:=λi s Q E' st hQ=>by
  refine YDA st.ty zcr (YAY zcr st.ty zeg ?_ (zet _));show wpAny _ _ (ret (.ref it)) _ _ s;exact YAf ⟨_,rfl,"set_iterator",_,st.ty,slot_setiter_next.lookup,hQ⟩
theorem zeQ:∀(l:List (Int×Value)),(∀e∈l,∃k t,e=(hashInt k,Value.int k t))->IntsAre (l.map (·.2)) (l.map λe=>keyV e.2)
 |[],_=>.nil
 |e::r,h=>by
  obtain⟨k,t,rfl⟩:=h e YAi;exact .cons k t (zeQ r λe he=>h e (YAp _ he))
def ziY{a:Addr}{xs:List Int}{Q:List Value->Shared->Prop}(hh:A.handled=none)(r:SetInts w s.heap a xs)
  (h:∀vs ns h' d tk,IntsAre vs ns->ns.Nodup->(∀k,k∈ns↔k∈xs)->(∀b o,s.heap.get? b=some o->h'.get? b=some o)->s.heap.objs.size<h'.objs.size->Q vs {s with heap:=h',drawn:=d,toks:=tk}) :
  wpAny (model prog w) A (collect (.ref a)) Q E s:=by
 obtain⟨es,ep,t,r1,ai,hb,nd,hm⟩:=r.ex;have hz:es.size<=sizeLine:=YDC hb;unfold collect;refine YAa (YDt (YBE entry_proto_collect' ?_));show wpAny _ _ (do again (.builtin "list.__iadd__" ⟨[<-newList [],.ref a],[]⟩)) _ _ s;refine YAa (YCM (YAf ⟨YDp _ (by decide +kernel),YBE entry_list_iadd' ?_⟩));show wpAny _ A.in1 (Builtin.List.listExtendWith (.ref s.heap.objs.size) (.ref a) (.ref s.heap.objs.size)) _ _ {s with heap:=s.heap.push (seqObj "list" #[] 0)};have ra:SetRec w (s.heap.push (seqObj "list" #[] 0)) a es ep t:=r1.keep λo e=>YAd _ e;have hTa:Shared.TypeIs {s with heap:=s.heap.push (seqObj "list" #[] 0)} (.ref a) "set":=⟨_,ra.at_,rfl⟩;have alt:a<s.heap.objs.size:=YAm r1.at_;unfold Builtin.List.listExtendWith;refine YAa (YCs hTa ?_);have h1:Builtin.List.listSameRef (.ref s.heap.objs.size) (.ref a)=false:=by simp[Builtin.List.listSameRef,YBi alt]
 have h2:(Value.type "set"==Value.type "list")=false:=by decide
 have h3:(Value.type "set"==Value.type "tuple")=false:=by decide
 simp only[h1,h2,h3,Bool.or_false,YA0,YB6];refine YAa (zk8 ra hz λit p h2 d ord hit hp k2 pm x=>?_);have lt2:s.heap.objs.size<it:=YAt (by rw[YBk];exact YCn _) hit;have hTb:Shared.TypeIs {s with heap:=h2,drawn:=d} (.ref a) "set":=⟨_,x.rc.at_,rfl⟩;refine YAa (YAZ ?_);unfold Builtin.List.listLengthHint;refine YAa (YDc hTb PySem.F.slot_set_len.lookup ?_);dsimp only;rw[zg9];dsimp only;refine YAa (YCD hTb sub_set_self ?_);refine zoJ (by decide) ?_;refine zjT (by decide +kernel) ?_;refine YAa (YCs hTb ?_);refine YAf ?_;refine zjT (by decide +kernel) ?_;refine YAa (YBr ?_);have hS1:h2.get? s.heap.objs.size=some {cls:=.type "list",data:=.seq #[]}:=k2 _ _ (YAr _ rfl);refine YAa ?_;show wpAny _ A.in1 (updateSeq s.heap.objs.size (·.push .none) >>=λ_=>updateSeq s.heap.objs.size (·.pop)) _ _ _;refine YAa (YDi (s:={s with heap:=h2,drawn:=d}) hS1 rfl ?_);have hS2:=YBx (Obj.mapSeq (·.push Value.none)) hS1 rfl;refine YDi (hz:=by seq_fits) hS2 rfl ?_;have hS3:=YBx (Obj.mapSeq (·.pop)) hS2 rfl;have oth:∀b o,b≠s.heap.objs.size->h2.get? b=some o->((h2.update s.heap.objs.size (Obj.mapSeq (·.push Value.none))).update s.heap.objs.size (Obj.mapSeq (·.pop))).get? b=some o:=λb o hb e=>
  (YBL _ _ (Ne.symm hb)).trans ((YBL _ _ (Ne.symm hb)).trans e)
 have nS:s.heap.objs.size∉[it,a,p]:=by
  simp only[YAn,YAP,YBU,not_or];refine⟨YAv lt2,YBi alt,?_⟩;rcases hp with z|z
  .rw[z];exact YBi alt
  .exact YAv (YAt (by rw[YBk];exact YCn _) z)
 have W:=(zl1 (prog:=prog) (w:=w) (A:=A.in1) (it:=it) (a:=a) (p:=p) (es:=es) (ep:=ep) (t:=t) (ord:=ord) hh x.len).toS;have x3:IterAt w ((h2.update s.heap.objs.size (Obj.mapSeq (·.push Value.none))).update s.heap.objs.size (Obj.mapSeq (·.pop))) it a p es ep t ord 0:=x.frame λb hb o e=>oth b o (λz=>nS (z▸hb)) e;refine YAf ⟨YCL PySem.F.plain_extend_loop _,codeAny_extend_loopS W hz _ nS _ es.size 0 _ _ _ rfl (YAC _) x3 hS3 (ItemsOf.nil _) λs' acc' c' hm' hS' hacc=>?_⟩;refine YAa (wpAny_load hS' ?_);refine YAf ?_;have ev:acc'.toList=ord.map (·.2):=by
  apply YCo
  .rw[YBc,hacc.1,YAc,x.len]
  .intro j j1 j2;obtain⟨e,e1,e2⟩:=hacc.2 j acc'.toList[j] (by rw[<-YA6];exact YAe j1);rw[e2,YCE];rw[YAe (by simpa using j2)]at e1;rw[Option.some.inj e1]
 have hord:∀e∈ord,∃k t,e=(hashInt k,Value.int k t):=λe he=>ai e (pm.mem_iff.mp he);have kp:(ord.map λe=>keyV e.2).Perm (keys es):=pm.map _;obtain⟨hh',g',d',tk',o'⟩:=s';have eg:g'=s.gens:=hm'.gens;have ed:d'=d:=hm'.drawn;have eo:o'=s.os:=hm'.os;subst eg ed eo;refine h acc'.toList (ord.map λe=>keyV e.2) hh' d' tk' (by rw[ev];exact zeQ ord hord) (kp.nodup_iff.mpr nd) (λk=>(kp.mem_iff).trans (hm k)) (λb o e=>?_) (YAm hS');have hb1:=YAm e;exact hm'.heap b o (by
  simp only[YAn,YAP,YBU,not_or];exact⟨YAv hb1,YAv (Nat.lt_trans hb1 lt2)⟩) (oth b o (YAv hb1) (k2 b o (YAd _ e)))
def zhE(hh:A.handled=none)(r:SetInts w s.heap a xs)(h64:xs.length<64)
  (h:∀l (out:List Value) ns' h' d tk n,IntsAre out ns'->ns'.Pairwise (·<·)->(∀k,k∈ns'↔k∈xs)->s.heap.objs.size<=l->h'.get? l=some {cls:=.type "list",data:=.seq out.toArray n} ->
   (∀b o,s.heap.get? b=some o->h'.get? b=some o)->Q (.ref l) {s with heap:=h',drawn:=d,toks:=tk}) :
  wpAny (model prog w) A (call (.builtin "sorted") [.ref a]) Q E s:=by
 refine YCC kind_sorted plain_sorted entry_sorted (args_sorted1 _) ?_;unfold Builtin.«sorted»;refine YAa (m:=checkCount "sorted" 1 1 _) (YAf ?_);refine YAa (ziY (A:=A.in1) hh r λvs ns h1 d tk hI hnd hm k1 hz1=>?_);have hl:vs.length<64:=by
  have e:=hI.length
  have:=zaX hnd λx hx=>(hm x).mp hx
  omega
 refine YAa (YCM ?_ (by rw[YAO];omega));have hoL:(h1.push (seqObj "list" vs.toArray 0)).get? h1.objs.size=some (seqObj "list" vs.toArray 0):=YAr _ rfl;refine YAa (YAZ (YAY YEd ⟨_,hoL,rfl⟩ YD0 (list_sort_tree hoL hI hl λout ns' a1 a2 a3=>⟨_,rfl,?_⟩) (YEe _)));refine YAf ⟨_,rfl,?_⟩;obtain⟨n,hat⟩:=sortedHeap_at (out:=out) hoL;refine h h1.objs.size out.toList ns' _ d tk n a1 ?_ (λk=>a2.mem_iff.trans (hm k)) (YBP hz1) hat λb o e=>?_
 .have nd':ns'.Nodup:=a2.nodup_iff.mpr hnd;exact(YA4.mpr λi j hi hj hij=>by
   have q1:=YA4.mp a3 i j hi hj hij;have q2:ns'[i]≠ns'[j]:=λz=>absurd ((YDN nd').mp z) (YAv hij);omega)
 .have hb:=YAm (k1 b o e);rw[sortedHeap_old (YAv hb) (by rw[YD8];exact YA9 hb)];exact YAd _ (k1 b o e)
end
end L2
namespace L2
open PySem PySem.Spec PyProof.Rows
def SetO(w:World)(a:Addr)(xs:List Int):HO:=.ext λh=>SetInts w h a xs
section
variable{X:Cx}
def zeo(r:SetInts w h a xs):ObjOk P w H h a (SetO w a xs):=
 ⟨r,let⟨_,_,_,q,_⟩:=r.ex;⟨_,q.at_⟩,λh1 h2 q k=>q.keep k⟩
def zjI(hc:X.calm=true):CallR X (.type "set") (λvs H Q=>∃(p:Addr)(ns:List Int),vs=[.ref p]/\SqL X.K H p (ns.map V.int)/\ns.length+1<scanBound/\∀l,H l=none->Q (.ref l) (upd H l (SetO X.w l ns))):=by
 intro O s Y H vs us Q I r h;obtain⟨p,ns,rfl,hq,hb,q⟩:=h;obtain⟨u,rfl,rx⟩:=zen r;cases rx;obtain⟨its,r',pl,hz⟩:=I.list hq;have hlen:=r'.length;rw[YAc]at hlen;refine zgn (ns:=ns) (I.ok.hd hc) pl.isList (by simpa using zgJ r') (by simp only[YAu];omega) λh' tk hS hk=>?_;exact⟨.ref s.heap.objs.size,_,I.laid hk (YAj _) (zeo hS),rfl,q _ I.fresh⟩
theorem zg3:∀{vs:List Value}{ns:List Int},IntsAre vs ns->Vals (ns.map V.int) vs
 |_,_,.nil=>.nil
 |_,_,.cons n t r=>.cons ⟨t,rfl⟩ (zg3 r)
def zdh(hc:X.calm=true):CallR X (.builtin "sorted") (λvs H Q=>∃p xs,vs=[.ref p]/\H p=some (SetO X.w p xs)/\xs.length<64 /\
  ∀(l:Addr)(ns:List Int),H l=none->ns.Pairwise (·<·)->(∀k:Int,k∈ns↔k∈xs)->Q (.ref l) (upd H l (.lst (ns.map V.int)))):=by
 intro O s Y H vs us Q I r h;obtain⟨p,xs,rfl,hq,hb,q⟩:=h;obtain⟨u,rfl,rx⟩:=zen r;cases rx;have hS:SetInts X.w s.heap p xs:=(I.hok p _ hq).1;refine zhE (I.ok.hd hc) hS hb λl out ns' h' d tk n hI hp hm hl he hk=>?_;have hn:H l=none:=I.hok.fresh hl;have hle:(ns'.map V.int).length<=sizeLine:=by
  have:=zaX (hp.imp λh=>YD1 h) λx hx=>(hm x).mp hx
  rw[YAc,YAO];omega
 refine⟨.ref l,upd H l (.lst (ns'.map V.int)),?_,rfl,q l ns' hn hp hm⟩;exact I.call (ch:=[]) (Un.laid hk hl hn) (I.hok.laid hk hl ⟨hle,out,n,zg3 hI,he⟩) I.bare λb hb=>absurd hb (by simp)
inductive IsI(K:qg)(H:Hp):V->String->Bool->Prop
 |bl_bool (b):IsI K H (.bl b) "bool" true
 |bl_int (b):IsI K H (.bl b) "int" true
 |bl_list (b):IsI K H (.bl b) "list" false
 |bl_tuple (b):IsI K H (.bl b) "tuple" false
 |bl_str (b):IsI K H (.bl b) "str" false
 |int_bool (i):IsI K H (.int i) "bool" false
 |int_int (i):IsI K H (.int i) "int" true
 |int_list (i):IsI K H (.int i) "list" false
 |int_tuple (i):IsI K H (.int i) "tuple" false
 |int_str (i):IsI K H (.int i) "str" false
 |non_bool:IsI K H .non "bool" false
 |non_int:IsI K H .non "int" false
 |non_list:IsI K H .non "list" false
 |non_tuple:IsI K H .non "tuple" false
 |non_str:IsI K H .non "str" false
 |str_bool (i):IsI K H (.str i) "bool" false
 |str_int (i):IsI K H (.str i) "int" false
 |str_list (i):IsI K H (.str i) "list" false
 |str_tuple (i):IsI K H (.str i) "tuple" false
 |str_str (i):IsI K H (.str i) "str" true
 |list_bool (p xs):SqL K H p xs->IsI K H (.ref p) "bool" false
 |list_int (p xs):SqL K H p xs->IsI K H (.ref p) "int" false
 |list_list (p xs):SqL K H p xs->IsI K H (.ref p) "list" true
 |list_tuple (p xs):SqL K H p xs->IsI K H (.ref p) "tuple" false
 |list_str (p xs):SqL K H p xs->IsI K H (.ref p) "str" false
 |tuple_bool (p xs):SqT K H p xs->IsI K H (.ref p) "bool" false
 |tuple_int (p xs):SqT K H p xs->IsI K H (.ref p) "int" false
 |tuple_list (p xs):SqT K H p xs->IsI K H (.ref p) "list" false
 |tuple_tuple (p xs):SqT K H p xs->IsI K H (.ref p) "tuple" true
 |tuple_str (p xs):SqT K H p xs->IsI K H (.ref p) "str" false
def zoi:CallR X (.builtin "isinstance") (λvs H Q=>∃x T b,vs=[x,.ty T]/\IsI X.K H x T b/\Q (.bl b) H):=by
 intro O s Y H vs us Q I r h;obtain⟨x,T,b,rfl,hi,q⟩:=h;obtain⟨u,w',rfl,rx,ry⟩:=zoh r;cases ry;have f0:EP X O Y Q (.bool b) s:=⟨.bl b,H,I,rfl,q⟩;have f1:EP X O Y Q (.bool b) {s with toks:=s.toks+1}:=⟨.bl b,H,I.tok _,rfl,q⟩;cases hi with
 |bl_bool=>cases rx;exact IsiPair.bool_bool f0
 |bl_int=>cases rx;exact IsiPair.bool_int f0
 |bl_list=>cases rx;exact IsiPair.bool_list f1
 |bl_tuple=>cases rx;exact IsiPair.bool_tuple f1
 |bl_str=>cases rx;exact IsiPair.bool_str f1
 |int_bool=>obtain⟨t,rfl⟩:=rx;exact IsiPair.int_bool f1
 |int_int=>obtain⟨t,rfl⟩:=rx;exact IsiPair.int_int f0
 |int_list=>obtain⟨t,rfl⟩:=rx;exact IsiPair.int_list f1
 |int_tuple=>obtain⟨t,rfl⟩:=rx;exact IsiPair.int_tuple f1
 |int_str=>obtain⟨t,rfl⟩:=rx;exact IsiPair.int_str f1
 |non_bool=>cases rx;exact IsiPair.NoneType_bool f1
 |non_int=>cases rx;exact IsiPair.NoneType_int f1
 |non_list=>cases rx;exact IsiPair.NoneType_list f1
 |non_tuple=>cases rx;exact IsiPair.NoneType_tuple f1
 |non_str=>cases rx;exact IsiPair.NoneType_str f1
 |str_bool=>obtain⟨t,rfl⟩:=rx;exact IsiPair.str_bool f1
 |str_int=>obtain⟨t,rfl⟩:=rx;exact IsiPair.str_int f1
 |str_list=>obtain⟨t,rfl⟩:=rx;exact IsiPair.str_list f1
 |str_tuple=>obtain⟨t,rfl⟩:=rx;exact IsiPair.str_tuple f1
 |str_str=>obtain⟨t,rfl⟩:=rx;exact IsiPair.str_str f0
 |list_bool p xs h=>cases rx;obtain⟨_,_,⟨o,n,e,c,_⟩,_⟩:=I.list h;exact IsiPair.list_bool e c f1
 |list_int p xs h=>cases rx;obtain⟨_,_,⟨o,n,e,c,_⟩,_⟩:=I.list h;exact IsiPair.list_int e c f1
 |list_list p xs h=>cases rx;obtain⟨_,_,⟨o,n,e,c,_⟩,_⟩:=I.list h;exact IsiPair.list_list e c f0
 |list_tuple p xs h=>cases rx;obtain⟨_,_,⟨o,n,e,c,_⟩,_⟩:=I.list h;exact IsiPair.list_tuple e c f1
 |list_str p xs h=>cases rx;obtain⟨_,_,⟨o,n,e,c,_⟩,_⟩:=I.list h;exact IsiPair.list_str e c f1
 |tuple_bool p xs h=>cases rx;obtain⟨_,_,⟨o,e,c,_⟩,_⟩:=I.tuple h;exact IsiPair.tuple_bool e c f1
 |tuple_int p xs h=>cases rx;obtain⟨_,_,⟨o,e,c,_⟩,_⟩:=I.tuple h;exact IsiPair.tuple_int e c f1
 |tuple_list p xs h=>cases rx;obtain⟨_,_,⟨o,e,c,_⟩,_⟩:=I.tuple h;exact IsiPair.tuple_list e c f1
 |tuple_tuple p xs h=>cases rx;obtain⟨_,_,⟨o,e,c,_⟩,_⟩:=I.tuple h;exact IsiPair.tuple_tuple e c f0
 |tuple_str p xs h=>cases rx;obtain⟨_,_,⟨o,e,c,_⟩,_⟩:=I.tuple h;exact IsiPair.tuple_str e c f1
def zns{bs:List Bool}:∀{us:List Value},Vals (bs.map V.bl) us->∀(i:Nat) v,us[i]?=some v->v=.bool (bs.getD i false):=by
 induction bs with
 |nil=>intro us r i v h;cases r;simp at h
 |cons b bs ih=>
  intro us r i v h;rw[YAb]at r;cases r with
  |cons r1 r2=>
   cases i with
   |zero=>simp at h;subst h;exact r1
   |succ i=>simpa using ih r2 i v (by simpa using h)
def zmj(bs:List Bool):((List.range bs.length).all λi=>bs.getD i false)=bs.all id:=by
 induction bs with
 |nil=>rfl
 |cons b bs ih=>
  rw[YAS,List.range_succ_eq_map,YDK,List.all_map,YDK,<-ih];rfl
def zis(hc:X.calm=true):CallR X (.builtin "all") (λvs H Q=>∃(p:Addr)(bs:List Bool),vs=[.ref p]/\SqL X.K H p (bs.map V.bl)/\Q (.bl (bs.all id)) H):=by
 intro O s Y H vs us Q I r h;obtain⟨p,bs,rfl,hq,q⟩:=h;obtain⟨u,rfl,rx⟩:=zen r;cases rx;obtain⟨its,r',pl,hz⟩:=I.list hq;have hlen:=r'.length;rw[YAc]at hlen;have hp:p<s.heap.objs.size:=let⟨o,n,e,_⟩:=pl;YAm e
 refine call_all_walk (YCw pl.isList ?_);refine⟨s.heap.objs.size,_,[s.heap.objs.size],_,_,_,λi=>bs.getD i false,rfl,Walks.list (A:=X.A.in1) (I.ok.hd hc) _ p (YAv hp) its.toArray,⟨⟨_,YAr _ rfl,rfl,rfl⟩,pl.isList.push _⟩,λi v s' Q' E' hP hQ=>?_,λh' tk hk=>?_⟩
 .rw[zns r' i v (by simpa using hP)];exact YBM hQ
 .rw[YAu,<-hlen,zmj];exact⟨.bl _,H,I.kept λb o e=>hk b o (by simpa using YAv (YAm e)) (YAd _ e),rfl,q⟩
def zrY(i j:Int):Prop:=0<j/\j<2^64
def zj0:OpR X (binaryOp .FloorDiv) (rI zrY λi j=>.int (i / j)):=opI λi j _ _ _ _ _ hc q=>by
 have hp:(0:Int)<j:=hc.1;have hl:j.natAbs.log2<9000:=by
  have h2:j<2^64:=hc.2;have h3:j.natAbs<2^64:=by omega
  have h4:j.natAbs.log2<64:=(Nat.log2_lt (by omega)).mpr h3;omega
 exact floordiv_int (by omega) (by rw[Int.fdiv_eq_ediv_of_nonneg i (by omega)];exact q) (.inl (PyProof.noPylong_of_log2 hl))
def zr7(K:qg):V->V->Hp->VK->Prop:=λx y H Q=>∃(p:Addr)(xs:List V)(j:Nat)(v:V),x=.ref p/\y=.int j/\SqL K H p xs/\xs[j]?=some v/\Q v H
def zkG:PGet X (zr7 X.K):=by
 intro O s Y H o i ov iv Q I r1 r2 h;obtain⟨p,xs,j,v,rfl,rfl,hq,he,q⟩:=h;cases r1;obtain⟨t,rfl⟩:=r2;obtain⟨its,r,pl,hz⟩:=I.list hq;obtain⟨u,eu,ru⟩:=r.get he;have hj:j<xs.length:=(YAh.mp he).1;have hn:=zfI;exact wpAny_getItem_list pl.isList (by omega) (by omega) (by simpa using eu) ⟨v,H,I,ru,q⟩
end
section
variable{P:Program}{w:World}{A:Around}{E:Value->Shared->Prop}{s:Shared}
def ziU(ht:s.heap.IsTupleIter it t i)(hl:s.heap.IsTuple t xs)(hx:xs[i]?=some x)
  (q:∀h',h'.IsTupleIter it t (i+1)->Heap.SameBut it s.heap h'->Q x {s with heap:=h'}):wpAny (model P w) A (Builtin.SmallTypes.nextOf (.ref it)) Q E s:=by
 obtain⟨o,e,c,d⟩:=id ht;obtain⟨ol,el,_,n,dl⟩:=hl;unfold Builtin.SmallTypes.nextOf;refine YAa (YA3 (name:=Str.ofString "__next__") ht.typeIs YB5 (YAY YB5 ht.typeIs F.entry_tuple_iterator_next ?_ (F.args_tuple_iterator_next_1 _)));show wpAny _ _ (field (.ref it) 0 >>= _) _ _ s;refine YAa (YBd e d (x:=.ref t) rfl ?_);show wpAny _ _ (if (Value.ref t==Value.none)=true then _ else _) _ _ s;rw[if_neg (show ¬ ((Value.ref t==Value.none)=true)from YAA)];show wpAny _ _ (field (.ref it) 1 >>= _) _ _ s;refine YAa (YBd e d (x:=.int i 0) rfl ?_);show wpAny _ _ (seqItems? (.ref t) >>= _) _ _ s;refine YAa (YBC el dl ?_);simp only[hx,YAE];refine YAa (wpAny_setField e d (by simp) (YAf ⟨x,rfl,YAf (q _ ⟨_,YBx _ e (Obj.isFreed_of_fields (Obj.data_mapFields d _)),(Obj.cls_mapFields ..).trans c,by rw[Obj.data_mapFields d];simp[rawInt]⟩ (YCj ..))⟩))
def zh7(hh:A.handled=none)(ht:s.heap.IsTupleIter it t i)(hl:s.heap.IsTuple t xs)(hx:xs[i]?=none)
  (q:∀h' e,Heap.ExtBut it s.heap h'->(∃o,h'.get? e=some o/\o.cls=.type "StopIteration")->E (.ref e) {s with heap:=h'}):wpAny (model P w) A (Builtin.SmallTypes.nextOf (.ref it)) Q E s:=by
 obtain⟨o,e,c,d⟩:=id ht;obtain⟨ol,el,_,n,dl⟩:=hl;unfold Builtin.SmallTypes.nextOf;refine YAa (YA3 (name:=Str.ofString "__next__") ht.typeIs YB5 (YAY YB5 ht.typeIs F.entry_tuple_iterator_next ?_ (F.args_tuple_iterator_next_1 _)));show wpAny _ _ (field (.ref it) 0 >>= _) _ _ s;refine YAa (YBd e d (x:=.ref t) rfl ?_);show wpAny _ _ (if (Value.ref t==Value.none)=true then _ else _) _ _ s;rw[if_neg (show ¬ ((Value.ref t==Value.none)=true)from YAA)];show wpAny _ _ (field (.ref it) 1 >>= _) _ _ s;refine YAa (YBd e d (x:=.int i 0) rfl ?_);show wpAny _ _ (seqItems? (.ref t) >>= _) _ _ s;refine YAa (YBC el dl ?_);simp only[hx,YAE];refine YAa (YBr (YAa (wpAny_setField e d (by simp) ?_)));show wpAny _ _ (newExc (.type "StopIteration") [] >>= _) _ _ _;refine YAa ?_;simp only[newTuple,newExc];refine YAa (YAX (YAa (m:=firstArgMember _ _) (YEj (a:=Value.none) (by first|rfl|(simp only[firstArgMember];rfl)) (YAX ?_ (by size_fits)))) (by size_fits));simp only[raiseNew];refine YAa (wpAny_handled ?_);first|rw[show A.in1.handled=none from hh]|rw[hh]
 exact YAa (YAf (wpAny_throw (q _ _ (((YCj ..).extBut.push _).push _) ⟨_,YAr _ rfl,rfl⟩)))
end
def zji(hh:A.handled=none)(it t:Addr)(hne:t≠it)(xs:Array Value) :
  Draws P w A it [it,t] xs.size (λi v=>xs[i]?=some v) (λi h=>h.IsTupleIter it t i/\h.IsTuple t xs)where
 live:=λ_ _ st=>let⟨o,e,_⟩:=st.1;⟨o,e⟩
 frame:=λ_ _ _ st k=>⟨let⟨o,e,r⟩:=st.1;⟨o,k it (by simp) o e,r⟩,let⟨o,e,r⟩:=st.2;⟨o,k t (by simp) o e,r⟩⟩
 item:=λi s Q E hi st q=>ziU st.1 st.2 (x:=xs[i]) (by simp[hi]) λh' a sb=>q _ h' s.toks (by simp[hi]) ⟨a,st.2.extBut sb.extBut hne⟩ sb
 done:=λs Q E st q=>zh7 hh st.1 st.2 (by simp) q
structure ZAp(z a b i j:Addr)(f g:List Addr):Prop where
 az:a≠z
 bz:b≠z
 iz:i≠z
 jz:j≠z
 ab:a≠b
 ai:a≠i
 aj:a≠j
 bi:b≠i
 bj:b≠j
 ij:i≠j
 zf:z∉f
 bf:b∉f
 jf:j∉f
 zg:z∉g
 bg:b∉g
 ig:i∉g
section
variable{P:Program}{w:World}{A:Around}{E:Value->Shared->Prop}{s:Shared}{z a b i j:Addr}{f g:List Addr}{n m k:Nat}{F1 F2:Nat->Value->Prop}{S1 S2:Nat->Heap->Prop}
def zbK{h h':Heap}{c:Addr}{l:List Addr}(sb:Heap.SameBut c h h')(hc:c∉l):∀b∈l,∀o,h.get? b=some o->h'.get? b=some o:=λb hb o e=>sb.extBut b o (λz=>hc (z▸hb)) e
def zi2{u v:Value}{Q:Value->Shared->Prop}(Z:ZAp z a b i j f g)(D1:Draws P w A i f n F1 S1)(D2:Draws P w A j g m F2 S2)(hz:IsZip s.heap z a b .none)(ha:IsPair s.heap a (.ref i) (.ref j))(hb:IsPair s.heap b u v)
  (s1:S1 k s.heap) (s2:S2 k s.heap) (k1:k<n) (k2:k<m)
  (q:∀x y h' tk t,F1 k x->F2 k y->t=s.heap.objs.size->IsZip h' z a b (rawInt t)->IsPair h' b x y->S1 (k+1) h'->S2 (k+1) h'->IsPair h' t x y ->
   (∀c o,c≠z->c≠b->c≠i->c≠j->s.heap.get? c=some o->h'.get? c=some o)->Q (.ref t) {s with heap:=h',toks:=tk}) :
  wpAny (model P w) A (Builtin.«zip.__next__» ⟨[.ref z],[]⟩) (λfin s'=>∃v,fin=.done (.ret v)/\Q v s') E s:=by
 show wpAny _ _ (field (.ref z) 2 >>= _) _ _ _;refine YAa (YBd hz rfl (x:=.bool false) rfl ?_);show wpAny _ _ (field (.ref z) 3 >>= _) _ _ _;refine YAa (YBd hz rfl (x:=.ref a) rfl (YAa (YBC ha rfl ?_)));show wpAny _ _ (Builtin.SmallTypes.ownedTupleIsFree (.ref z) >>= _) _ _ _;refine YAa ?_;unfold Builtin.SmallTypes.ownedTupleIsFree;refine YAa (YBd hz rfl (x:=.none) rfl (YAf ?_));simp only[YCX];refine YAa (YBr (YAa (YBd hz rfl (x:=.ref b) rfl (YAa (YAW hz (by simp) λh1 z1 e1=>?_)))))
 replace z1:IsZip h1 z a b .ellipsis:=z1
 refine YAa ?_;simp only[YCY,YD2,YDd,YEf];refine YAa (YAa (YC5 ?_));show wpAny _ _ (Builtin.SmallTypes.nextOf (.ref i) >>= _) _ _ _;have t1:S1 k h1:=D1.frame _ _ _ s1 (zbK e1 Z.zf);have t2:S2 k h1:=D2.frame _ _ _ s2 (zbK e1 Z.zg);refine YAa (D1.item k _ _ _ k1 t1 λx h2 tk2 px u1 e2=>YAf ?_);have b2:IsPair h2 b u v:=e2.extBut _ _ Z.bi (e1.extBut _ _ Z.bz hb);refine YAa (YBC b2 rfl (YAa (YC1 b2 λh3 b3 e3=>?_)))
 replace b3:IsPair h3 b x v:=b3
 refine YAa (wpAny_letGo (YAf ?_));refine YAa (YAa (YC5 ?_));show wpAny _ _ (Builtin.SmallTypes.nextOf (.ref j) >>= _) _ _ _;have t3:S2 k h3:=D2.frame _ _ _ (D2.frame _ _ _ t2 (zbK e2 Z.ig)) (zbK e3 Z.bg);refine YAa (D2.item k _ _ _ k2 t3 λy h4 tk4 py u2 e4=>YAf ?_);have b4:IsPair h4 b x v:=e4.extBut _ _ Z.bj b3;refine YAa (YBC b4 rfl (YAa (YC1 b4 λh5 b5 e5=>?_)))
 replace b5:IsPair h5 b x y:=b5
 refine YAa (wpAny_letGo (YAf (YAf (YAa (YBC b5 rfl (YAa (YEc ?_)))))));have sz:h5.objs.size=s.heap.objs.size:=by rw[e5.1,e4.1,e3.1,e2.1,e1.1]
 have z5:IsZip h5 z a b .ellipsis:=e5.extBut _ _ Z.bz.symm (e4.extBut _ _ Z.jz.symm (e3.extBut _ _ Z.bz.symm (e2.extBut _ _ Z.iz.symm z1)));have k5:∀c o,c≠z->c≠b->c≠i->c≠j->s.heap.get? c=some o->h5.get? c=some o:=λc o c1 c2 c3 c4 e=>e5.extBut _ _ c2 (e4.extBut _ _ c4 (e3.extBut _ _ c2 (e2.extBut _ _ c3 (e1.extBut _ _ c1 e))));have v1:S1 (k+1) h5:=D1.frame _ _ _ (D1.frame _ _ _ (D1.frame _ _ _ u1 (zbK e3 Z.bf)) (zbK e4 Z.jf)) (zbK e5 Z.bf);have v2:S2 (k+1) h5:=D2.frame _ _ _ u2 (zbK e5 Z.bg);have zl:z<h5.objs.size:=YAm z5;show wpAny _ _ (Builtin.SmallTypes.ownedTupleHandOut (.ref z) (.ref h5.objs.size) >>= _) _ _ _;refine YAa ?_;unfold Builtin.SmallTypes.ownedTupleHandOut;have z6:IsZip (h5.push {cls:=.type "tuple",data:=.seq #[x,y]}) z a b .ellipsis:=YAd _ z5;refine YAa (YAW z6 (by simp) λh7 z7 e7=>?_)
 replace z7:IsZip h7 z a b (rawInt h5.objs.size):=z7
 refine YAW z7 (by simp) λh8 z8 e8=>?_
 replace z8:IsZip h8 z a b (rawInt h5.objs.size):=z8
 have up:∀c o,c≠z->h5.get? c=some o->h8.get? c=some o:=λc o c1 e=>e8.extBut _ _ c1 (e7.extBut _ _ c1 (YAd _ e));refine YAf ⟨_,rfl,?_⟩;exact q x y h8 _ h5.objs.size px py sz z8 (up _ _ Z.bz b5) (D1.frame _ _ _ v1 λc hc o e=>up c o (λzz=>Z.zf (zz▸hc)) e) (D2.frame _ _ _ v2 λc hc o e=>up c o (λzz=>Z.zg (zz▸hc)) e)
  (e8.extBut _ _ (YBi zl) (e7.extBut _ _ (YBi zl) (YAr _ rfl))) λc o c1 c2 c3 c4 e=>up c o c1 (k5 c o c1 c2 c3 c4 e)
def zi3{Q:Fin->Shared->Prop}(Z:ZAp z a b i j f g)(D1:Draws P w A i f n F1 S1)(hz:IsZip s.heap z a b .none)(ha:IsPair s.heap a (.ref i) (.ref j))(s1:S1 n s.heap)
  (q:∀h' e,(∀c o,c≠z->c≠b->c≠i->c≠j->s.heap.get? c=some o->h'.get? c=some o)->(∃o,h'.get? e=some o/\o.cls=.type "StopIteration")->E (.ref e) {s with heap:=h'}) :
  wpAny (model P w) A (Builtin.«zip.__next__» ⟨[.ref z],[]⟩) Q E s:=by
 show wpAny _ _ (field (.ref z) 2 >>= _) _ _ _;refine YAa (YBd hz rfl (x:=.bool false) rfl ?_);show wpAny _ _ (field (.ref z) 3 >>= _) _ _ _;refine YAa (YBd hz rfl (x:=.ref a) rfl (YAa (YBC ha rfl ?_)));show wpAny _ _ (Builtin.SmallTypes.ownedTupleIsFree (.ref z) >>= _) _ _ _;refine YAa ?_;unfold Builtin.SmallTypes.ownedTupleIsFree;refine YAa (YBd hz rfl (x:=.none) rfl (YAf ?_));simp only[YCX];refine YAa (YBr (YAa (YBd hz rfl (x:=.ref b) rfl (YAa (YAW hz (by simp) λh1 z1 e1=>?_)))))
 replace z1:IsZip h1 z a b .ellipsis:=z1
 refine YAa ?_;simp only[YCY,YD2,YDd,YEf];refine YAa (YAa (YC5 ?_));show wpAny _ _ (Builtin.SmallTypes.nextOf (.ref i) >>= _) _ _ _;refine YAa (D1.done _ _ _ (D1.frame _ _ _ s1 (zbK e1 Z.zf)) λh2 e e2 he=>?_);obtain⟨oe,ho,hc⟩:=he;have z2:IsZip h2 z a b .ellipsis:=e2 _ _ Z.iz.symm z1;have ez:e≠z:=λx=>by subst x;rw[z2]at ho;cases ho;simp at hc
 refine YAW z2 (by simp) λh3 _ e3=>q h3 e (λc o c1 _ c3 _ x=>e3.extBut _ _ c1 (e2 _ _ c3 (e1.extBut _ _ c1 x))) ⟨oe,e3.extBut _ _ ez ho,hc⟩
def zfo{u v:Value}{Q:Option Value->Shared->Prop}(Z:ZAp z a b i j f g)(D1:Draws P w A.in1 i f n F1 S1)(D2:Draws P w A.in1 j g m F2 S2)(hz:IsZip s.heap z a b .none)(ha:IsPair s.heap a (.ref i) (.ref j))(hb:IsPair s.heap b u v)
  (s1:S1 k s.heap) (s2:S2 k s.heap) (k1:k<n) (k2:k<m)
  (q:∀x y h' tk t,F1 k x->F2 k y->t=s.heap.objs.size->IsZip h' z a b (rawInt t)->IsPair h' b x y->S1 (k+1) h'->S2 (k+1) h'->IsPair h' t x y ->
   (∀c o,c≠z->c≠b->c≠i->c≠j->s.heap.get? c=some o->h'.get? c=some o)->Q (some (.ref t)) {s with heap:=h',toks:=tk}):wpAny (model P w) A (pyNext (.ref z)) Q E s:=by
 have hT:s.TypeIs (.ref z) "zip":=⟨_,hz,rfl⟩;unfold pyNext;exact YAa (YCK (YA3 (name:=Str.ofString "__next__") hT YCt (YAY YCt hT YDR
  (zi2 Z D1 D2 hz ha hb s1 s2 k1 k2 λx y h' tk t a1 a2 a3 a4 a5 a6 a7 a8 a9=>YAf (q x y h' tk t a1 a2 a3 a4 a5 a6 a7 a8 a9)) (YDD _))))
def zf3(Z:ZAp z a b i j f g)(D1:Draws P w A.in1 i f n F1 S1)(hz:IsZip s.heap z a b .none)(ha:IsPair s.heap a (.ref i) (.ref j))(s1:S1 n s.heap)
  (q:∀h',(∀c o,c≠z->c≠b->c≠i->c≠j->s.heap.get? c=some o->h'.get? c=some o)->Q none {s with heap:=h'}):wpAny (model P w) A (pyNext (.ref z)) Q E s:=by
 have hT:s.TypeIs (.ref z) "zip":=⟨_,hz,rfl⟩;unfold pyNext;refine YAa (YCK (YA3 (name:=Str.ofString "__next__") hT YCt (YAY YCt hT YDR (zi3 Z D1 hz ha s1 λh' e hk he=>?_) (YDD _))));obtain⟨o,ho,hc⟩:=he;exact YAa (YCD (T:="StopIteration") (b:=true) ⟨o,ho,hc⟩ YEb (YAf (q _ hk)))
end
section
variable{X:Cx}{O:List (Addr×Obj)}{Y:St}{H:Hp}{s:Shared}{h':Heap}{ch:List Addr}{t':Nat}
def Inv.turnedLaid(I:Inv X O Y H s)(k:∀b u,b∉ch->s.heap.get? b=some u->h'.get? b=some u)(hf:∀b∈ch,FpOk X O H b)(hp:s.heap.objs.size<=a)(new:ObjOk X.prog X.w (upd H a o) h' a o) :
  Inv X O Y (upd H a o) {s with heap:=h',toks:=t'}:=by
 have hn:H a=none:=I.hok.fresh hp;have nch:∀b u,H b=some u->b∉ch:=λb u e z=>by rw[(hf b z).1]at e;cases e
 refine I.step (g':=s.gens) (d':=s.drawn) (ch:=ch) (λb hb=>⟨(hf b hb).2.2.2.1,(hf b hb).2.1,(hf b hb).2.2.2.2.1,(hf b hb).2.2.2.2.2⟩) (λb u _ _ hc e _=>k b u hc e) (λb u _ _ hc e _=>⟨u.slots,k b u hc e⟩)
  (λb u _ e n=>by rw[zaf (YAv (YAt (YAm e) hp))];exact n) (λb u hc e=>⟨u,k b u hc e⟩) (λb xs e=>by rw[zaf (zae e hn)];exact e) (λb u xs e=>by rw[zaf (zae e hn)];exact e)
  (λb ps e=>⟨#[],by rw[zaf (zae e hn),e];simp⟩) (λm hm=>?_) (λb u e=>?_) I.bare
 .obtain⟨o,es,ep,ho,r⟩:=hm;exact⟨o,es,ep,k _ o (λz=>(hf _ z).2.1 rfl) ho,r⟩
 .by_cases hb:b=a
  .subst hb;rw[zac]at e;cases e;exact new
  .rw[zaf hb]at e;refine(I.hok b u e).stay (λc v hc q=>k c v ?_ q) (λc q=>by rw[zaf (zae q hn)];exact q) λc xs q=>by rw[zaf (zae q hn)];exact q
   rcases hc with z|z
   .rw[z];exact nch b u e
   .exact nch c _ z
def Inv.turnedAll(I:Inv X O Y H s)(k:∀b u,b∉ch->s.heap.get? b=some u->h'.get? b=some u)(hf:∀b∈ch,FpOk X O H b):Inv X O Y H {s with heap:=h',toks:=t'}:=by
 have nch:∀b u,H b=some u->b∉ch:=λb u e z=>by rw[(hf b z).1]at e;cases e
 refine I.step (g':=s.gens) (d':=s.drawn) (ch:=ch) (λb hb=>⟨(hf b hb).2.2.2.1,(hf b hb).2.1,(hf b hb).2.2.2.2.1,(hf b hb).2.2.2.2.2⟩) (λb u _ _ hc e _=>k b u hc e) (λb u _ _ hc e _=>⟨u.slots,k b u hc e⟩)
  (λ_ _ _ _ n=>n) (λb u hc e=>⟨u,k b u hc e⟩) (λ_ _ e=>e) (λ_ _ _ e=>e) (λb ps e=>⟨#[],by rw[e];simp⟩) (λm hm=>?_) (λb u e=>?_) I.bare
 .obtain⟨o,es,ep,ho,r⟩:=hm;exact⟨o,es,ep,k _ o (λz=>(hf _ z).2.1 rfl) ho,r⟩
 .refine(I.hok b u e).stay (λc v hc q=>k c v ?_ q) (λ_ q=>q) λ_ _ q=>q;rcases hc with z|z
  .rw[z];exact nch b u e
  .exact nch c _ z
end
def SIt(tp:Bool)(h:Heap)(it l:Addr)(k:Nat):Prop:=match tp with|true=>h.IsTupleIter it l k|false=>h.IsListIter it l k
def SCn(tp:Bool)(h:Heap)(l:Addr)(xs:Array Value):Prop:=match tp with|true=>h.IsTuple l xs|false=>h.IsList l xs
def SQ(tp:Bool)(K:qg)(H:Hp)(a:Addr)(xs:List V):Prop:=match tp with|true=>SqT K H a xs|false=>SqL K H a xs
def SIt.obj(x:SIt tp h it l k):∃o,h.get? it=some o/\∀v,o.data≠.cell v:=by
 cases tp<;>(obtain⟨o,e,c,d⟩:=x;exact⟨o,e,λv z=>by rw[d]at z;cases z⟩)
def SIt.keep(x:SIt tp h it l k)(q:∀o,h.get? it=some o->h'.get? it=some o):SIt tp h' it l k:=by
 cases tp<;>(obtain⟨o,e,r⟩:=x;exact⟨o,q o e,r⟩)
def SCn.lt(x:SCn tp h l xs):l<h.objs.size:=by
 cases tp<;>(obtain⟨o,e,_⟩:=x;exact YAm e)
def ziA(tp:Bool)(hh:A.handled=none)(it l:Addr)(hne:l≠it)(xs:Array Value) :
  Draws P w A it [it,l] xs.size (λi v=>xs[i]?=some v) (λi h=>SIt tp h it l i/\SCn tp h l xs):=by
 cases tp
 .exact Draws.list hh it l hne xs
 .exact zji hh it l hne xs
section
variable{X:Cx}{O:List (Addr×Obj)}{Y:St}{H:Hp}{s:Shared}{tp:Bool}{a:Addr}{xs ys:List V}
def Inv.sq(I:Inv X O Y H s)(h:SQ tp X.K H a xs):∃its:List Value,Vals xs its/\SCn tp s.heap a its.toArray/\xs.length<=sizeLine:=by
 cases tp
 .obtain⟨its,r,p,z⟩:=I.list h;exact⟨its,r,p.isList,z⟩
 .exact I.tuple h
def Inv.sq_inj(I:Inv X O Y H s)(h:SQ tp X.K H a xs)(h':SQ tp X.K H a ys):xs=ys:=by
 cases tp
 .exact I.list_inj h h'
 .exact I.tuple_inj h h'
end
def zrl(n l m:Nat)(h1:l<n)(h2:m<n):ZAp (n+4) (n+2) (n+3) n (n+1) [n,l] [n+1,m]:=by
 have e:∀{p q:Nat},p≠q->∀{r:Nat},p≠r->p∉[q,r]:=λ{p q} h {r} h' z=>by
  rcases YAn.mp z with z|z
  .exact h z
  .exact h' (YAg.mp z)
 have r:∀{p q:Nat},p<q\/q<p->(p:Addr)≠q:=λh=>h.elim YAv λh=>(YAv h).symm;exact⟨r (by omega),r (by omega),r (by omega),r (by omega),r (by omega),r (by omega),r (by omega),r (by omega),r (by omega),r (by omega),e (r (by omega)) (r (by omega)),e (r (by omega)) (r (by omega)),e (r (by omega)) (r (by omega)),e (r (by omega)) (r (by omega)),e (r (by omega)) (r (by omega)),e (r (by omega)) (r (by omega))⟩
noncomputable def Itz(tp:Bool)(K:qg)(a b:Addr):It:=
 ⟨λi H=>∃xs ys x y,SQ tp K H a xs/\SQ tp K H b ys/\xs[i]?=some x/\ys[i]?=some y,
 λi H v H'=>∃t x y,H t=none/\v=.ref t/\H'=upd H t (.tup [x,y])/\(∀xs,SQ tp K H a xs->xs[i]?=some x)/\∀ys,SQ tp K H b ys->ys[i]?=some y,
 λi H=>∃xs,SQ tp K H a xs/\xs.length=i⟩
def ZTn(tp:Bool)(z c d i j a b:Addr)(k:Nat)(h:Heap):Prop:=IsZip h z c d .none/\IsPair h c (.ref i) (.ref j)/\(∃u v,IsPair h d u v)/\SIt tp h i a k/\SIt tp h j b k
def zdo{P:Program}{w:World}{K:qg}{es:List Expr}{x1:_}{pos:Pos}{tp:Bool}{z c d i j a b:Addr}(Z:ZAp z c d i j [i,a] [j,b])(na:a≠i)(nb:b≠j) :
  Turn P w K (.Tuple es x1 pos) (Itz tp K a b) [z,c,d,i,j] z (ZTn tp z c d i j a b)where
 mem:=by simp
 obj:=λk h st e he=>by
  obtain⟨h1,h2,⟨u,v,h3⟩,h4,h5⟩:=st;simp only[YAn,YAP,YBU]at he;rcases he with rfl|rfl|rfl|rfl|rfl
  .exact⟨_,h1,λv q=>by cases q⟩
  .exact⟨_,h2,λv q=>by cases q⟩
  .exact⟨_,h3,λv q=>by cases q⟩
  .exact h4.obj
  .exact h5.obj
 keep:=λk h h' st q=>by
  obtain⟨h1,h2,⟨u,v,h3⟩,h4,h5⟩:=st;exact⟨q z (by simp) _ h1,q c (by simp) _ h2,⟨u,v,q d (by simp) _ h3⟩,h4.keep λo e=>q i (by simp) o e,h5.keep λo e=>q j (by simp) o e⟩
 item:=by
  intro X hP hw hK hc k O s Y H E I hf st hg;subst hP hw hK;obtain⟨xs,ys,x,y,qa,qb,ex,ey⟩:=hg;obtain⟨ia,ra,ca,za⟩:=I.sq qa;obtain⟨ib,rb,cb,zb⟩:=I.sq qb;obtain⟨h1,h2,⟨u,v,h3⟩,h4,h5⟩:=st;have hh:X.A.in1.handled=none:=I.ok.hd hc;obtain⟨ux,eux,rux⟩:=ra.get ex;obtain⟨uy,euy,ruy⟩:=rb.get ey;have k1:k<ia.toArray.size:=by simpa using(YAh.mp eux).1
  have k2:k<ib.toArray.size:=by simpa using(YAh.mp euy).1
  refine zfo Z (ziA tp hh i a na ia.toArray) (ziA tp hh j b nb ib.toArray) h1 h2 h3 ⟨h4,ca⟩ ⟨h5,cb⟩ k1 k2 λvx vy h' tk t px py ht g1 g2 g3 g4 g5 kk=>⟨_,rfl,?_⟩;have ev:vx=ux:=by rw[YCT,eux]at px;exact(Option.some.inj px).symm
  have ew:vy=uy:=by rw[YCT,euy]at py;exact(Option.some.inj py).symm
  subst ev ew;refine wpAny_letOwnedTupleGo_zip g1 λh'' z' sb=>?_;have tz:t≠z:=λq=>by rw[q]at ht;exact absurd (YAm h1) (by rw[ht];exact YBe _)
  have hn:H t=none:=I.hok.fresh (by rw[ht];exact YAj _);have kp:∀b u,b∉[z,c,d,i,j]->s.heap.get? b=some u->h''.get? b=some u:=λb u hb e=>by
   simp only[YAn,YAP,YBU,not_or]at hb;exact sb.extBut b u hb.1 (kk b u hb.1 hb.2.2.1 hb.2.2.2.1 hb.2.2.2.2 e)
  have I1:Inv X O Y (upd H t (.tup [x,y])) {s with heap:=h'',toks:=tk}:=I.turnedLaid (ch:=[z,c,d,i,j]) kp hf (by rw[ht];exact YAj _)
   ⟨by show 2<=sizeLine;decide,[vx,vy],.cons rux (.cons ruy .nil),⟨_,sb.extBut _ _ tz g5,rfl,_,rfl⟩⟩
  refine⟨.ref t,_,I1,rfl,⟨t,x,y,hn,rfl,rfl,λxs' q=>by rw[I.sq_inj q qa];exact ex,λys' q=>by rw[I.sq_inj q qb];exact ey⟩,?_,λe he=>?_⟩
  .exact⟨z',sb.extBut _ _ Z.az (kk _ _ Z.az Z.ab Z.ai Z.aj h2),⟨_,_,sb.extBut _ _ Z.bz g2⟩,g3.1.keep λo e=>sb.extBut _ _ Z.iz e,g4.1.keep λo e=>sb.extBut _ _ Z.jz e⟩
  .have hlt:e<s.heap.objs.size:=by
    simp only[YAn,YAP,YBU]at he;rcases he with rfl|rfl|rfl|rfl|rfl
    .exact YAm h1
    .exact YAm h2
    .exact YAm h3
    .obtain⟨o,q,_⟩:=h4.obj;exact YAm q
    .obtain⟨o,q,_⟩:=h5.obj;exact YAm q
   rw[zaf (YAv (by rw[ht];exact hlt))];exact(hf e he).1
 done:=by
  intro X hP hw hK hc k O s Y H E I hf st hg;subst hP hw hK;obtain⟨xs,qa,hx⟩:=hg;obtain⟨ia,ra,ca,za⟩:=I.sq qa;obtain⟨h1,h2,⟨u,v,h3⟩,h4,h5⟩:=st;have hh:X.A.in1.handled=none:=I.ok.hd hc;have hk:k=ia.toArray.size:=by rw[<-hx,ra.length];simp
  subst hk;refine zf3 Z (ziA tp hh i a na ia.toArray) h1 h2 ⟨h4,ca⟩ λh' kk=>⟨rfl,?_⟩;exact I.turnedAll (t':=s.toks) (ch:=[z,c,d,i,j]) (λb u hb e=>by
   simp only[YAn,YAP,YBU,not_or]at hb;exact kk b u hb.1 hb.2.2.1 hb.2.2.2.1 hb.2.2.2.2 e) hf
 self:=λ_ _ _ _ _ st h=>wpAny_pyIter_zip st.1 h
abbrev tza(h:Heap)(l:Addr):Heap:=h.push {cls:=.type "tuple_iterator",data:=.fields #[.ref l,.int 0 0]}
abbrev tzb(h:Heap)(l m:Addr):Heap:=tza (tza h l) m
abbrev tzc(h:Heap)(l m:Addr):Heap:=(tzb h l m).push {cls:=.type "tuple",data:=.seq #[.ref h.objs.size,.ref (tza h l).objs.size]}
abbrev tzd(h:Heap)(l m:Addr):Heap:=(tzc h l m).push {cls:=.type "tuple",data:=.seq #[.none,.none]}
abbrev tze(h:Heap)(l m:Addr):Heap:=(tzd h l m).push {cls:=.type "zip",data:=.fields #[.none,.bool false,.bool false,.ref (tzb h l m).objs.size,.ref (tzc h l m).objs.size]}
def zkQ(l m:Addr)(xs ys:Array Value) :
  Meets (Builtin.«zip.__new__» ⟨[.type "zip",.ref l,.ref m],[]⟩) (λ_ R s=>s.heap.IsTuple l xs/\s.heap.IsTuple m ys/\R (.ok (.ret (.ref (tzd s.heap l m).objs.size))) {s with heap:=tze s.heap l m}):=
 .of_wp λprog w A R s h=>by
  obtain⟨hp,g,d,tk,os⟩:=s;obtain⟨hl,hm,h⟩:=h;have hsub:=sub_zip;have h1:Heap.IsTuple (Shared.heap ⟨hp,g,d,tk,os⟩) l xs:=hl;have h2:Heap.IsTuple (Shared.heap ⟨hp.push {cls:=.type "tuple_iterator",data:=.fields #[.ref l,.int 0 0]},g,d,tk,os⟩) m ys:=Heap.IsTuple.push hm _
  wp_walk using YCN h1,YCN h2
  exact⟨_,rfl,h⟩
section
variable{P:Program}{w:World}{A:Around}{E:Value->Shared->Prop}{s:Shared}
def zlx(hl:SCn tp s.heap l xs)(hm:SCn tp s.heap m ys)
  (q:∀h',ZTn tp (s.heap.objs.size+4) (s.heap.objs.size+2) (s.heap.objs.size+3) s.heap.objs.size (s.heap.objs.size+1) l m 0 h'->(∀c o,s.heap.get? c=some o->h'.get? c=some o)->Q (.ref (s.heap.objs.size+4)) {s with heap:=h'}) :
  wpAny (model P w) A (call (.type "zip") [.ref l,.ref m]) Q E s:=by
 cases tp
 .exact call_zip_2 hl hm λh' g1 g2 g3 g4 g5 _ kk=>q h' ⟨g1,g2,⟨_,_,g3⟩,g4,g5⟩ kk
 .refine callType_new F.called_zip (by decide) (F.typeCall_zip_2 _ _) (F.newCall_zip_2 _ _) (λobj=>F.args_object_init_3 obj _ _) F.entry_zip_new (zkQ l m xs ys) ⟨hl,hm,?_⟩;have y1:(tza s.heap l).objs.size=s.heap.objs.size+1:=YBk ..;have y2:(tzb s.heap l m).objs.size=s.heap.objs.size+2:=by rw[YBk,y1]
  have y3:(tzc s.heap l m).objs.size=s.heap.objs.size+3:=by rw[YBk,y2]
  have y4:(tzd s.heap l m).objs.size=s.heap.objs.size+4:=by rw[YBk,y3]
  have g5:(tze s.heap l m).get? (tzd s.heap l m).objs.size=some _:=YAr _ rfl;have g4:(tze s.heap l m).get? (tzc s.heap l m).objs.size=some _:=YAd _ (YAr _ rfl);have g3:(tze s.heap l m).get? (tzb s.heap l m).objs.size=some _:=YAd _ (YAd _ (YAr _ rfl));have g2:(tze s.heap l m).get? (tza s.heap l).objs.size=some _:=YAd _ (YAd _ (YAd _ (YAr _ rfl)));have g1:(tze s.heap l m).get? s.heap.objs.size=some _:=YAd _ (YAd _ (YAd _ (YAd _ (YAr _ rfl))));show _/\_;rw[y2,y3,y4]at g5;rw[y1,y2]at g3;rw[y3]at g4;rw[y1]at g2;rw[y4];exact⟨⟨_,g5,rfl⟩,q _ ⟨g5,g3,⟨_,_,g4⟩,⟨_,g1,rfl,rfl⟩,⟨_,g2,rfl,rfl⟩⟩ λc o x=>YAd _ (YAd _ (YAd _ (YAd _ (YAd _ x))))⟩
end
def zmq(elt tg iter:Expr)(ifs:List Expr)(scope:Scope)(pos:Pos)(it acc:Value)(env:Env) :
  compTurn (.SetComp elt [⟨tg,iter,ifs,0⟩] scope pos) 0 it acc env=(do
   standAt iter.pos
   match <-pyNext it with
   |none=>pure (.done .next)
   |some v=>
    letOwnedTupleGo tg it v
    assign tg env v
    let mut ok:=true
    for c in ifs do
     if ok then ok <-isTrue c env (eval c env)
    if ok then
     (do let x <-eval elt env;standAt elt.pos;let _ <-call (.builtin "set.add") [acc,x])
    again (.compLoop (.SetComp elt [⟨tg,iter,ifs,0⟩] scope pos) 0 it acc env)):=by rfl
section
variable{P:Program}{w:World}{A:Around}{E:Value->Shared->Prop}{R:Result->Shared->Prop}{s:Shared}
def zk7
  (h0:codeAny (model P w) A (.compLoop (.SetComp elt [⟨tg,iter,ifs,0⟩] scope pos) 0 it acc env) R s)
  (h:wpAny (model P w) A (pyIter it) (λit' s'=>codeAny (model P w) A (.compLoop (.SetComp elt [⟨tg,iter,ifs,0⟩] scope pos) 0 it' acc env) R s') (notedBy (model P w) A env λx s'=>R (.error x) s') s) :
  codeAny (model P w) A (.compStart (.SetComp elt [⟨tg,iter,ifs,0⟩] scope pos) 0 it acc env) R s:=by
 refine YDe ?_;show wpAny _ _ ((compStart (.SetComp elt [⟨tg,iter,ifs,0⟩] scope pos) 0 it acc env).onRaise (λx=>do noteFrame x env;standAt theWindowsPlace)) _ _ s;refine wpAny_notedAt ?_;unfold compStart;show wpAny _ _ (ask >>= _) _ _ s;refine YAa (YCm (wpAny_ite ?_));split
 .first|exact YAa (YAf (YAf (And.intro rfl h0)))|exact YAf (And.intro rfl h0)
 .first
   |exact YAa (YBr (YAa (YBp (YAa (YA2 h (λit' s' h'=>YAf (And.intro rfl h')) λ_ _ x=>x)))))
   | (refine YAa (YBr ?_);show wpAny _ _ (standAt iter.pos >>= _) _ _ s;exact YAa (YBp (YAa (YA2 h (λit' s' h'=>YAf (And.intro rfl h')) λ_ _ x=>x))))
def zlu(h:Q (.ref s.heap.objs.size) {s with heap:=s.heap.push {cls:=.type "set",dict:=none,data:=.set #[] 0 (.fresh 0 0 (!w.params.followText "set-order"))}}) :
  wpAny (model P w) A (newSet (.type "set")) Q E s:=by
 unfold newSet setsByText;obtain⟨hp,g,d,tk,os⟩:=s;refine YAa (YAa (YCm (YAf ?_)));dsimp only;simp only[newObj];exact YAa (wpAny_alloc (YAf h))
def zjv(r:SetInts w s.heap a xs)(hr:xs.length+1<scanBound)
  (h:∀h',Heap.SameBut a s.heap h'->SetInts w h' a (k::xs)->Q .none {s with heap:=h',toks:=s.toks+1}):wpAny (model P w) A (call (.builtin "set.add") [.ref a,.int k tk]) Q E s:=by
 have hT:s.TypeIs (.ref a) "set":=let⟨es,ep,t,q,_⟩:=r.ex;⟨_,q.at_,rfl⟩
 refine YAY F.slot_set_add hT F.entry_set_add ?_ (F.args_set_add_2 _ _);unfold Builtin.«set.add» Builtin.Frozenset.oneOther;simp only[List.isEmpty_nil,bind_assoc];unfold Builtin.Frozenset.addrOf setAdd;refine YAa (YAf ?_);try dsimp only
 refine YAa (YAf ?_);try dsimp only
 refine YAa (YAZ (YAa ((intKind P w).pyHash (k:=k) (YDB _ _ _ _) ?_)));refine zgI (s:={s with toks:=s.toks+1}) r hr λb h' sb hS=>?_;show wpAny _ _ (ret Value.none) _ _ _;exact YAf ⟨_,rfl,h h' sb hS⟩
end
noncomputable def zoL(w:World)(g:TG)(tc:TT)(te:TE)(Yc:St)(l:Addr)(J:It)(H1:Hp)(Q:VK):Prop:=
 ∃W:Nat->Nat->List Int->Hp->Prop,(∃m,W 0 m [] (upd H1 l (SetO w l [])))/\∀i m xs H2,W i m xs H2->H2 l=some (SetO w l xs) /\
  ((J.stop i H2/\Q (.ref l) H2)\/(J.go i H2/\∃N:List Int->Hp->Prop,(∀xs' H',N xs' H'->∃m',m'<m/\W (i+1) m' xs' H') /\
   ∀x H',J.yld i H2 x H'->g x Yc H' λY2 H3=>tc Y2 H3 λb H4=>if b=true then te Y2 H4 λy H5=>∃k,y=.int k/\H5 l=some (SetO w l xs)/\xs.length+1<scanBound/\N (k::xs) (upd H5 l (SetO w l (k::xs)))else N xs H4))
def zqQ(w:World)(sub:List (Option Nat))(wi:TI)(g:TG)(tc:TT)(te:TE):TE:=λY H Q=>wi Y H λJ H1=>∀l,H1 l=none->zoL w g tc te (zbe sub Y) l J H1 Q
section
variable{X:Cx}{O:List (Addr×Obj)}{Y:St}{H:Hp}{s:Shared}{scope:Scope}{Nc:List Str}{sub:List (Option Nat)}{elt tg iter:Expr}{ifs:List Expr}{pos:Pos}{g:TG}{tc:TT}{te:TE}
def zpR{cl:List (Str×Addr)}{fp:List Addr}{it:Addr}{J:It}{tn:Nat->Heap->Prop}{E:Value->Shared->Prop}{Q:VK}{RR:Value->Addr->Result->Shared->Prop}
  (hc:X.calm=true) (I:Inv X O Y H s) (hS:CompScope X.N X.env.scope scope Nc sub)
  (hcl:∀x c,cl.lookup x=some c->X.env.cells.lookup x=some c) (hcl2:∀x,scope.names.lookup x=some .free->∃c,cl.lookup x=some c)
  (T:Turn X.prog X.w X.K tg J fp it tn) (st:tn 0 s.heap) (hf:∀b∈fp,FpOk X O H b)
  (hg:∀cl L s0 H0 ex,PG (zaq X Nc scope cl L s0 H0 ex) tg g) (gk:ze3 sub g)
  (hi:∀cl L s0 H0 ex,PIfs (zaq X Nc scope cl L s0 H0 ex) ifs tc) (he:∀cl L s0 H0 ex,PE (zaq X Nc scope cl L s0 H0 ex) elt te)
  (gm:zeF g) (q:∀l,H l=none->zoL X.w g tc te (zbe sub Y) l J H Q)
  (hRR:∀l C H' s' m,Inv X O Y H' s'->Q (.ref l) H'->s'.heap.Ns C m->s.heap.objs.size<=C->H' C=none->RR (.ref l) C (.ok .next) s') :
  wpAny (model X.prog X.w) X.A (newSet (.type "set")) (λacc s₃=>wpAny (model X.prog X.w) X.A (newFunctionEnv scope X.env.globals cl [] X.env.qual none .none (some X.env)) (λcenv s₄=>
   codeAny (model X.prog X.w) X.A (.compStart (.SetComp elt [⟨tg,iter,ifs,0⟩] scope pos) 0 (.ref it) acc {cenv with scope:=relabel scope X.env}) (RR acc cenv.locals) s₄) E s₃) E s:=by
 have hlt:∀b∈fp,b<s.heap.objs.size:=λb hb=>let⟨o,e,_⟩:=T.obj _ _ st b hb;YAm e
 have hl0:H s.heap.objs.size=none:=I.hok.fresh (YAj _);obtain⟨W,⟨m0,w0⟩,turn⟩:=q s.heap.objs.size hl0;refine zlu ?_;have I3:Inv X O Y (upd H s.heap.objs.size (SetO X.w s.heap.objs.size [])) {s with heap:=s.heap.push {cls:=.type "set",dict:=none,data:=.set #[] 0 (.fresh 0 0 (!X.w.params.followText "set-order"))},toks:=s.toks}:=
  I.laid (λb o e=>YAd _ e) (YAj _) (zeo zgP)
 have e3:({s with heap:=s.heap.push {cls:=.type "set",dict:=none,data:=.set #[] 0 (.fresh 0 0 (!X.w.params.followText "set-order"))}}:Shared)={s with heap:=s.heap.push {cls:=.type "set",dict:=none,data:=.set #[] 0 (.fresh 0 0 (!X.w.params.followText "set-order"))},toks:=s.toks}:=rfl;rw[e3];generalize hs3:({s with heap:=s.heap.push {cls:=.type "set",dict:=none,data:=.set #[] 0 (.fresh 0 0 (!X.w.params.followText "set-order"))},toks:=s.toks}:Shared)=s3 at I3 ⊢;have k3:∀b o,s.heap.get? b=some o->s3.heap.get? b=some o:=λb o e=>by rw[<-hs3];exact YAd _ e
 have z3:s.heap.objs.size<=s3.heap.objs.size:=by rw[<-hs3];show _<=(s.heap.push _).objs.size;rw[YBk];exact YDL _
 have f3:∀b∈fp,FpOk X O (upd H s.heap.objs.size (SetO X.w s.heap.objs.size [])) b:=λb hb=>⟨by rw[zaf (YAv (hlt b hb))];exact(hf b hb).1,(hf b hb).2⟩;have lt3:∀b∈fp,b<s3.heap.objs.size:=λb hb=>YAt (hlt b hb) z3;have st3:tn 0 s3.heap:=T.keep _ _ _ st λb _ o e=>k3 b o e;refine YCZ hS.nocell (by intro y hy;simp at hy) (λh₁ hns₁ hsb₁=>?_) hS.kind;have k4:∀b o,s3.heap.get? b=some o->h₁.get? b=some o:=λb o e=>hsb₁.extBut b o (YAv (YAm e)) (YAd _ e);have ok4:=zfp (J:=J) (it:=it) (tn:=tn) I3 hS hcl hcl2 f3 lt3;have I4:=zc2 (t':=s3.toks+([]:List (Str×Value)).length) I3 hS hcl hcl2 ok4 hns₁ k4;have st4:tn 0 h₁:=T.keep _ _ _ st3 λb _ o e=>k4 b o e;have stat:∀{H':Hp},(∀b∈fp,H' b=none)->∀b∈fp,FpOk (zaq X Nc scope cl s3.heap.objs.size s3 (upd H s.heap.objs.size (SetO X.w s.heap.objs.size [])) fp) [] H' b:=λhn b hb=>
  ⟨hn b hb,(ok4.exf b hb).1,ok4.exfs b hb,.inl hb,(ok4.exf b hb).2,λp hp=>absurd (show p∈([]:List (Addr×Obj))from hp) (by simp)⟩
 have loop:∀s₄:Shared,s₄={s3 with heap:=h₁,toks:=s3.toks+([]:List (Str×Value)).length} ->
   codeAny (model X.prog X.w) X.A (.compLoop (.SetComp elt [⟨tg,iter,ifs,0⟩] scope pos) 0 (.ref it) (.ref s.heap.objs.size) (compEnvC scope cl s3.heap.objs.size X.env)) (RR (.ref s.heap.objs.size) s3.heap.objs.size) s₄:=by
  rintro s₄ rfl;refine YDY rfl (λn s'=>∃i xs H',Inv (zaq X Nc scope cl s3.heap.objs.size s3 (upd H s.heap.objs.size (SetO X.w s.heap.objs.size [])) fp) [] (zbe sub Y) H' s'/\tn i s'.heap/\(∀b∈fp,H' b=none)/\W i n xs H') ?_ m0
   ⟨0,[],_,I4,st4,λb hb=>(f3 b hb).1,w0⟩
  rintro n s5 ⟨i,xs,H5,I5,st5,fr5,w5⟩;show wpAny _ X.A ((compTurn (.SetComp elt [⟨tg,iter,ifs,0⟩] scope pos) 0 (.ref it) (.ref s.heap.objs.size) (compEnvC scope cl s3.heap.objs.size X.env)).onRaise (λx=>do noteFrame x (compEnvC scope cl s3.heap.objs.size X.env);theTreesLotGoes x)) _ _ s5;refine YEi ?_;rw[zmq];refine YAa (YBp (YAa ?_));obtain⟨hl5,w5⟩:=turn i n xs H5 w5;rcases w5 with⟨stop,qn⟩|⟨go,N,hN,step⟩
  .refine thn (T.done (zaq X Nc scope cl s3.heap.objs.size s3 (upd H s.heap.objs.size (SetO X.w s.heap.objs.size [])) fp) rfl rfl rfl hc i [] s5 (zbe sub Y) H5 _ I5 (stat fr5) st5 stop) λr s6 ⟨hr,I6⟩=>?_;subst hr;obtain⟨m6,hn6,_⟩:=I6.loc;exact YAf (hRR _ _ H5 s6 m6 (zeD I3 f3 I6) qn hn6 z3 I6.free)
  .refine thn (T.item (zaq X Nc scope cl s3.heap.objs.size s3 (upd H s.heap.objs.size (SetO X.w s.heap.objs.size [])) fp) rfl rfl rfl hc i [] s5 (zbe sub Y) H5 _ I5 (stat fr5) st5 go) λr s6 ⟨u,hr,h6⟩=>?_;subst hr;refine YAa (thn h6 λ_ s7 ⟨x,H7,I7,r7,y7,st7,fr7⟩=>?_);have I7':=I7.pinned (stat fr7) (T.obj _ _ st7);have again:∀{Y8:St}{H8:Hp}{ys:List Int}{s8:Shared},Inv (zaq X Nc scope cl s3.heap.objs.size s3 (upd H s.heap.objs.size (SetO X.w s.heap.objs.size [])) fp) ([]++zeN fp s7.heap) Y8 H8 s8->(∀(i j:Nat),sub[i]?=some (some j)->Y8[i]?=(zbe sub Y)[i]?)->N ys H8 ->
     ∃m,m<n/\∃i xs H',Inv (zaq X Nc scope cl s3.heap.objs.size s3 (upd H s.heap.objs.size (SetO X.w s.heap.objs.size [])) fp) [] (zbe sub Y) H' s8/\tn i s8.heap/\(∀b∈fp,H' b=none)/\W i m xs H':=λ{Y8 H8 ys s8} I8 k8 n8=>by
    obtain⟨m',hm,w8⟩:=hN ys H8 n8;refine⟨m',hm,i+1,ys,H8,?_,T.keep _ _ _ st7 λb hb o e=>(I8.pin (b,o) (YAl _ (YAl _ (zbc hb e)))).1,λb hb=>?_,w8⟩
    .refine I8.unpinned.weak ?_ λk v e=>?_
     .rw[I8.len];exact(zdU sub Y).trans hS.len
     .obtain⟨j,e1,_⟩:=zc4 e;rw[k8 k j e1];exact e
    .obtain⟨o,e,d⟩:=T.obj _ _ st7 b hb;exact(I8.pin (b,o) (YAl _ (YAl _ (zbc hb e)))).2.1
   refine YAa (YA2 (hg cl _ s3 _ fp _ s7 (zbe sub Y) H7 x u _ I7' r7 (gk _ _ _ _ (step x H7 y7))) (λ_ s8 ⟨Y8,H8,I8,q8,k8⟩=>?_) λ_ _ z=>False.elim z);refine YAa (YA2 (hi cl _ s3 _ fp _ s8 Y8 H8 _ I8 q8) (λok s9 ⟨H9,I9,q9⟩=>?_) λ_ _ z=>False.elim z);cases ok with
   |false=>exact YAf ⟨rfl,again I9 k8 q9⟩
   |true=>
    refine YAa (YAa (YA2 (he cl _ s3 _ fp _ s9 Y8 H9 _ I9 q9) (λxv s10 ⟨y,H10,I10,r10,kk,hy,hl10,hz,q10⟩=>?_) λ_ _ z=>False.elim z));subst hy;obtain⟨tk,rfl⟩:=r10;have hSI:SetInts X.w s10.heap s.heap.objs.size xs:=(I10.hok _ _ hl10).1;refine YAa (YBp (YAa (zjv hSI hz λh' sb hS'=>?_)));refine YAf (YAf ⟨rfl,again (s8:={s10 with heap:=h',toks:=s10.toks+1}) ?_ k8 q10⟩);exact I10.write (x:=s.heap.objs.size) (e:=s.heap.objs.size) (by rw[hl10];trivial) (.inl rfl) (λb o hb e=>(sb.2 b hb).trans e) (let⟨_,_,_,z,_⟩:=hS'.ex;⟨_,z.at_⟩) (zeo hS')
 exact zk7 (loop _ rfl) (T.self _ 0 _ _ _ st4 (loop _ rfl))
def znP(hc:X.calm=true)(hS:CompScope X.N X.env.scope scope Nc sub)(hI:PI X tg iter wi)
  (hg:∀cl L s0 H0 ex,PG (zaq X Nc scope cl L s0 H0 ex) tg g) (gk:ze3 sub g) (gm:zeF g)
  (hi:∀cl L s0 H0 ex,PIfs (zaq X Nc scope cl L s0 H0 ex) ifs tc) (he:∀cl L s0 H0 ex,PE (zaq X Nc scope cl L s0 H0 ex) elt te)
  (hs:∀x,foldedSetIterable iter X.env x=pure x:=by intro _;rfl):PE X (.SetComp elt [⟨tg,iter,ifs,0⟩] scope pos) (zqQ X.w sub wi g tc te):=by
 intro O s Y H Q I h;obtain⟨cl,hcl0,hcl,hcl2⟩:=zbJ (zdm I hS);rw[arm_eval_SetComp];refine YCe (use:=none) rfl hs hcl0 hS.kind hS.names ?_;refine thn (hI O s Y H _ I h) λxv s1 h1=>thn h1 λitv s2 h2=>?_;obtain⟨it,fp,tn,J,H2,e,I2,T,st2,f2,q⟩:=h2;subst e;refine zpR hc I2 hS hcl hcl2 T st2 f2 hg gk hi he gm q λl C H' s' m I' q' hn hC hfr=>?_;refine⟨m,hn,λh' sb=>?_⟩;have nL:C≠X.env.locals:=YBi (YAt I2.lt hC);refine⟨.ref l,H',?_,rfl,q'⟩;exact I'.turned (it:=C) (t':=s'.toks) (λb o hb e=>(sb.2 b hb).trans e) hfr nL (.inr (YAU I2.sz hC)) (λx c e z=>by
  obtain⟨v,w⟩:=I2.cell x c e;exact absurd (YAt w.lt (by rw[z];exact hC)) (YBe _)) λp hp z=>
  absurd (YAt (YAm (I2.pin p hp).1) (by rw[z];exact hC)) (YBe _)
end
section
variable{prog:Program}{w:World}{A:Around}{E:Value->Shared->Prop}{s:Shared}
def zhG(hh:A.handled=none)(hl:s.heap.IsTuple l items)(hi:IntsAre items.toList ns)(hb:items.size+1<scanBound)
  (h:∀(h':Heap)(tk:Nat),SetInts w h' s.heap.objs.size ns->(∀b o,s.heap.get? b=some o->h'.get? b=some o)->Q (.ref s.heap.objs.size) {s with heap:=h',toks:=tk}) :
  wpAny (model prog w) A (call (.type "set") [.ref l]) Q E s:=ziG (λled R E hSI k=>by
 obtain⟨⟨ocls,odict,odata,oslots⟩,hol,hcl,nl,hdl⟩:=hl;simp only at hcl hdl;subst hcl;subst hdl;have hol':(s.heap.push (set0 led)).get? l=some {cls:=.type "tuple",dict:=odict,data:=.seq items nl,slots:=oslots}:=YAd _ hol;have hsls:=PySem.F.sub_tuple_set;have hslf:=PySem.F.sub_tuple_frozenset;have hne:(Value.type "tuple"==Value.type "dict")=false:=by decide
 have hl1:(s.heap.push (set0 led)).IsTuple l items:=⟨_,hol',rfl,nl,rfl⟩;unfold Builtin.«set.__init__» noKeywords Builtin.Frozenset.updateFrom;generalize hPI:pyIter=PI
 wp_walk
 subst hPI;refine YCN hl1 ?_;have hlS:l<s.heap.objs.size:=YAm hol;rw[show(s.heap.push (set0 led)).objs.size=s.heap.objs.size+1 from YBk _ _];refine YAa (YDt (zkf hi hb hlS hSI (Walks.tuple (by simp[hh]) _ l (YAv (YA9 hlS)) items) ⟨⟨_,zq1 _ _ _ rfl,rfl,rfl⟩,hl1.push _⟩ λh' tk a b=>?_));exact YAf (YAf (k h' tk a b))) h
end
section
variable{X:Cx}
def zik(hc:X.calm=true):CallR X (.type "set") (λvs H Q=>∃(p:Addr)(ns:List Int),vs=[.ref p]/\SqT X.K H p (ns.map V.int)/\ns.length+1<scanBound/\∀l,H l=none->Q (.ref l) (upd H l (SetO X.w l ns))):=by
 intro O s Y H vs us Q I r h;obtain⟨p,ns,rfl,hq,hb,q⟩:=h;obtain⟨u,rfl,rx⟩:=zen r;cases rx;obtain⟨its,r',pl,hz⟩:=I.tuple hq;have hlen:=r'.length;rw[YAc]at hlen;refine zhG (ns:=ns) (I.ok.hd hc) (show s.heap.IsTuple p its.toArray from pl) (by simpa using zgJ r') (by simp only[YAu];omega) λh' tk hS hk=>?_;exact⟨.ref s.heap.objs.size,_,I.laid hk (YAj _) (zeo hS),rfl,q _ I.fresh⟩
end
def Ite(K:qg)(a:Addr):It:=
 ⟨λi H=>∃xs x,SqL K H a xs/\xs[i]?=some x,λi H v H'=>∃t x,H t=none/\v=.ref t/\H'=upd H t (.tup [.int i,x])/\∀xs,SqL K H a xs->xs[i]?=some x,λi H=>∃xs,SqL K H a xs/\xs.length=i⟩
def zlo{P:Program}{w:World}{K:qg}{es:List Expr}{x1:_}{pos:Pos}{e it a:Addr}(hei:e≠it)(hea:e≠a)(hai:a≠it) :
  Turn P w K (.Tuple es x1 pos) (Ite K a) [e,it] e (λi h=>(∃old,IsEnum h e it i old)/\h.IsListIter it a i)where
 mem:=by simp
 obj:=λk h st c hc=>by
  obtain⟨⟨old,h1⟩,o,h2,_,d⟩:=st;simp only[YAn,YAP,YBU]at hc;rcases hc with rfl|rfl
  .exact⟨_,h1,λv q=>by cases q⟩
  .exact⟨o,h2,λv z=>by rw[d]at z;cases z⟩
 keep:=λk h h' st q=>by
  obtain⟨⟨old,h1⟩,h2⟩:=st;exact⟨⟨old,q e (by simp) _ h1⟩,h2.at λo z=>q it (by simp) o z⟩
 item:=by
  intro X hP hw hK hc k O s Y H E I hf st hg;subst hP hw hK;obtain⟨xs,x,qa,ex⟩:=hg;obtain⟨its,r,pl,hz⟩:=I.list qa;obtain⟨⟨old,h1⟩,h2⟩:=st;have hh:X.A.in1.handled=none:=I.ok.hd hc;obtain⟨u,eu,ru⟩:=r.get ex;have k1:k<its.toArray.size:=by simpa using(YAh.mp eu).1
  refine wpAny_pyNext_enum_itemD (Draws.list hh it a hai its.toArray) h1 ⟨h2,pl.isList⟩ k1 hei (by simp only[YAn,YAP,YBU,not_or];exact⟨hei,hea⟩) λv h' tk px g1 g2 g3 g4 kk=>⟨_,rfl,?_⟩;have ev:v=u:=by rw[YCT,eu]at px;exact(Option.some.inj px).symm
  subst ev;refine wpAny_letOwnedTupleGo_enum g1 λh'' z' sb=>?_;have tz:s.heap.objs.size≠e:=YBi (YAm h1);have hn:H s.heap.objs.size=none:=I.hok.fresh (YAj _);have kp:∀b u,b∉[e,it]->s.heap.get? b=some u->h''.get? b=some u:=λb u hb q=>by
   simp only[YAn,YAP,YBU,not_or]at hb;exact sb.extBut b u hb.1 (kk b u hb.1 hb.2 q)
  have I1:Inv X O Y (upd H s.heap.objs.size (.tup [.int k,x])) {s with heap:=h'',toks:=tk+1}:=I.turnedLaid (ch:=[e,it]) kp hf (YAj _)
   ⟨by show 2<=sizeLine;decide,[.int k tk,v],.cons ⟨tk,rfl⟩ (.cons ru .nil),⟨_,sb.extBut _ _ tz g3,rfl,_,rfl⟩⟩
  refine⟨.ref s.heap.objs.size,_,I1,rfl,⟨_,x,hn,rfl,rfl,λxs' q=>by rw[I.list_inj q qa];exact ex⟩,?_,λc hc=>?_⟩
  .exact⟨⟨_,by simpa using z'⟩,g2.1.at λo q=>sb.extBut _ _ hei.symm q⟩
  .have hlt:c<s.heap.objs.size:=by
    simp only[YAn,YAP,YBU]at hc;rcases hc with rfl|rfl
    .exact YAm h1
    .obtain⟨o,q,_⟩:=h2;exact YAm q
   rw[zaf (YAv hlt)];exact(hf c hc).1
 done:=by
  intro X hP hw hK hc k O s Y H E I hf st hg;subst hP hw hK;obtain⟨xs,qa,hx⟩:=hg;obtain⟨its,r,pl,hz⟩:=I.list qa;obtain⟨⟨old,h1⟩,h2⟩:=st;have hh:X.A.in1.handled=none:=I.ok.hd hc;have hk:k=its.toArray.size:=by rw[<-hx,r.length];simp
  subst hk;refine wpAny_pyNext_enum_endD (Draws.list hh it a hai its.toArray) h1 ⟨h2,pl.isList⟩ λh' kk=>⟨rfl,?_⟩;exact I.turnedAll (t':=s.toks) (ch:=[e,it]) (λb u hb q=>by
   simp only[YAn,YAP,YBU,not_or]at hb;exact kk b u hb.2 q) hf
 self:=λ_ _ _ _ _ st h=>by
  obtain⟨⟨old,h1⟩,_⟩:=st;exact wpAny_pyIter_enum h1 h
def zsF(K:qg)(ta:TA):TI:=λY H R=>ta Y H λvs H1=>∃(a:Addr)(xs:List V),vs=[.ref a]/\SqL K H1 a xs/\R (Ite K a) H1
def zlw{X:Cx}{es:List Expr}{x1:_}{tpos:Pos}{a:Expr}{ta:TA}{p pos:Pos}(hg:Gl X "enumerate")(hm:X.mg "enumerate"=none)(ha:PA X [a] ta)(hs:starEach [a] X.env=[(false,eval a X.env)]:=by rfl) :
  PI X (.Tuple es x1 tpos) (.Call (.Name "enumerate" p) [a] [] pos) (zsF X.K ta):=by
 intro O s Y H R I h;refine Call_ (zgD I hg hm boot_enumerate (YB0 (thn (ha pos O s Y H _ I h) λus s1 ⟨vs,H1,I1,r1,q1⟩=>?_) hs rfl));obtain⟨l,xs,e,q1,q⟩:=q1;subst e;obtain⟨u,rfl,ru⟩:=zen r1;cases ru;obtain⟨its,r,pl,hz⟩:=I1.list q1;have lt1:l<s1.heap.objs.size:=let⟨o,n,z,_⟩:=pl;YAm z
 refine call_enumerate_list pl.isList λh' g1 g2 _ kk=>?_;refine wpAny_pyIter_enum g1 ?_;have I2:Inv X O Y H1 {s1 with heap:=h'}:=I1.kept (t':=s1.toks) kk;refine⟨_,[s1.heap.objs.size+1,s1.heap.objs.size],_,_,H1,rfl,I2,zlo (YBi (YCn _)) (YBi (YA9 lt1)) (YAv lt1),⟨⟨_,g1⟩,g2⟩,λc hc=>?_,q⟩;have hle:s1.heap.objs.size<=c:=by
  simp only[YAn,YAP,YBU]at hc;rcases hc with rfl|rfl
  .exact YBI _ _
  .exact YAj _
 exact I1.fpOk hle (I1.hok.fresh hle)
def zky{K:qg}{a:Addr}{xs:List V}{g:TG}{tb:TS}{D:Ends}{Y:St}{H:Hp}(Pv:Nat->St->Hp->Prop)(h0:Pv 0 Y H)(hl:∀i Y H,i<=xs.length->Pv i Y H->SqL K H a xs)
  (hs:∀i x t Y H,xs[i]?=some x->H t=none->Pv i Y H->g (.ref t) Y (upd H t (.tup [.int i,x])) λY2 H2=>tb {D with nx:=Pv (i+1),ct:=Pv (i+1),bk:=D.nx} Y2 H2) (hd:∀ Y H,Pv xs.length Y H->D.nx Y H) :
  ∃W:Nat->Nat->St->Hp->Prop,(∃m,W 0 m Y H)/\∀i m Y H,W i m Y H ->
   ((Ite K a).stop i H/\D.nx Y H)\/((Ite K a).go i H/\∃N:St->Hp->Prop,(∀ Y' H',N Y' H'->∃m',m'<m/\W (i+1) m' Y' H')/\∀x H',(Ite K a).yld i H x H'->g x Y H' λY2 H2=>tb {D with nx:=N,ct:=N,bk:=D.nx} Y2 H2):=by
 refine⟨λi m Y H=>m=xs.length-i/\i<=xs.length/\Pv i Y H,⟨xs.length,by simp,YAC _,h0⟩,?_⟩;rintro i m Y H ⟨rfl,hi,p⟩;have q:=hl i Y H hi p;by_cases hlt:i<xs.length
 .refine .inr ⟨⟨xs,xs[i],q,by simp[hlt]⟩,Pv (i+1),λY' H' p'=>⟨xs.length-(i+1),by omega,rfl,hlt,p'⟩,λv H' y=>?_⟩;obtain⟨t,x,hn,rfl,rfl,ex⟩:=y;exact hs i x t Y H (ex xs q) hn p
 .have e:i=xs.length:=by omega
  subst e;exact .inl ⟨⟨xs,q,rfl⟩,hd Y H p⟩
theorem zlQ:∀{xs:List V}{us:List Value},xs.length=us.length->(∀(i:Nat) x u,xs[i]?=some x->us[i]?=some u->RelV x u)->Vals xs us
 |[],[],_,_=>.nil
 |[],u::us,h,_=>by simp at h
 |x::xs,[],h,_=>by simp at h
 |x::xs,u::us,h,f=>.cons (f 0 x u rfl rfl) (zlQ (by simpa using h) λi a b e1 e2=>f (i+1) a b (by simpa using e1) (by simpa using e2))
section
variable{X:Cx}
def zmh:CallR X (.type "range") (λvs H Q=>∃j:Int,vs=[.int j]/\∀p,H p=none->Q (.ref p) (upd H p (.rng 0 j))):=by
 intro O s Y H vs us Q I r h;obtain⟨j,rfl,q⟩:=h;obtain⟨u,rfl,rx⟩:=zen r;obtain⟨t,rfl⟩:=rx;exact call_range_1 ⟨.ref s.heap.objs.size,_,I.laid (o:=.rng 0 j) (λb o e=>YAd _ e) (YAj _) ⟨_,_,_,YAr _ rfl⟩,rfl,q _ I.fresh⟩
def zgW(hc:X.calm=true):CallR X (.type "list") (λvs H Q=>∃(p:Addr)(j:Int),vs=[.ref p]/\H p=some (.rng 0 j)/\0<=j/\j<=1000/\∀l,H l=none->Q (.ref l) (upd H l (.lst (((List.range j.toNat).map Int.ofNat).map V.int)))):=by
 intro O s Y H vs us Q I r h;obtain⟨p,j,rfl,hq,h0,h1,q⟩:=h;obtain⟨u,rfl,rx⟩:=zen r;cases rx;obtain⟨t,u,v,e⟩:∃t u v,s.heap.get? p=some {cls:=.type "range",data:=.fields #[.int 0 t,.int j u,.int 1 v]}:=I.hok p _ hq;have hn:Builtin.Range.rangeSize 0 j 1=(j.toNat:Int):=by rw[rangeSize_one];split<;>omega
 refine call_list_range (n:=j.toNat) (I.ok.hd hc) e (small_one (by omega) (by omega) (by omega) (by omega)) hn (by omega) λh' tk acc c' kk e' hi=>?_;refine⟨.ref s.heap.objs.size,_,I.laid (t':=tk) (o:=.lst (((List.range j.toNat).map Int.ofNat).map V.int)) kk (YAj _) ⟨?_,acc.toList,c',?_,?_⟩,rfl,q _ I.fresh⟩
 .simp only[YAc,YBz];rw[YAO];omega
 .refine zlQ ?_ λi x u e1 e2=>?_
  .simp only[YAc,YBz,YBc];exact hi.1.symm
  .have hlt:i<j.toNat:=by
    have:=(YAh.mp e1).1
    simpa using this
   obtain⟨t',e3⟩:=hi.2 i u (by rw[<-e2];simp)
   have:x=.int (i:Int):=by
    rw[YAo,YAo,YCG hlt]at e1;exact(Option.some.inj e1).symm
   subst this;exact⟨t',by rw[e3];congr 1;omega⟩
 .simpa using e'
def zsn(K:qg):R2:=λx y H Q=>∃a b xs ys,x=.ref a/\y=.ref b/\SqT K H a xs/\SqT K H b ys/\xs.length+ys.length<=sizeLine/\∀p H',Same H H'->SqT K H' p (xs++ys)->Q (.ref p) H'
def zjJ:OpR X (binaryOp .Add) (zsn X.K):=by
 intro O s Y H x y v u Q I rx ry h;obtain⟨a,b,xs,ys,rfl,rfl,ha,hb,hz,q⟩:=h;by_cases hx:xs=[]
 .subst hx;cases rx;cases ry;obtain⟨its,r1,p1,_⟩:=I.tuple ha;obtain⟨its2,r2,p2,_⟩:=I.tuple hb;obtain⟨⟨cls,dd,data,sl⟩,ho,hc,n,hd⟩:=id p1;obtain⟨⟨cls2,dd2,data2,sl2⟩,ho2,hc2,n2,hd2⟩:=id p2;simp only at hc hd hc2 hd2;subst hc hd hc2 hd2;have hi:its=[]:=r1.nil_iff.mpr rfl;exact YDW ⟨_,ho,rfl⟩ ⟨_,ho2,rfl⟩ YCW YDJ YCq YCi (YCd _ _)
   (tuple_addW0 a b its.toArray its2.toArray n n2 dd dd2 sl sl2 (by simp[hi])) ⟨ho,ho2,⟨.ref b,H,I,rfl,q b H (λ_ _ e=>e) (by simpa using hb)⟩⟩
 .refine zlE O s Y H (.ref a) (.ref b) v u Q I rx ry ⟨a,b,xs,ys,rfl,rfl,ha,hb,hx,hz,λe=>?_,λ_ p hp=>?_⟩
  .subst e;exact q a H (λ_ _ e=>e) (by simpa using ha)
  .exact q p _ (λc o e=>by rw[zaf (zae e hp)];exact e) (SqT.of zac)
end
def zrZ(td ty:TE):TE:=λY H Q=>td Y H λx H1=>∃a,x=.ref a/\IsD H1 a/\ty Y H1 λy H2=>∃b kvs more,y=.ref b/\a≠b/\H2 a=some (.dK kvs)/\H2 b=some (.dK more)/\kvs.length+more.length<=sizeLine/\Q .non (upd H2 a (.dK (mergeK kvs more)))
section
variable{X:Cx}{o e:Expr}{apos cpos:Pos}{td ty:TE}
def zmK(ho:PE X o td)(he:PE X e ty)(m:M1 X o "update" apos e cpos):PE X (.Call (.Attribute o "update" apos) [e] [] cpos) (zrZ td ty):=by
 intro O s Y H Q I h;refine wpAny_Call_method m.base m.few m.line PySem.F.plainAttrs_dict PySem.F.slot_dict_update PySem.F.type_dict_update (thn (ho O s Y H _ I h) λu s1 ⟨x,H1,I1,rx,a,ex,d,q1⟩=>?_);subst ex;obtain rfl:u=Value.ref a:=rx;obtain⟨t1,t2,_⟩:=zrP I1 d;refine⟨t1,t2,?_⟩;rw[m.trees];refine Calls.callWith_builtin rfl (Calls.evalArgs_plain (Calls.spliced_cons (thn (he O s1 Y H1 _ I1 q1) λiv s2 ⟨y,H2,I2,ry,b,kvs,more,ey,hab,ea,eb,hz,q2⟩=>Calls.spliced_nil ?_)));subst ey;obtain rfl:iv=Value.ref b:=ry;obtain⟨z1,hd1,vs1,rel1,dd1⟩:=zkP I2.hok ea;obtain⟨z2,hd2,vs2,rel2,dd2⟩:=zkP I2.hok eb;refine call_meetsIn PySem.F.slot_dict_update dd1.typeIs PySem.F.entry_dict_update (PySem.F.args_dict_update_2 _ _) (meets_dict_update (zaF X.prog X.w) a b hab hd2) ⟨vs1,vs2,dd1,dd2,by rw[<-rel1.length,<-rel2.length];exact hz,λh' d1 d2 sb=>?_⟩;refine⟨.non,_,I2.write (x:=a) (e:=a) (o:=.dK (mergeK kvs more)) (t':=s2.toks) (by rw[ea];trivial) (.inl rfl) (λc q hc hq=>(sb.2 c hc).trans hq) (let⟨ob,_,_,q,_⟩:=d1;⟨ob,q⟩) ?_,rfl,q2⟩;exact⟨YAU (zcE more kvs) hz,hd1,_,KV.merge rel2 rel1,d1⟩
end
theorem zcL:∀(more:List (Key×V))(kvs:List (Key×V)),(∀k∈more.map (·.1),k∉kvs.map (·.1))->(more.map (·.1)).Nodup->mergeK kvs more=kvs++more
 |[],kvs,_,_=>by unfold mergeK;simp
 |x::more,kvs,h,hn=>by
  rw[YAb,YBl]at hn;have hx:valV kvs x.1=none:=by
   cases e:valV kvs x.1 with
   |none=>rfl
   |some v=>exact absurd (zmS e) (h x.1 (by simp))
  show mergeK (putK kvs x.1 x.2) more=_;rw[zkv _ hx,zcL more _ (λk hk q=>?_) hn.2,YAB]
  .rfl
  .rw[YAy]at q;rcases YAk.mp q with q|q
   .exact h k (by rw[YAb];exact YAp _ hk) q
   .have:k=x.1:=by simpa using q
    exact hn.1 (this▸hk)
def zdw:entryFor table "dict_itemiterator.__iter__"=some Builtin.«dict_keyiterator.__iter__»:=
 YEa (id':="dict_keyiterator.__iter__") (by kernel_rfl) (by first|rfl|decide +kernel|(unfold String.splitOn;simp +decide [String.splitOnAux])) (by decide +kernel) (by kernel_rfl)
def zhP(hit:IsItemIter s.heap it d i n ep ok ov)(h:Q (.ref it) s):wpAny (model P w) A (pyIter (.ref it)) Q E s:=by
 have hT:s.TypeIs (.ref it) "dict_itemiterator":=⟨_,hit,rfl⟩;refine YDA hT PySem.F.slot_dict_itemiterator_iter (YAY PySem.F.slot_dict_itemiterator_iter hT zdw ?_ (PySem.F.args_dict_itemiterator_iter_1 _));show wpAny _ _ (ret (.ref it)) _ _ s;exact YAf ⟨_,rfl,"dict_itemiterator",_,hT,PySem.F.slot_dict_itemiterator_next.lookup,h⟩
section
variable{X:Cx}{O:List (Addr×Obj)}{Y:St}{H:Hp}{s:Shared}
def Inv.freeze(I:Inv X O Y H s)(hd:H d=some (.dK kvs))(ho:s.heap.get? d=some o):Inv X O Y (upd H d (.frz o (.dK kvs))) s:=by
 have nd:∀b u,H b=some u->(∀q,u≠.dK q)->b≠d:=λb u e n z=>by rw[z,hd]at e;cases e;exact n _ rfl
 refine I.step (g':=s.gens) (d':=s.drawn) (t':=s.toks) (h':=s.heap) (ch:=[]) (λ_ z=>nomatch z) (λb u _ _ _ e _=>e) (λb u _ _ _ e _=>⟨u.slots,e⟩)
  (λb u _ e n=>by rw[zaf (λz=>by rw[z,hd]at n;cases n)];exact n) (λb u _ e=>⟨u,e⟩) (λb xs e=>by rw[zaf (nd b _ e (λq z=>by cases z))];exact e) (λb u xs e=>by rw[zaf (nd b _ e (λq z=>by cases z))];exact e)
  (λb ps e=>⟨#[],by rw[zaf (nd b _ e (λq z=>by cases z)),e];simp⟩) (λm hm=>hm) (λb u e=>?_) I.bare
 have st:∀c w,H c=some w->ObjOk X.prog X.w (upd H d (.frz o (.dK kvs))) s.heap c w:=λc w q=>
  (I.hok c w q).stay (λ_ _ _ z=>z) (λc' q'=>by rw[zaf (nd c' _ q' (λq z=>by cases z))];exact q') λc' xs q'=>by rw[zaf (nd c' _ q' (λq z=>by cases z))];exact q'
 by_cases hb:b=d
 .subst hb;rw[zac]at e;cases e;exact⟨ho,st b _ hd⟩
 .rw[zaf hb]at e;exact st b u e
end
theorem zhZ{α β:Type}{F:α->β->Prop}:∀{l₁:List α}{l₂:List β},Paired F l₁ l₂->∀{i:Nat}{a:α}{b:β},l₁[i]?=some a->l₂[i]?=some b->F a b
 |_,_,.nil,i,a,b,h,_=>by simp at h
 |_,_,.cons r t,0,a,b,h1,h2=>by simp at h1 h2;subst h1 h2;exact r
 |_,_,.cons r t,i+1,a,b,h1,h2=>zhZ t (by simpa using h1) (by simpa using h2)
def zsz(h:keyIs k u=true):RelV (kV k) u:=by
 rcases zaY h with⟨i,t,rfl,rfl⟩|⟨x,t,rfl,rfl⟩
 .exact⟨t,rfl⟩
 .exact⟨t,rfl⟩
def Iti(d:Addr)(o:Obj)(kvs:List (Key×V)):It:=
 ⟨λi H=>i<kvs.length/\H d=some (.frz o (.dK kvs)),λi H v H'=>∃t k x,H t=none/\kvs[i]?=some (k,x)/\v=.ref t/\H'=upd H t (.tup [kV k,x]),λi H=>i=kvs.length/\H d=some (.frz o (.dK kvs))⟩
def zlf{P:Program}{w:World}{K:qg}{es:List Expr}{x1:_}{pos:Pos}{it d:Addr}{o:Obj}{kvs:List (Key×V)}{ents:Array DictEntry}{ep:Nat}(ho:o.data=.dict ents ep) :
  Turn P w K (.Tuple es x1 pos) (Iti d o kvs) [it] it (λi h=>∃ok ov,IsItemIter h it d i kvs.length ep ok ov)where
 mem:=by simp
 obj:=λk h st c hc=>by
  obtain⟨ok,ov,h1⟩:=st;rw[YAg.mp hc];exact⟨_,h1,λv q=>by cases q⟩
 keep:=λk h h' st q=>by
  obtain⟨ok,ov,h1⟩:=st;exact⟨ok,ov,q it (by simp) _ h1⟩
 item:=by
  intro X hP hw hK hc k O s Y H E I hf st hg;subst hP hw hK;obtain⟨hk,hd⟩:=hg;obtain⟨ok,ov,h1⟩:=st;obtain⟨eo,z,hS,vs,rel,o',es',ep',e',xd,dd,kk,pp,nn⟩:=I.hok d _ hd;rw[eo]at e';cases e';rw[ho]at dd;cases dd;have hlen:kvs.length=vs.length:=rel.length;obtain⟨⟨kk0,vv⟩,hvs⟩:∃p,vs[k]?=some p:=⟨_,YAe (by omega)⟩;obtain⟨⟨k0,x0⟩,hkv⟩:∃p,kvs[k]?=some p:=⟨_,YAe hk⟩;have hrel:k0=kk0/\RelV x0 vv:=zhZ rel hkv hvs;obtain⟨rfl,rx⟩:=hrel;have dat:s.heap.DictAt (zaF X.prog X.w) d vs ep:=⟨o,ents,eo,xd,ho,kk,pp,nn⟩;rw[hlen]at h1;refine wpAny_pyNext_items_item (knd:=zaF X.prog X.w) h1 dat hvs λkey h' hkey g1 g2 g3 kp=>⟨_,rfl,?_⟩;refine wpAny_letOwnedTupleGo_items g1 λh'' z' sb=>?_;obtain⟨f0,f1,f2,f3,f4,f5⟩:=hf it (by simp);have tz:s.heap.objs.size≠it:=YBi (YAm h1);have hn:H s.heap.objs.size=none:=I.hok.fresh (YAj _);have kp2:∀b u,b∉[it]->s.heap.get? b=some u->h''.get? b=some u:=λb u hb q=>by
   have hb':b≠it:=λz=>hb (by simp[z]);exact sb.extBut b u hb' (kp b u hb' q)
  have I1:Inv X O Y (upd H s.heap.objs.size (.tup [kV k0,x0])) {s with heap:=h'',toks:=s.toks}:=I.turnedLaid (ch:=[it]) kp2 hf (YAj _)
   ⟨by show 2<=sizeLine;decide,[key,vv],.cons (zsz hkey) (.cons rx .nil),⟨_,sb.extBut _ _ tz g2,rfl,_,rfl⟩⟩
  refine⟨.ref s.heap.objs.size,_,I1,rfl,⟨_,k0,x0,hn,hkv,rfl,rfl⟩,⟨_,_,by rw[hlen];exact z'⟩,λc hc=>?_⟩;rw[YAg.mp hc,zaf tz.symm];exact f0
 done:=by
  intro X hP hw hK hc k O s Y H E I hf st hg;subst hP hw hK;obtain⟨hk,hd⟩:=hg;obtain⟨ok,ov,h1⟩:=st;obtain⟨eo,z,hS,vs,rel,o',es',ep',e',xd,dd,kk,pp,nn⟩:=I.hok d _ hd;rw[eo]at e';cases e';rw[ho]at dd;cases dd;have hlen:kvs.length=vs.length:=rel.length;have dat:s.heap.DictAt (zaF X.prog X.w) d vs ep:=⟨o,ents,eo,xd,ho,kk,pp,nn⟩;rw[hlen]at h1;have hh:X.A.handled=none:=I.ok.hd hc;refine wpAny_pyNext_items_end (knd:=zaF X.prog X.w) hh h1 dat (by rw[YB8];omega) λh' eb=>⟨rfl,?_⟩;exact I.turnedAll (t':=s.toks) (ch:=[it]) (λb u hb q=>eb b u (λz=>hb (by simp[z])) q) hf
 self:=λ_ _ _ _ _ st h=>by
  obtain⟨ok,ov,h1⟩:=st;exact zhP h1 h
def zqL(td:TE):TI:=λY H R=>td Y H λx H1=>∃d kvs,x=.ref d/\H1 d=some (.dK kvs)/\∀o,R (Iti d o kvs) (upd H1 d (.frz o (.dK kvs)))
def zox{X:Cx}{es:List Expr}{x1:_}{tpos:Pos}{o:Expr}{td:TE}{apos pos:Pos}(ho:PE X o td)(hbase:attributeBase o "items" X.env (eval o X.env)=eval o X.env:=by rfl)(hline:(apos.endLine==pos.line)=true:=by rfl) :
  PI X (.Tuple es x1 tpos) (.Call (.Attribute o "items" apos) [] [] pos) (zqL td):=by
 intro O s Y H R I h;refine wpAny_Call_method (T:="dict") (id:="dict.items") hbase rfl hline PySem.F.plainAttrs_dict PySem.F.slot_dict_items PySem.F.type_dict_items (thn (ho O s Y H _ I h) λu s1 ⟨x,H1,I1,rx,d,kvs,ex,hd,q⟩=>?_);subst ex;obtain rfl:u=Value.ref d:=rx;obtain⟨z,hS,vs,rel,dd⟩:=zkP I1.hok hd;refine⟨dd.typeIs,dd.mapOf.noDict,?_⟩;show wpAny _ _ (callWith pos (.builtin "dict.items") [.ref d] [] []) _ _ s1;obtain⟨ob,ents,ep,e1,e2,e3,e4,e5,e6⟩:=id dd;refine method_meetsIn PySem.F.slot_dict_items PySem.F.entry_dict_items rfl (PySem.evalArgs_none ⟨rfl,dd.typeIs,PySem.F.args_dict_items_1 _,_,meets_dict_items (zaF X.prog X.w) d hS,⟨vs,dd⟩,?_⟩);have k1:∀b q,s1.heap.get? b=some q->(s1.heap.push {cls:=.type "dict_items",data:=.fields #[.ref d]}).get? b=some q:=λb q hq=>YAd _ hq;have I2:Inv X O Y H1 {s1 with heap:=s1.heap.push {cls:=.type "dict_items",data:=.fields #[.ref d]}}:=I1.kept (t':=s1.toks) k1;have I3:=I2.freeze hd (k1 _ _ e1);have dat:(s1.heap.push {cls:=.type "dict_items",data:=.fields #[.ref d]}).DictAt (zaF X.prog X.w) d vs ep:=⟨ob,ents,k1 _ _ e1,e2,e3,e4,e5,e6⟩;refine wpAny_pyIter_items (knd:=zaF X.prog X.w) (s:={s1 with heap:=s1.heap.push {cls:=.type "dict_items",data:=.fields #[.ref d]}}) ⟨_,YAr _ rfl,rfl,rfl⟩ dat ?_;have I4:Inv X O Y (upd H1 d (.frz ob (.dK kvs))) {s1 with heap:=(s1.heap.push {cls:=.type "dict_items",data:=.fields #[.ref d]}).push {cls:=.type "dict_itemiterator",data:=.fields #[.none,.bool false,.ref d,.int 0 0,.int vs.length 0,.int ep 0,.none,.none]}}:=I3.kept (t':=s1.toks) λb q hq=>YAd _ hq;refine⟨_,[(s1.heap.push {cls:=.type "dict_items",data:=.fields #[.ref d]}).objs.size],_,_,_,rfl,I4,zlf (kvs:=kvs) (d:=d) e3,⟨.none,.none,?_⟩,λc hc=>?_,q ob⟩
 .rw[rel.length];exact YAr _ rfl
 .rw[YAg.mp hc];exact I3.fpOk (YAj _) (I3.hok.fresh (YAj _))
def zlK{d:Addr}{o:Obj}{kvs:List (Key×V)}{g:TG}{tb:TS}{D:Ends}{Y:St}{H:Hp}(Pv:Nat->St->Hp->Prop)(h0:Pv 0 Y H)(hl:∀i Y H,i<=kvs.length->Pv i Y H->H d=some (.frz o (.dK kvs)))
  (hs:∀i k x t Y H,kvs[i]?=some (k,x)->H t=none->Pv i Y H->g (.ref t) Y (upd H t (.tup [kV k,x])) λY2 H2=>tb {D with nx:=Pv (i+1),ct:=Pv (i+1),bk:=D.nx} Y2 H2) (hd:∀ Y H,Pv kvs.length Y H->D.nx Y H) :
  ∃W:Nat->Nat->St->Hp->Prop,(∃m,W 0 m Y H)/\∀i m Y H,W i m Y H ->
   ((Iti d o kvs).stop i H/\D.nx Y H)\/((Iti d o kvs).go i H/\∃N:St->Hp->Prop,(∀ Y' H',N Y' H'->∃m',m'<m/\W (i+1) m' Y' H')/\∀x H',(Iti d o kvs).yld i H x H'->g x Y H' λY2 H2=>tb {D with nx:=N,ct:=N,bk:=D.nx} Y2 H2):=by
 refine⟨λi m Y H=>m=kvs.length-i/\i<=kvs.length/\Pv i Y H,⟨kvs.length,by simp,YAC _,h0⟩,?_⟩;rintro i m Y H ⟨rfl,hi,p⟩;have q:=hl i Y H hi p;by_cases hlt:i<kvs.length
 .refine .inr ⟨⟨hlt,q⟩,Pv (i+1),λY' H' p'=>⟨kvs.length-(i+1),by omega,rfl,hlt,p'⟩,λv H' y=>?_⟩;obtain⟨t,k,x,hn,ex,rfl,rfl⟩:=y;exact hs i k x t Y H ex hn p
 .have e:i=kvs.length:=by omega
  subst e;exact .inl ⟨⟨rfl,q⟩,hd Y H p⟩
def zhz:splitId "dict.__len__"=some ("dict","__len__"):=by decide +kernel
section
variable{prog:Program}{w:World}{A:Around}{E:Value->Shared->Prop}{s:Shared}
theorem zeH{α β:Type}{F:α->β->Prop}:∀{l₁:List α}{l₂:List β},Paired F l₁ l₂->∀{i:Nat}{a:α}{b:β},l₁[i]?=some a->l₂[i]?=some b->F a b
 |_,_,.nil,i,a,b,h,_=>by simp at h
 |_,_,.cons r t,0,a,b,h1,h2=>by simp at h1 h2;subst h1 h2;exact r
 |_,_,.cons r t,i+1,a,b,h1,h2=>zeH t (by simpa using h1) (by simpa using h2)
def zkN:Key->Int
 |.inl i=>i
 |.inr _=>0
def ziO(hh:A.handled=none)(hS:(a==sysModules)=false)(dd:s.heap.DictOf (zaF prog w) a vs)(hk:∀p∈vs,∃i,p.1=Sum.inl i)(hz:vs.length<=60)
  (h:∀us h' tk,IntsAre us (vs.map λp=>zkN p.1)->(∀b o,s.heap.get? b=some o->h'.get? b=some o)->s.heap.objs.size<h'.objs.size->Q us {s with heap:=h',toks:=tk}) :
  wpAny (model prog w) A (collect (.ref a)) Q E s:=by
 obtain⟨ob,ents,ep,e1,e2,e3,e4,e5,e6⟩:=id dd;unfold collect;refine YAa (YDt (YBE entry_proto_collect' ?_));show wpAny _ _ (do again (.builtin "list.__iadd__" ⟨[<-newList [],.ref a],[]⟩)) _ _ s;refine YAa (YCM (YAf ⟨YDp _ (by decide +kernel),YBE entry_list_iadd' ?_⟩));show wpAny _ A.in1 (Builtin.List.listExtendWith (.ref s.heap.objs.size) (.ref a) (.ref s.heap.objs.size)) _ _ {s with heap:=s.heap.push (seqObj "list" #[] 0)};have alt:a<s.heap.objs.size:=YAm e1;have dat:(s.heap.push (seqObj "list" #[] 0)).DictAt (zaF prog w) a vs ep:=⟨ob,ents,YAd _ e1,e2,e3,e4,e5,e6⟩;have hTa:Shared.TypeIs {s with heap:=s.heap.push (seqObj "list" #[] 0)} (.ref a) "dict":=dat.dictOf.typeIs;unfold Builtin.List.listExtendWith;refine YAa (YCs hTa ?_);have h1:Builtin.List.listSameRef (.ref s.heap.objs.size) (.ref a)=false:=by simp[Builtin.List.listSameRef,YBi alt]
 have h2:(Value.type "dict"==Value.type "list")=false:=by decide
 have h3:(Value.type "dict"==Value.type "tuple")=false:=by decide
 simp only[h1,h2,h3,Bool.or_false,YA0,YB6];refine YAa (wpAny_pyIter_dict (s:={s with heap:=s.heap.push (seqObj "list" #[] 0)}) hS dat ?_);have zpush:(s.heap.push (seqObj "list" #[] 0)).objs.size=s.heap.objs.size+1:=YBk ..;generalize hIt:(s.heap.push (seqObj "list" #[] 0)).objs.size=it at *;have k2:∀b o,(s.heap.push (seqObj "list" #[] 0)).get? b=some o->((s.heap.push (seqObj "list" #[] 0)).push {cls:=.type "dict_keyiterator",data:=.fields #[.ref a,.int 0 0,.int vs.length 0,.int ep 0]}).get? b=some o:=λb o e=>YAd _ e;have hit0:((s.heap.push (seqObj "list" #[] 0)).push {cls:=.type "dict_keyiterator",data:=.fields #[.ref a,.int 0 0,.int vs.length 0,.int ep 0]}).IsKeyIter it a 0 vs.length ep:=⟨_,by rw[<-hIt];exact YAr _ rfl,rfl,rfl⟩;generalize ((s.heap.push (seqObj "list" #[] 0)).push {cls:=.type "dict_keyiterator",data:=.fields #[.ref a,.int 0 0,.int vs.length 0,.int ep 0]})=h2' at *;have dat2:h2'.DictAt (zaF prog w) a vs ep:=dat.at' λo e=>k2 _ _ e;have hTb:Shared.TypeIs {s with heap:=h2'} (.ref a) "dict":=dat2.dictOf.typeIs;refine YAa (YAZ ?_);unfold Builtin.List.listLengthHint;refine YAa (YDc hTb PySem.F.slot_dict_len.lookup ?_);dsimp only;rw[zhz];dsimp only;refine YAa (YCD hTb isSubtype_dict_dict ?_);refine zoJ (by decide) ?_;refine zjT (by decide +kernel) ?_;refine YAa (YCs hTb ?_);refine YAf ?_;refine zjT (by decide +kernel) ?_;refine YAa (YBr ?_);have hS1:h2'.get? s.heap.objs.size=some {cls:=.type "list",data:=.seq #[]}:=k2 _ _ (YAr _ rfl);refine YAa ?_;show wpAny _ A.in1 (updateSeq s.heap.objs.size (·.push .none) >>=λ_=>updateSeq s.heap.objs.size (·.pop)) _ _ _;refine YAa (YDi (s:={s with heap:=h2'}) hS1 rfl ?_);have hS2:=YBx (Obj.mapSeq (·.push Value.none)) hS1 rfl;refine YDi (hz:=by seq_fits) hS2 rfl ?_;have hS3:=YBx (Obj.mapSeq (·.pop)) hS2 rfl;have oth:∀b o,b≠s.heap.objs.size->h2'.get? b=some o->((h2'.update s.heap.objs.size (Obj.mapSeq (·.push Value.none))).update s.heap.objs.size (Obj.mapSeq (·.pop))).get? b=some o:=λb o hb e=>
  (YBL _ _ (Ne.symm hb)).trans ((YBL _ _ (Ne.symm hb)).trans e)
 have nit:it≠s.heap.objs.size:=by rw[zpush];exact YBi (YCn _)
 have nS:s.heap.objs.size∉[it,a]:=by
  simp only[YAn,YAP,YBU,not_or];exact⟨nit.symm,YBi alt⟩
 have nia:a≠it:=by rw[zpush];exact YAv (YA9 alt)
 have W:=(Walks.dictKeys (prog:=prog) (w:=w) (A:=A.in1) (knd:=zaF prog w) hh it a nia vs ep).toS;have x3:((h2'.update s.heap.objs.size (Obj.mapSeq (·.push Value.none))).update s.heap.objs.size (Obj.mapSeq (·.pop))).IsKeyIter it a 0 vs.length ep/\((h2'.update s.heap.objs.size (Obj.mapSeq (·.push Value.none))).update s.heap.objs.size (Obj.mapSeq (·.pop))).DictAt (zaF prog w) a vs ep:=
  ⟨hit0.at λo e=>oth _ _ nit e,dat2.at' λo e=>oth _ _ (YAv alt) e⟩
 refine YAf ⟨YCL PySem.F.plain_extend_loop _,codeAny_extend_loopS W (by rw[YAO];omega) _ nS _ vs.length 0 _ _ _ rfl (YAC _) x3 hS3 (ItemsOf.nil _) λs' acc' c' hm' hS' hacc=>?_⟩;refine YAa (wpAny_load hS' ?_);refine YAf ?_;have hI:IntsAre acc'.toList (vs.map λp=>zkN p.1):=by
  have gen:∀(us:List Value)(ns:List Int),us.length=ns.length->(∀(i:Nat) u n,us[i]?=some u->ns[i]?=some n->∃t,u=.int n t)->IntsAre us ns:=by
   intro us
   induction us with
   |nil=>intro ns hl _;cases ns with
    |nil=>exact .nil
    |cons _ _=>simp at hl
   |cons u us ih=>
    intro ns hl hf;cases ns with
    |nil=>simp at hl
    |cons n ns=>
     obtain⟨t,e⟩:=hf 0 u n rfl rfl;subst e;exact .cons n t (ih ns (by simpa using hl) λi u' n' h1 h2=>hf (i+1) u' n' (by simpa using h1) (by simpa using h2))
  refine gen _ _ (by rw[YBc,hacc.1,YAc]) λi u n hu hn=>?_;obtain⟨k,x,e1',e2'⟩:=hacc.2 i u (by rw[<-YA6];exact hu);rw[YAo,e1']at hn;have hn':zkN k=n:=Option.some.inj hn;obtain⟨j,ej⟩:=hk _ (YAz e1');have ej':k=Sum.inl j:=ej;subst ej';rcases zaY (show keyIs (Sum.inl j) u=true from e2')with⟨i',t,h1',h2'⟩|⟨x',t,h1',h2'⟩
  .cases h1';refine⟨t,?_⟩;rw[h2',<-hn'];rfl
  .cases h1'
 obtain⟨hh',g',d',tk',o'⟩:=s';have eg:g'=s.gens:=hm'.gens;have ed:d'=s.drawn:=hm'.drawn;have eo:o'=s.os:=hm'.os;subst eg ed eo;refine h acc'.toList hh' tk' hI (λb o e=>?_) (YAm hS');have hb1:=YAm e;exact hm'.heap b o (by
  simp only[YAn,YAP,YBU,not_or];exact⟨YAv hb1,by rw[zpush];exact YAv (YA9 hb1)⟩) (oth b o (YAv hb1) (k2 b o (YAd _ e)))
def zge(hh:A.handled=none)(hS:(a==sysModules)=false)(dd:s.heap.DictOf (zaF prog w) a vs)(hk:∀p∈vs,∃i,p.1=Sum.inl i)(hz:vs.length<=60)(hnd:(vs.map λp=>zkN p.1).Nodup)
  (h:∀l (out:List Value) ns' h' tk n,IntsAre out ns'->ns'.Pairwise (·<·)->(∀k,k∈ns'↔k∈vs.map λp=>zkN p.1)->s.heap.objs.size<=l->h'.get? l=some {cls:=.type "list",data:=.seq out.toArray n} ->
   (∀b o,s.heap.get? b=some o->h'.get? b=some o)->Q (.ref l) {s with heap:=h',toks:=tk}) :
  wpAny (model prog w) A (call (.builtin "sorted") [.ref a]) Q E s:=by
 refine YCC kind_sorted plain_sorted entry_sorted (args_sorted1 _) ?_;unfold Builtin.«sorted»;refine YAa (m:=checkCount "sorted" 1 1 _) (YAf ?_);refine YAa (ziO (A:=A.in1) hh hS dd hk hz λus h1 tk hI k1 hz1=>?_);have hl:us.length<64:=by
  have e:=hI.length;rw[YAc]at e;omega
 refine YAa (YCM ?_ (by rw[YAO];omega));have hoL:(h1.push (seqObj "list" us.toArray 0)).get? h1.objs.size=some (seqObj "list" us.toArray 0):=YAr _ rfl;refine YAa (YAZ (YAY YEd ⟨_,hoL,rfl⟩ YD0 (list_sort_tree hoL hI hl λout ns' a1 a2 a3=>⟨_,rfl,?_⟩) (YEe _)));refine YAf ⟨_,rfl,?_⟩;obtain⟨n,hat⟩:=sortedHeap_at (out:=out) hoL;refine h h1.objs.size out.toList ns' _ tk n a1 ?_ (λk=>a2.mem_iff) (YBP hz1) hat λb o e=>?_
 .have nd':ns'.Nodup:=a2.nodup_iff.mpr hnd;exact(YA4.mpr λi j hi hj hij=>by
   have q1:=YA4.mp a3 i j hi hj hij;have q2:ns'[i]≠ns'[j]:=λz=>absurd ((YDN nd').mp z) (YAv hij);omega)
 .have hb:=YAm (k1 b o e);rw[sortedHeap_old (YAv hb) (by rw[YD8];exact YA9 hb)];exact YAd _ (k1 b o e)
end
section
variable{X:Cx}
noncomputable def zoQ:List V->Hp->VK->Prop:=λvs H Q=>∃(p:Addr)(ks:List (Int×V)),vs=[.ref p]/\H p=some (.dK (ks.map λk=>(Sum.inl k.1,k.2)))/\ks.length<=60/\(ks.map (·.1)).Nodup /\
  ∀(l:Addr)(ns:List Int),H l=none->ns.Pairwise (·<·)->(∀k:Int,k∈ns↔k∈ks.map (·.1))->Q (.ref l) (upd H l (.lst (ns.map V.int)))
def zih(hc:X.calm=true):CallR X (.builtin "sorted") zoQ:=by
 intro O s Y H vs us Q I r h;obtain⟨p,ks,rfl,hq,hb,hnd,q⟩:=h;obtain⟨u,rfl,rx⟩:=zen r;cases rx;obtain⟨z,hS,ws,rel,dd⟩:=zkP I.hok hq;have hlen:ks.length=ws.length:=by have:=rel.length;rwa[YAc]at this
 have hkeys:ws.map (λp=>zkN p.1)=ks.map (·.1):=by
  apply YCo
  .rw[YAc,YAc,hlen]
  .intro i h1 h2;rw[YAc]at h1 h2;have e:=Paired.mapP rel (G:=λa b=>a.1=b.1) λa b h=>h.1
   have:=zeH e (i:=i) (a:=(Sum.inl ks[i].1,ks[i].2)) (b:=ws[i]) (by rw[YAo,YAe h2];rfl) (YAe h1)
   rw[YCE,YCE,<-this];rfl
 have hin:∀p∈ws,∃i,p.1=Sum.inl i:=λy hy=>by
  obtain⟨i,hi⟩:=YBT hy;have h1:=(YAh.mp hi).1;have e:=Paired.mapP rel (G:=λa b=>a.1=b.1) λa b h=>h.1
  have:=zeH e (i:=i) (a:=(Sum.inl ks[i].1,ks[i].2)) (b:=y) (by rw[YAo,YAe (by omega)];rfl) hi
  exact⟨_,this.symm⟩
 refine zge (I.ok.hd hc) hS dd hin (by omega) (by rw[hkeys];exact hnd) λl out ns' h' tk n hI hp hm hl he hk=>?_;have hn:H l=none:=I.hok.fresh hl;have hle:(ns'.map V.int).length<=sizeLine:=by
  have:=zaX (hp.imp λh=>YD1 h) λx hx=>(hm x).mp hx
  rw[YAc]at this;rw[YAc,YAO];omega
 refine⟨.ref l,upd H l (.lst (ns'.map V.int)),?_,rfl,q l ns' hn hp λk=>by rw[hm k,hkeys]⟩;exact I.laid (t':=tk) hk hl ⟨hle,out,n,zg3 hI,he⟩
end
end L2
namespace HT
open PySem PySem.Spec PyProof.Rows
section
variable{prog:Program}{w:World}{A:Around}{E:Value->Shared->Prop}{s:Shared}
def getItem_tuple_whole{t sl:Addr}{items:Array Value}{vl vu:Value}{lo hi:Option Int}{Q:Value->Shared->Prop}(ht:IsTup s.heap t items)(hs:s.heap.IsSliceOf sl vl vu .none)(pl:IsPart vl lo)(pu:IsPart vu hi)
  (hw:sIx items.size 0 lo=0/\sIx items.size items.size hi=items.size)
  (h:Q (.ref t) s):wpAny (model prog w) A (getItem (.ref t) (.ref sl)) Q E s:=by
 obtain⟨os,hos,hcs,hds⟩:=id hs;have hTs:s.TypeIs (.ref sl) "slice":=⟨os,hos,hcs⟩;unfold getItem
 try with_reducible refine YAZ ?_
 first|refine YAa (YAf ?_)|skip
 refine YAa (YDz ht.typeIs (by decide) ?_);refine YAa (YA3 (name:=Str.ofString "__getitem__") ht.typeIs YAM
  (YAY YAM ht.typeIs YC9 ?_ (YDn _ _)))
 show wpAny _ _ (Builtin.Tuple.tupleItemsOf (.ref t) >>= _) _ _ s;refine YAa (tupleItemsOf_ ht ?_);refine YAa (YCs hTs ?_);rw[if_pos (by decide)];refine YAa (zcR hs pl pu ?_);have hyes:((((sIx items.size 0 lo:Nat):Int)==0&&(1:Int)==1&&(sIx items.size items.size hi-sIx items.size 0 lo)==items.size)=true):=by
  rw[hw.1,hw.2];simp
 show wpAny _ _ (if (((sIx items.size 0 lo:Nat):Int)==0&&(1:Int)==1&&(sIx items.size items.size hi-sIx items.size 0 lo)==items.size)=true then _ else _) _ _ s;rw[if_pos hyes];unfold Builtin.Tuple.tupleIsExact;refine YAa (YAa (YCs ht.typeIs (YAf ?_)));rw[if_pos (by decide)];refine YAa (YBr ?_);exact YAf ⟨_,rfl,YAf h⟩
def znE(xs:List Value):(List.range xs.length).filterMap (λ(m:Nat)=>xs.toArray[(((xs.length:Int)-1)+(m:Int)*(-1)).toNat]?)=xs.reverse:=by
 apply YDE;intro i;have e:∀k,k<xs.length->(λ(m:Nat)=>xs.toArray[(((xs.length:Int)-1)+(m:Int)*(-1)).toNat]?) k=xs[xs.length-1-k]?:=λk hk=>by
  have:(((xs.length:Int)-1)+(k:Int)*(-1)).toNat=xs.length-1-k:=by omega
  show xs.toArray[_]?=_;rw[this];simp
 have gen:∀n,n<=xs.length->(List.range n).filterMap (λ(m:Nat)=>xs.toArray[(((xs.length:Int)-1)+(m:Int)*(-1)).toNat]?)=(List.range n).map λm=>xs.reverse[m]?.getD .none:=by
  intro n
  induction n with
  |zero=>intro _;rfl
  |succ n ih=>
   intro hn;rw[YDZ,List.filterMap_append,YAy,ih (by omega)];congr 1;have h1:=e n (by omega);have h2:xs.reverse[n]?=xs[xs.length-1-n]?:=List.getElem?_reverse (by omega);have h3:xs[xs.length-1-n]?=some xs[xs.length-1-n]:=YAe (by omega);have h1':xs.toArray[(((xs.length:Int)-1)+(n:Int)*(-1)).toNat]?=xs[xs.length-1-n]?:=h1;rw[YA1,h1',h3,YAb,h2,h3];rfl
 rw[gen _ (YAj _)];by_cases hi:i<xs.length
 .rw[YAo,YCG hi]
  have:xs.reverse[i]?=some (xs.reverse[i]'(by simpa using hi)):=YAe (by simpa using hi)
  show some (xs.reverse[i]?.getD Value.none)=_;rw[this];rfl
 .rw[YBQ (by simpa using YDO hi),YBQ (by simpa using YDO hi)]
def getItem_tuple_rev{t sl:Addr}{items:List Value}{u:Tok}{Q:Value->Shared->Prop}(ht:IsTup s.heap t items.toArray)(hs:s.heap.IsSliceOf sl .none .none (.int (-1) u))
  (h:Q (.ref s.heap.objs.size) {s with heap:=s.heap.push {cls:=.type "tuple",data:=.seq items.reverse.toArray}})
  (hsz:items.length<=sizeLine):wpAny (model prog w) A (getItem (.ref t) (.ref sl)) Q E s:=by
 have htake:sizeOk (.seq items.reverse.toArray):=by
  show items.reverse.toArray.size<=sizeLine;rw[YAu,YCH];exact hsz
 obtain⟨os,hos,hcs,hds⟩:=id hs;have hTs:s.TypeIs (.ref sl) "slice":=⟨os,hos,hcs⟩;unfold getItem
 try with_reducible refine YAZ ?_
 first|refine YAa (YAf ?_)|skip
 refine YAa (YDz ht.typeIs (by decide) ?_);refine YAa (YA3 (name:=Str.ofString "__getitem__") ht.typeIs YAM
  (YAY YAM ht.typeIs YC9 ?_ (YDn _ _)))
 show wpAny _ _ (Builtin.Tuple.tupleItemsOf (.ref t) >>= _) _ _ s;refine YAa (tupleItemsOf_ ht ?_);refine YAa (YCs hTs ?_);rw[if_pos (by decide)];have ap:∀{Q':Int×Int×Nat->Shared->Prop},Q' ((items.length:Int)-1,-1,items.length) s->wpAny (model prog w) A.in1 (Builtin.Slice.sliceApplied (.ref sl) (pure (items.toArray.size:Int))) Q' E s:=by
  intro Q' h';unfold Builtin.Slice.sliceApplied Builtin.Slice.sliceFields;refine YAa (YAa (YBd hos hds (x:=.none) rfl (YAa (YBd hos hds (x:=.none) rfl (YAa (YBd hos hds (x:=.int (-1) u) rfl (YAf ?_)))))));refine YAa (slicePart_int ?_);show wpAny _ _ (if ((-1:Int)==0)=true then _ else _) _ _ s;rw[if_neg (by decide)];refine YAa (YDs (YAa (YDs (YAa (YAf ?_)))));show wpAny _ _ (match Builtin.Slice.sliceAdjust none none (-1) (items.toArray.size:Int)with|(lo,hi)=>pure (lo,(-1:Int),Builtin.Slice.slicePlaces lo hi (-1))) _ _ s;have e1:Builtin.Slice.sliceAdjust none none (-1) (items.toArray.size:Int)=((items.length:Int)-1,-1):=by
   unfold Builtin.Slice.sliceAdjust;simp
  rw[e1];show wpAny _ _ (pure ((items.length:Int)-1,(-1:Int),Builtin.Slice.slicePlaces ((items.length:Int)-1) (-1) (-1))) _ _ s;have e2:Builtin.Slice.slicePlaces ((items.length:Int)-1) (-1) (-1)=items.length:=by
   unfold Builtin.Slice.slicePlaces;have h1:¬ ((-1:Int)>0):=by omega
   simp only[h1,YB6,Int.neg_neg,Int.ediv_one];split<;>omega
  rw[e2];exact YAf h'
 refine YAa (ap ?_);have hno:¬ ((((items.length:Int)-1)==0&&(-1:Int)==1&&items.length==items.toArray.size)=true):=by
  intro q;rw[YAJ,YAJ]at q;exact absurd q.1.2 (by decide)
 show wpAny _ _ (if (((items.length:Int)-1)==0&&(-1:Int)==1&&items.length==items.toArray.size)=true then _ else _) _ _ s;rw[if_neg hno,znE];first
  |exact YAa (m:=Builtin.Tuple.tupleExact _) (YAX (YAf ⟨_,rfl,YAf h⟩) htake)
  |exact YAa (m:=Builtin.Tuple.tupleExact _) (YAX (YAa (YAf (YAf ⟨_,rfl,YAf h⟩))) htake)
  |exact YAa (YAa (m:=Builtin.Tuple.tupleExact _) (YAX (YAf (YAf ⟨_,rfl,YAf h⟩)) htake))
  |exact YAa (YAa (m:=Builtin.Tuple.tupleExact _) (YAX (YAf ⟨_,rfl,YAf h⟩) htake))
end
end HT
namespace L2
open PySem PySem.Spec PyProof.Rows
section
variable{X:Cx}
def rSlG(K:qg):V->Option Int->Option Int->Hp->VK->Prop:=λx lo hi H Q=>∃a xs,x=.ref a/\SqT K H a xs/\∀p H',Same H H'->SqT K H' p (cutV xs lo hi)->Q (.ref p) H'
def zmH:SlR X (rSlG X.K):=by
 intro O s Y H x v vl vu lo hi sl Q I rx hs pl pu h;obtain⟨a,xs,rfl,hx,q⟩:=h;by_cases hw:HT.sIx xs.length 0 lo=0/\HT.sIx xs.length xs.length hi=xs.length
 .cases rx;obtain⟨its,r,ht,hz⟩:=I.tuple hx;have hlen:its.toArray.size=xs.length:=by rw[YAu];exact r.length.symm
  refine⟨"tuple",_,YAM.lookup,ht.typeIs,?_⟩;refine HT.getItem_tuple_whole ht hs pl pu (by rw[hlen];exact hw) ?_;refine⟨.ref a,H,I,rfl,q a H (λ_ _ e=>e) ?_⟩
  have:cutV xs lo hi=xs:=by unfold cutV;rw[hw.1,hw.2];simp
  rw[this];exact hx
 .exact zoX O s Y H (.ref a) v vl vu lo hi sl Q I rx hs pl pu ⟨a,xs,rfl,hx,hw,λp hp=>q p _ (λc o e=>by rw[zaf (zae e hp)];exact e) (SqT.of zac)⟩
def zsM(K:qg)(te:TE)(ts:TE):TE:=λY H Q=>te Y H λx H1=>ts Y H1 λy H2=>∃a xs,x=.ref a/\y=.int (-1)/\SqT K H2 a xs/\∀p,H2 p=none->Q (.ref p) (upd H2 p (.tup xs.reverse))
def znI(r:Vals xs us):Vals xs.reverse us.reverse:=by
 induction r with
 |nil=>exact .nil
 |cons h t ih=>rw[YDF,YDF];exact ih.append (.cons h .nil)
def zpA{e st:Expr}{te ts:TE}{p2 pos:Pos}(he:PE X e te)(hst:PE X st ts):PE X (.Subscript e (.Slice none none (some st) p2) pos) (zsM X.K te ts):=by
 intro O s Y H Q I h;refine Subscript_ (thn (he O s Y H _ I h) λv s1 ⟨x,H1,I1,r1,q1⟩=>?_);refine wpAny_Slice ?_;rw[evalPart_none,evalPart_some];refine YAf (YAf (thn (hst O s1 Y H1 _ I1 q1) λvs s2 ⟨y,H2,I2,r2,q2⟩=>?_));obtain⟨a,xs,rfl,rfl,hx,q⟩:=q2;cases r1;obtain⟨t,rfl⟩:=r2;have I4:Inv X O Y H2 {s2 with heap:=s2.heap.push {cls:=.type "slice",data:=.fields #[.none,.none,.int (-1) t]}}:=I2.kept (t':=s2.toks) λb ob q=>YAd _ q;show wpAny (model X.prog X.w) X.A (subscriptTail e (.Slice none none (some st) p2) (.ref a) (.ref s2.heap.objs.size)) (EP X O Y Q) X.xe {s2 with heap:=s2.heap.push {cls:=.type "slice",data:=.fields #[.none,.none,.int (-1) t]}};obtain⟨its,r,ht,hz⟩:=I4.tuple hx;have hlen:=r.length;refine tail_any (ops:=[.ref a,.ref s2.heap.objs.size]) ht.typeIs YAM.lookup ?_ (by with_unfolding_all rfl);refine HT.getItem_tuple_rev ht (Heap.IsSliceOf.new ..) ?_ (by omega);refine⟨.ref _,_,I4.laid (t':=s2.toks) (o:=.tup xs.reverse) (λb ob q=>YAd _ q) (YAj _) ?_,rfl,q _ (I4.hok.fresh (YAj _))⟩;exact⟨by rw[YCH];exact hz,_,znI r,IsTup.new _ _⟩
end
section
variable{prog:Program}{w:World}{A:Around}{E:Value->Shared->Prop}{s:Shared}
theorem ziL(hne:t≠it):∀(n i:Nat)(s:Shared)(Q:List Value->Shared->Prop),s.heap.IsListIter it t i->s.heap.IsList t items->i+n<=items.size ->
  (∀h',h'.IsListIter it t (i+n)->Heap.SameBut it s.heap h'->Q ((items.toList.drop i).take n) {s with heap:=h'})->wpAny (model prog w) A (draw (.ref it) n) Q E s
 |0,i,s,Q,hit,_,_,hQ=>by
  show wpAny _ _ (pure []) Q E s;exact YAf (by simpa using hQ s.heap hit (Heap.SameBut.refl ..))
 |n+1,i,s,Q,hit,ht,hle,hQ=>by
  have hlt:i<items.size:=by omega
  show wpAny _ _ (pyNext (.ref it) >>= _) Q E s;refine YAa (wpAny_pyNext_list_item hit ht (x:=items[i]) (by simp[hlt]) λh₁ hit₁ hs₁=>?_);refine YAa (YAZ (ziL hne n (i+1) _ _ hit₁ (ht.extBut hs₁.extBut hne) (by omega) λh₂ hit₂ hs₂=>YAf ?_));have hd:items.toList.drop i=items[i]::items.toList.drop (i+1):=by simp[YAL,hlt]
  have:=hQ h₂ (by rw[show i+(n+1)=i+1+n by omega];exact hit₂) (hs₁.trans hs₂)
  rw[hd,YB2]at this;exact this
def zeW(hh:A.handled=none)(ht:s.heap.IsList t items)
  (hQ:∀h',Heap.ExtBut s.heap.objs.size s.heap h'->Q items.toList {s with heap:=h'}):wpAny (model prog w) A (unpackItems (.ref t) items.size none) Q E s:=by
 have hlt:t≠s.heap.objs.size:=by obtain⟨o,ho,_⟩:=ht;exact YAv (YAm ho)
 unfold unpackItems;refine YAa ?_
 .unfold notIterableAtAll;refine YAa (YDc ht.typeIs slot_list_iter.lookup ?_);refine YAf ?_;simp only[YA0,YB6];refine YAa (YAZ (YCw ht ?_));have ht0:=ht.push {cls:=.type "list_iterator",data:=.fields #[.ref t,.int 0 0]};refine YAa (YAZ (ziL hlt items.size 0 _ _ ⟨_,YAr _ rfl,rfl,rfl⟩ ht0 (by omega) λh₁ hit₁ hs₁=>?_));have hall:List.take items.size (List.drop 0 items.toList)=items.toList:=by
   rw[YCQ];exact YAT (by simp)
  rw[hall];rw[if_neg (by simp)];have ht₁:h₁.IsList t items:=ht0.extBut hs₁.extBut hlt;refine YAa (YAZ (wpAny_pyNext_list_end hh hit₁ ht₁ (by simp) λh₂ he₂=>?_));simp only[Option.isSome_none,YA0,YB6];refine YAf (hQ h₂ λb o hb e=>he₂ b o hb (hs₁.extBut b o hb (YAd _ e)))
def zeA{x1}(hh:A.handled=none)(ht:s.heap.IsList t items)
  (hn:(assignEach elts env).length=items.size) (hstar:(assignEach elts env).findIdx? (·.1)=none)
  (h:∀h',Heap.ExtBut s.heap.objs.size s.heap h'->wpAny (model prog w) A (assignInOrder ((assignEach elts env).map (·.2)) items.toList) Q E {s with heap:=h'}) :
  wpAny (model prog w) A (assign (.Tuple elts x1 pos) env (.ref t)) Q E s:=by
 rw[assign_Tuple];refine YAa (YBp ?_);unfold unpack;rw[hn,hstar];exact YAa (YAZ (zeW hh ht h))
end
def gSeq(K:qg)(n:Nat)(t:TGs):TG:=λv Y H Q=>∃a xs,v=.ref a/\(SqT K H a xs\/SqL K H a xs)/\xs.length=n/\t xs Y H Q
def zbT(hc:X.calm=true)(h:PGs X es t)
  (hn:(assignEach es X.env).length=n:=by rfl) (hst:(assignEach es X.env).findIdx? (·.1)=none:=by rfl):PG X (.Tuple es k pos) (gSeq X.K n t):=by
 intro O s Y H v u Q I r hw;obtain⟨a,xs,e1,hq,hl,hw⟩:=hw;rcases hq with hq|hq
 .exact zcB hc h hn hst O s Y H v u Q I r ⟨a,xs,e1,hq,hl,hw⟩
 .subst e1;cases r;obtain⟨its,rv,ht,hz⟩:=I.list hq;refine zeA (I.ok.hd hc) ht.isList (by simp[hn,<-hl,rv.length]) hst λh' hx=>?_;have I1:Inv X O Y H {s with heap:=h'}:=I.kept (t':=s.toks) λb o e=>hx b o (YAv (YAm e)) e;exact h O _ Y H xs _ Q I1 (by simpa using rv) hw
def zqY{K:qg}{n:Nat}{t:TGs}(h:zfH t):zeF (gSeq K n t):=λv Y H Q Q' f ⟨a,xs,e,s,l,q⟩=>⟨a,xs,e,s,l,h _ _ _ _ _ f q⟩
def zqj{K:qg}{sub:List (Option Nat)}{n:Nat}{t:TGs}(h:zgt sub t):ze3 sub (gSeq K n t):=λv Y H Q ⟨a,xs,e,s,l,q⟩=>⟨a,xs,e,s,l,h _ _ _ _ q⟩
section
variable{P:Program}{w:World}{A:Around}{E:Value->Shared->Prop}{s:Shared}{z a b i j:Addr}{f g:List Addr}{n m k:Nat}{F1 F2:Nat->Value->Prop}{S1 S2:Nat->Heap->Prop}
def zhr(Z:ZAp z a b i j f g)(D1:Draws P w A i f n F1 S1)(D2:Draws P w A j g m F2 S2)(hz:IsZip s.heap z a b .none)(ha:IsPair s.heap a (.ref i) (.ref j))(hb:IsPair s.heap b u v)
  (s1:S1 m s.heap) (s2:S2 m s.heap) (k1:m<n)
  (q:∀h' tk e,(∀c o,c≠z->c≠b->c≠i->c≠j->s.heap.get? c=some o->h'.get? c=some o)->(∃o,h'.get? e=some o/\o.cls=.type "StopIteration")->E (.ref e) {s with heap:=h',toks:=tk}) :
  wpAny (model P w) A (Builtin.«zip.__next__» ⟨[.ref z],[]⟩) Q E s:=by
 show wpAny _ _ (field (.ref z) 2 >>= _) _ _ _;refine YAa (YBd hz rfl (x:=.bool false) rfl ?_);show wpAny _ _ (field (.ref z) 3 >>= _) _ _ _;refine YAa (YBd hz rfl (x:=.ref a) rfl (YAa (YBC ha rfl ?_)));show wpAny _ _ (Builtin.SmallTypes.ownedTupleIsFree (.ref z) >>= _) _ _ _;refine YAa ?_;unfold Builtin.SmallTypes.ownedTupleIsFree;refine YAa (YBd hz rfl (x:=.none) rfl (YAf ?_));simp only[YCX];refine YAa (YBr (YAa (YBd hz rfl (x:=.ref b) rfl (YAa (YAW hz (by simp) λh1 z1 e1=>?_)))))
 replace z1:IsZip h1 z a b .ellipsis:=z1
 refine YAa ?_;simp only[YCY,YD2,YDd,YEf];refine YAa (YAa (YC5 ?_));show wpAny _ _ (Builtin.SmallTypes.nextOf (.ref i) >>= _) _ _ _;have t1:S1 m h1:=D1.frame _ _ _ s1 (zbK e1 Z.zf);have t2:S2 m h1:=D2.frame _ _ _ s2 (zbK e1 Z.zg);refine YAa (D1.item m _ _ _ k1 t1 λx h2 tk2 px u1 e2=>YAf ?_);have b2:IsPair h2 b u v:=e2.extBut _ _ Z.bi (e1.extBut _ _ Z.bz hb);refine YAa (YBC b2 rfl (YAa (YC1 b2 λh3 b3 e3=>?_)))
 replace b3:IsPair h3 b x v:=b3
 refine YAa (wpAny_letGo (YAf ?_));refine YAa (YAa (YC5 ?_));show wpAny _ _ (Builtin.SmallTypes.nextOf (.ref j) >>= _) _ _ _;have t3:S2 m h3:=D2.frame _ _ _ (D2.frame _ _ _ t2 (zbK e2 Z.ig)) (zbK e3 Z.bg);refine YAa (D2.done _ _ _ t3 λh4 e e4 he=>?_);obtain⟨oe,ho,hc⟩:=he;have z3:IsZip h3 z a b .ellipsis:=e3.extBut _ _ Z.bz.symm (e2.extBut _ _ Z.iz.symm z1);have z4:IsZip h4 z a b .ellipsis:=e4 _ _ Z.jz.symm z3;have ez:e≠z:=λx=>by subst x;rw[z4]at ho;cases ho;simp at hc
 refine YAW z4 (by simp) λh5 _ e5=>q h5 tk2 e (λc o c1 c2 c3 c4 x=>e5.extBut _ _ c1 (e4 _ _ c4 (e3.extBut _ _ c2 (e2.extBut _ _ c3 (e1.extBut _ _ c1 x))))) ⟨oe,e5.extBut _ _ ez ho,hc⟩
def zeZ(Z:ZAp z a b i j f g)(D1:Draws P w A.in1 i f n F1 S1)(D2:Draws P w A.in1 j g m F2 S2)(hz:IsZip s.heap z a b .none)(ha:IsPair s.heap a (.ref i) (.ref j))(hb:IsPair s.heap b u v)(s1:S1 m s.heap)(s2:S2 m s.heap)(k1:m<n)
  (q:∀h' tk,(∀c o,c≠z->c≠b->c≠i->c≠j->s.heap.get? c=some o->h'.get? c=some o)->Q none {s with heap:=h',toks:=tk}):wpAny (model P w) A (pyNext (.ref z)) Q E s:=by
 have hT:s.TypeIs (.ref z) "zip":=⟨_,hz,rfl⟩;unfold pyNext;refine YAa (YCK (YA3 (name:=Str.ofString "__next__") hT YCt (YAY YCt hT YDR (zhr Z D1 D2 hz ha hb s1 s2 k1 λh' tk e hk he=>?_) (YDD _))));obtain⟨o,ho,hc⟩:=he;exact YAa (YCD (T:="StopIteration") (b:=true) ⟨o,ho,hc⟩ YEb (YAf (q _ _ hk)))
end
def Itz2(tp:Bool)(K:qg)(a b:Addr):It:=
 ⟨(Itz tp K a b).go,(Itz tp K a b).yld,λi H=>∃xs ys,SQ tp K H a xs/\SQ tp K H b ys/\i=min xs.length ys.length⟩
def zlr{P:Program}{w:World}{K:qg}{es:List Expr}{x1:_}{pos:Pos}{tp:Bool}{z c d i j a b:Addr}(Z:ZAp z c d i j [i,a] [j,b])(na:a≠i)(nb:b≠j) :
  Turn P w K (.Tuple es x1 pos) (Itz2 tp K a b) [z,c,d,i,j] z (ZTn tp z c d i j a b)where
 mem:=(zdo (tp:=tp) (P:=P) (w:=w) (K:=K) (es:=es) (x1:=x1) (pos:=pos) Z na nb).mem
 obj:=(zdo (tp:=tp) (P:=P) (w:=w) (K:=K) (es:=es) (x1:=x1) (pos:=pos) Z na nb).obj
 keep:=(zdo (tp:=tp) (P:=P) (w:=w) (K:=K) (es:=es) (x1:=x1) (pos:=pos) Z na nb).keep
 item:=(zdo (tp:=tp) (P:=P) (w:=w) (K:=K) (es:=es) (x1:=x1) (pos:=pos) Z na nb).item
 done:=by
  intro X hP hw hK hc k O s Y H E I hf st hg;obtain⟨xs,ys,qa,qb,hx⟩:=hg;by_cases hle:xs.length<=ys.length
  .exact(zdo (tp:=tp) (P:=P) (w:=w) (K:=K) (es:=es) (x1:=x1) (pos:=pos) Z na nb).done X hP hw hK hc k O s Y H E I hf st ⟨xs,qa,by omega⟩
  .subst hP hw hK;obtain⟨ia,ra,ca,za⟩:=I.sq qa;obtain⟨ib,rb,cb,zb⟩:=I.sq qb;obtain⟨h1,h2,⟨u,v,h3⟩,h4,h5⟩:=st;have hh:X.A.in1.handled=none:=I.ok.hd hc;have l1:=ra.length;have l2:=rb.length;have hk:k=ib.toArray.size:=by simp;omega
   subst hk;refine zeZ Z (ziA tp hh i a na ia.toArray) (ziA tp hh j b nb ib.toArray) h1 h2 h3 ⟨h4,ca⟩ ⟨h5,cb⟩ (by simp;omega) λh' tk kk=>⟨rfl,?_⟩;exact I.turnedAll (t':=tk) (ch:=[z,c,d,i,j]) (λb u hb e=>by
    simp only[YAn,YAP,YBU,not_or]at hb;exact kk b u hb.1 hb.2.2.1 hb.2.2.2.1 hb.2.2.2.2 e) hf
 self:=(zdo (tp:=tp) (P:=P) (w:=w) (K:=K) (es:=es) (x1:=x1) (pos:=pos) Z na nb).self
def zrW(K:qg)(ta:TA):TI:=λY H R=>ta Y H λvs H1=>∃(tp:Bool)(a b:Addr)(xs ys:List V),vs=[.ref a,.ref b]/\SQ tp K H1 a xs/\SQ tp K H1 b ys/\R (Itz2 tp K a b) H1
def zo8(hg:Gl X "zip")(hm:X.mg "zip"=none)(ha:PA X [a,b] ta)(hs:starEach [a,b] X.env=[(false,eval a X.env),(false,eval b X.env)]:=by rfl)(hs2:starEach [b] X.env=[(false,eval b X.env)]:=by rfl) :
  PI X (.Tuple es x1 tpos) (.Call (.Name "zip" p) [a,b] [] pos) (zrW X.K ta):=by
 intro O s Y H R I h;refine Call_ (zgD I hg hm boot_zip (YB0 (thn (ha pos O s Y H _ I h) λus s1 ⟨vs,H1,I1,r1,q1⟩=>?_) (by rw[hs,hs2]) (by rw[hs2];rfl)));obtain⟨tp,l,m,xs,ys,e,q1,q2,q⟩:=q1;subst e;obtain⟨u,v,rfl,ru,rv⟩:=zoh r1;cases ru;cases rv;obtain⟨ia,ra,ca,za⟩:=I1.sq q1;obtain⟨ib,rb,cb,zb⟩:=I1.sq q2;have lt1:=ca.lt;have lt2:=cb.lt;refine zlx ca cb λh' zt kk=>?_;refine wpAny_pyIter_zip zt.1 ?_;have I2:Inv X O Y H1 {s1 with heap:=h'}:=I1.kept (t':=s1.toks) kk;refine⟨_,[s1.heap.objs.size+4,s1.heap.objs.size+2,s1.heap.objs.size+3,s1.heap.objs.size,s1.heap.objs.size+1],_,_,H1,rfl,I2,zlr (zrl _ _ _ lt1 lt2) (YAv lt1) (YAv (YA9 lt2)),zt,λc hc=>?_,q⟩;have hle:s1.heap.objs.size<=c:=by
  simp only[YAn,YAP,YBU]at hc;rcases hc with rfl|rfl|rfl|rfl|rfl
  .exact YBI _ _
  .exact YBI _ _
  .exact YBI _ _
  .exact YAj _
  .exact YBI _ _
 exact I1.fpOk hle (I1.hok.fresh hle)
section
variable{X:Cx}
def zqr(K:qg):R2:=λx y H Q=>∃a b xs ys,x=.ref a/\y=.ref b/\SqT K H a xs/\SqT K H b ys/\xs.length+ys.length<=sizeLine /\
 (xs=[]->Q (.ref b) H)/\(xs≠[]->ys=[]->Q (.ref a) H)/\(∀p,H p=none->Q (.ref p) (upd H p (.tup (xs++ys))))
def zpy:OpR X (binaryOp .Add) (zqr X.K):=by
 intro O s Y H x y v u Q I rx ry h;obtain⟨a,b,xs,ys,rfl,rfl,ha,hb,hz,q1,q2,q3⟩:=h;by_cases hx:xs=[]
 .subst hx;cases rx;cases ry;obtain⟨its,r1,p1,_⟩:=I.tuple ha;obtain⟨its2,r2,p2,_⟩:=I.tuple hb;obtain⟨⟨cls,dd,data,sl⟩,ho,hc,n,hd⟩:=id p1;obtain⟨⟨cls2,dd2,data2,sl2⟩,ho2,hc2,n2,hd2⟩:=id p2;simp only at hc hd hc2 hd2;subst hc hd hc2 hd2;have hi:its=[]:=r1.nil_iff.mpr rfl;exact YDW ⟨_,ho,rfl⟩ ⟨_,ho2,rfl⟩ YCW YDJ YCq YCi (YCd _ _)
   (tuple_addW0 a b its.toArray its2.toArray n n2 dd dd2 sl sl2 (by simp[hi])) ⟨ho,ho2,⟨.ref b,H,I,rfl,q1 rfl⟩⟩
 .exact zlE O s Y H (.ref a) (.ref b) v u Q I rx ry ⟨a,b,xs,ys,rfl,rfl,ha,hb,hx,hz,q2 hx,λ_ p hp=>q3 p hp⟩
def rSl3(K:qg):V->Option Int->Option Int->Hp->VK->Prop:=λx lo hi H Q=>∃a xs,x=.ref a/\SqT K H a xs/\(cutV xs lo hi=xs->Q (.ref a) H)/\∀p,H p=none->Q (.ref p) (upd H p (.tup (cutV xs lo hi)))
def zqg:SlR X (rSl3 X.K):=by
 intro O s Y H x v vl vu lo hi sl Q I rx hs pl pu h;obtain⟨a,xs,rfl,hx,q1,q2⟩:=h;by_cases hw:HT.sIx xs.length 0 lo=0/\HT.sIx xs.length xs.length hi=xs.length
 .cases rx;obtain⟨its,r,ht,hz⟩:=I.tuple hx;have hlen:its.toArray.size=xs.length:=by rw[YAu];exact r.length.symm
  refine⟨"tuple",_,YAM.lookup,ht.typeIs,?_⟩;refine HT.getItem_tuple_whole ht hs pl pu (by rw[hlen];exact hw) ?_;refine⟨.ref a,H,I,rfl,q1 ?_⟩;unfold cutV;rw[hw.1,hw.2];simp
 .exact zoX O s Y H (.ref a) v vl vu lo hi sl Q I rx hs pl pu ⟨a,xs,rfl,hx,hw,q2⟩
def iSeq(K:qg)(tl:TE):TI:=λY H R=>tl Y H λx H1=>∃a,x=.ref a/\(((∃xs,SqL K H1 a xs)/\R (Itl K a) H1)\/((∃xs,SqT K H1 a xs)/\R (Itt K a) H1))
def zrI(hl:PE X l tl):PI X tg l (iSeq X.K tl):=by
 intro O s Y H R I h;refine thn (hl O s Y H _ I h) λv s1 ⟨x,H1,I1,r1,q1⟩=>?_;obtain⟨a,e,q1⟩:=q1;subst e;cases r1;rcases q1 with⟨⟨xs,hq⟩,q⟩|⟨⟨xs,hq⟩,q⟩
 .obtain⟨its,rv,p,hz⟩:=I1.list hq;refine YCw p.isList ?_;refine⟨s1.heap.objs.size,[s1.heap.objs.size],_,_,H1,rfl,I1.kept (t':=s1.toks) λb o e=>YAd _ e,zil a _,⟨_,YAr _ rfl,rfl,rfl⟩,λb hb=>?_,q⟩;have e:b=s1.heap.objs.size:=by simpa using hb
  subst e;exact I1.fpOk (YAj _) (I1.hok.fresh (YAj _))
 .obtain⟨its,rv,p,hz⟩:=I1.tuple hq;refine YCN (show s1.heap.IsTuple a its.toArray from p) ?_;refine⟨s1.heap.objs.size,[s1.heap.objs.size],_,_,H1,rfl,I1.kept (t':=s1.toks) λb o e=>YAd _ e,zk6 a _,⟨_,YAr _ rfl,rfl,rfl⟩,λb hb=>?_,q⟩;have e:b=s1.heap.objs.size:=by simpa using hb
  subst e;exact I1.fpOk (YAj _) (I1.hok.fresh (YAj _))
end
end L2
namespace Fd
open PySem L2
inductive D where
 |non|bl (b:Bool)|int (i:Int)|str (x:Str)|tup (xs:List D)|lst (n:Bool) (xs:List D)|box
structure Bk where
 K:qg
 β:Addr
 H0:Hp
 G0:Hp
mutual
def Rep(c:Bk)(G:Hp):D->V->Prop
 |.non,v=>v=.non
 |.bl b,v=>v=.bl b
 |.int i,v=>v=.int i
 |.str x,v=>v=.str x
 |.tup xs,v=>∃a vs,v=.ref a/\SqT c.K G a vs/\Reps c G xs vs
 |.lst n xs,v=>∃a vs,v=.ref a/\G a=some (.lst vs)/\(n=true->c.H0 a=none)/\Reps c G xs vs
 |.box,v=>v=.ref c.β
def Reps(c:Bk)(G:Hp):List D->List V->Prop
 |[],vs=>vs=[]
 |x::xs,vs=>∃v ws,vs=v::ws/\Rep c G x v/\Reps c G xs ws
end
def zaO(e:Same H H')(h:SqT K H a xs):SqT K H' a xs:=by
 rcases h with h|h
 .rcases h with h|⟨o,h⟩
  .exact .inl (.inl (e _ _ h))
  .exact .inl (.inr ⟨o,e _ _ h⟩)
 .exact .inr h
mutual
theorem Rep.mono(e:Same G G'):∀{d:D}{v:V},Rep c G d v->Rep c G' d v
 |.non,_,h=>h
 |.bl _,_,h=>h
 |.int _,_,h=>h
 |.str _,_,h=>h
 |.box,_,h=>h
 |.tup xs,_,⟨a,vs,h1,h2,h3⟩=>⟨a,vs,h1,zaO e h2,Reps.mono e h3⟩
 |.lst n xs,_,⟨a,vs,h1,h2,h4,h3⟩=>⟨a,vs,h1,e _ _ h2,h4,Reps.mono e h3⟩
theorem Reps.mono(e:Same G G'):∀{ds:List D}{vs:List V},Reps c G ds vs->Reps c G' ds vs
 |[],_,h=>h
 |_::_,_,⟨v,ws,h1,h2,h3⟩=>⟨v,ws,h1,Rep.mono e h2,Reps.mono e h3⟩
end
def D.old:D->D
 |.non=>.non
 |.bl b=>.bl b
 |.int i=>.int i
 |.str x=>.str x
 |.box=>.box
 |.tup xs=>.tup (xs.map D.old)
 |.lst _ xs=>.lst false (xs.map D.old)
mutual
/-- handed on to another call -/
theorem Rep.hand(hk:c.K=c'.K)(hb:c.β=c'.β):∀{d:D}{v:V},Rep c G d v->Rep c' G d.old v
 |.non,_,h=>by unfold D.old;exact h
 |.bl _,_,h=>by unfold D.old;exact h
 |.int _,_,h=>by unfold D.old;exact h
 |.str _,_,h=>by unfold D.old;exact h
 |.box,_,h=>by unfold D.old;show _=V.ref c'.β;rw[<-hb];exact h
 |.tup xs,_,⟨a,vs,h1,h2,h3⟩=>by unfold D.old;exact⟨a,vs,h1,hk▸h2,Reps.hand hk hb h3⟩
 |.lst n xs,_,⟨a,vs,h1,h2,h4,h3⟩=>by unfold D.old;exact⟨a,vs,h1,h2,(λz=>by cases z),Reps.hand hk hb h3⟩
theorem Reps.hand(hk:c.K=c'.K)(hb:c.β=c'.β):∀{ds:List D}{vs:List V},Reps c G ds vs->Reps c' G (ds.map D.old) vs
 |[],_,h=>h
 |_::_,_,⟨v,ws,h1,h2,h3⟩=>⟨v,ws,h1,Rep.hand hk hb h2,Reps.hand hk hb h3⟩
end
mutual
/-- and back: what is newer than the inner call is newer than the outer one -/
theorem Rep.back(hk:c'.K=c.K)(hb:c'.β=c.β)(hn:∀a,c'.H0 a=none->c.H0 a=none):∀{d:D}{v:V},Rep c' G d v->Rep c G d v
 |.non,_,h=>h
 |.bl _,_,h=>h
 |.int _,_,h=>h
 |.str _,_,h=>h
 |.box,_,h=>by show _=V.ref c.β;rw[<-hb];exact h
 |.tup xs,_,⟨a,vs,h1,h2,h3⟩=>⟨a,vs,h1,hk▸h2,Reps.back hk hb hn h3⟩
 |.lst n xs,_,⟨a,vs,h1,h2,h4,h3⟩=>⟨a,vs,h1,h2,λz=>hn a (h4 z),Reps.back hk hb hn h3⟩
theorem Reps.back(hk:c'.K=c.K)(hb:c'.β=c.β)(hn:∀a,c'.H0 a=none->c.H0 a=none):∀{ds:List D}{vs:List V},Reps c' G ds vs->Reps c G ds vs
 |[],_,h=>h
 |_::_,_,⟨v,ws,h1,h2,h3⟩=>⟨v,ws,h1,Rep.back hk hb hn h2,Reps.back hk hb hn h3⟩
end
theorem Reps.length :∀{ds:List D}{vs:List V},Reps c G ds vs->ds.length=vs.length
 |[],_,h=>by cases h;rfl
 |_::_,_,⟨v,ws,h1,_,h3⟩=>by subst h1;simp[Reps.length h3]
theorem Reps.get :∀{ds:List D}{vs:List V}{i:Nat}{d:D},Reps c G ds vs->ds[i]?=some d->∃v,vs[i]?=some v/\Rep c G d v
 |[],_,_,_,_,e=>by simp at e
 |_::_,_,0,_,⟨v,ws,h1,h2,_⟩,e=>by subst h1;simp at e;subst e;exact⟨v,rfl,h2⟩
 |_::_,_,i+1,d,⟨v,ws,h1,_,h3⟩,e=>by subst h1;exact Reps.get (i:=i) h3 (by simpa using e)
theorem Reps.append :∀{ds es:List D}{vs ws:List V},Reps c G ds vs->Reps c G es ws->Reps c G (ds++es) (vs++ws)
 |[],_,_,_,h,k=>by cases h;exact k
 |_::_,_,_,_,⟨v,us,h1,h2,h3⟩,k=>by subst h1;exact⟨v,us++_,rfl,h2,Reps.append h3 k⟩
def Reps.one(h:Rep c G d v):Reps c G [d] [v]:=⟨v,[],rfl,h,rfl⟩
theorem Reps.set(h:Rep c G d v):∀{ds:List D}{vs:List V}(i:Nat),Reps c G ds vs->Reps c G (ds.set i d) (vs.set i v)
 |[],_,_,k=>by cases k;rfl
 |_::_,_,0,⟨u,us,h1,h2,h3⟩=>by subst h1;exact⟨v,us,rfl,h,h3⟩
 |_::_,_,i+1,⟨u,us,h1,h2,h3⟩=>by subst h1;exact⟨u,us.set i v,rfl,h2,Reps.set h i h3⟩
theorem Reps.take :∀{ds:List D}{vs:List V}(i:Nat),Reps c G ds vs->Reps c G (ds.take i) (vs.take i)
 |[],_,_,k=>by cases k;simp[Reps]
 |_::_,_,0,_=>by simp[Reps]
 |_::_,_,i+1,⟨u,us,h1,h2,h3⟩=>by subst h1;exact⟨u,us.take i,rfl,h2,Reps.take i h3⟩
theorem Reps.drop :∀{ds:List D}{vs:List V}(i:Nat),Reps c G ds vs->Reps c G (ds.drop i) (vs.drop i)
 |[],_,_,k=>by cases k;simp[Reps]
 |_::_,_,0,k=>k
 |_::_,_,i+1,⟨u,us,h1,h2,h3⟩=>by subst h1;exact Reps.drop i h3
theorem reps_ints :∀{ns:List Int}{vs:List V},Reps c G (ns.map D.int) vs↔vs=ns.map V.int
 |[],_=>Iff.rfl
 |n::ns,vs=>by
  constructor
  .rintro⟨v,ws,h1,h2,h3⟩;rw[h1,reps_ints.mp h3]
   have:v=V.int n:=h2
   rw[this];rfl
  .rintro rfl;exact⟨V.int n,ns.map V.int,rfl,rfl,reps_ints.mpr rfl⟩
theorem reps_bools :∀{ns:List Bool}{vs:List V},Reps c G (ns.map D.bl) vs↔vs=ns.map V.bl
 |[],_=>Iff.rfl
 |n::ns,vs=>by
  constructor
  .rintro⟨v,ws,h1,h2,h3⟩;rw[h1,reps_bools.mp h3]
   have:v=V.bl n:=h2
   rw[this];rfl
  .rintro rfl;exact⟨V.bl n,ns.map V.bl,rfl,rfl,reps_bools.mpr rfl⟩
def boxO(cc:Addr)(p r d:Int):HO:=.lst [.ref cc,.int p,.int r,.int d]
structure BoxD(β:Addr)(H G:Hp):Prop where
 ex:∃cc p r d,∃ns:List Int,H β=some (boxO cc p r d)/\0<=p/\0<=r/\0<=d/\d<2147483629/\G cc=some (.lst (ns.map V.int))/\ns.length<=63
 still:G β=none
def BoxD.at(b:BoxD β H G):∃o,H β=some o:=by
 obtain⟨cc,p,r,d,ns,h,_⟩:=b.ex;exact⟨_,h⟩
def zkB:HO->Prop
 |.tup _=>True
 |.frz _ _=>True
 |_=>False
structure Stp(β:Addr)(H G H' G':Hp):Prop where
 gg:Same G G'
 gh:Same G' H'
 fr:∀a o,a≠β->H a=some o->H' a=some o
 nw:∀a,G' a≠none->G a≠none\/H a=none\/∃o,H a=some o/\zkB o
 bx:BoxD β H' G'
 b0:H β≠none
 bc:∀cc p r d,H β=some (boxO cc p r d)->∃p r d,H' β=some (boxO cc p r d)
theorem Stp.refl(gh:Same G H)(b:BoxD β H G):Stp β H G H G:=
 ⟨Same.refl _,gh,λ_ _ _ e=>e,λ_ e=>.inl e,b,λz=>by(obtain⟨o,h⟩:=b.at;rw[z]at h;cases h),λ_ p r d h=>⟨p,r,d,h⟩⟩
def Stp.free(s:Stp β H G H' G')(h:H' a=none):H a=none:=by
 cases e:H a with
 |none=>rfl
 |some o=>
  by_cases z:a=β
  .obtain⟨o',h'⟩:=s.bx.at;rw[z,h']at h;cases h
  .rw[s.fr a o z e]at h;cases h
theorem Stp.trans(s:Stp β H G H1 G1)(t:Stp β H1 G1 H2 G2):Stp β H G H2 G2:=
 ⟨s.gg.trans t.gg,t.gh,λa o n e=>t.fr a o n (s.fr a o n e),λa e=>(t.nw a e).elim (s.nw a) λz=>z.elim (λz=>.inr (.inl (s.free z))) λ⟨o,ho,st⟩=>by
  cases e:H a with
  |none=>exact .inr (.inl rfl)
  |some o'=>
   have nb:a≠β:=λz=>by
    obtain⟨cc,p,r,d,ns,h,_⟩:=s.bx.ex;rw[z,h]at ho;cases ho;exact st
   have:=s.fr a o' nb e
   rw[ho]at this;cases this;exact .inr (.inr ⟨o,rfl,st⟩),t.bx,s.b0,λcc p r d h=>by
  obtain⟨p1,r1,d1,h1⟩:=s.bc cc p r d h;exact t.bc cc p1 r1 d1 h1⟩
def BoxD.new(b:BoxD β H G)(hl:H l=none):BoxD β (upd H l o) G:=by
 obtain⟨cc,p,r,d,ns,h,q⟩:=b.ex;exact⟨⟨cc,p,r,d,ns,by rw[zaf (zae h hl)];exact h,q⟩,b.still⟩
def znZ(gh:Same G H)(hl:H l=none):Same G (upd H l o):=λa u e=>by
 rw[zaf (zae (gh a u e) hl)];exact gh a u e
def Stp.own(gh:Same G H)(b:BoxD β H G)(hl:H l=none):Stp β H G (upd H l o) G:=
 ⟨Same.refl _,znZ gh hl,λa u _ e=>by rw[zaf (zae e hl)];exact e,λ_ e=>.inl e,b.new hl,λz=>by(obtain⟨o,h⟩:=b.at;rw[z]at h;cases h),λcc p r d h=>⟨p,r,d,by rw[zaf (zae h hl)];exact h⟩⟩
def zar(gh:Same G H)(hl:H l=none):G l=none:=gh.free hl
theorem Stp.still(s:Stp β H G H' G')(h':H' l=some o)(h0:H l=none)(hb:l≠β)(hg:G' l=none):Stp β H G H' (upd G' l o):=
 ⟨s.gg.trans λa u e=>by rw[zaf (zae e hg)];exact e,
 λa u e=>by
  by_cases z:a=l
  .subst z;rw[zac]at e;rw[h'];exact e
  .rw[zaf z]at e;exact s.gh a u e,
 s.fr,λa e=>by
  by_cases z:a=l
  .subst z;exact .inr (.inl h0)
  .rw[zaf z]at e;exact s.nw a e,
 ⟨by
   obtain⟨cc,p,r,d,ns,h,p1,p2,p3,p4,hc,q⟩:=s.bx.ex;exact⟨cc,p,r,d,ns,h,p1,p2,p3,p4,by rw[zaf (zae hc hg)];exact hc,q⟩,by rw[zaf (Ne.symm hb)];exact s.bx.still⟩,s.b0,s.bc⟩
def Stp.new(gh:Same G H)(b:BoxD β H G)(hl:H l=none):Stp β H G (upd H l o) (upd G l o):=by
 have hb:l≠β:=λz=>by obtain⟨o,h⟩:=b.at;rw[<-z,hl]at h;cases h
 exact(Stp.own gh b hl).still zac hl hb (zar gh hl)
def zb8(hg:G l=none):Same G (upd G l o):=λa u e=>by rw[zaf (zae e hg)];exact e
inductive Sl where
 |un|val (d:D)|own (xs:List D)
abbrev Env:=List Sl
def SlOk(c:Bk)(H G:Hp):Sl->Option (Option V)->Prop
 |.un,_=>True
 |.val d,o=>∃v,o=some (some v)/\Rep c G d v
 |.own xs,o=>∃a vs,o=some (some (.ref a))/\H a=some (.lst vs)/\G a=none/\c.H0 a=none/\a≠c.β/\Reps c G xs vs
structure Rel(c:Bk)(M:Env)(Y:St)(H G:Hp):Prop where
 len:M.length=Y.length
 stp:Stp c.β c.H0 c.G0 H G
 slot:∀(i:Nat) s,M[i]?=some s->SlOk c H G s Y[i]?
 dis:∀(i j:Nat) a xs ys,M[i]?=some (.own xs)->M[j]?=some (.own ys)->Y[i]?=some (some (.ref a))->Y[j]?=some (some (.ref a))->i=j
theorem Rel.gh(r:Rel c M Y H G):Same G H:=r.stp.gh
theorem Rel.bx(r:Rel c M Y H G):BoxD c.β H G:=r.stp.bx
theorem Rel.refl(r:Rel c M Y H G):Stp c.β H G H G:=Stp.refl r.gh r.bx
def SlOk.step(t:Stp c.β H G H' G'):∀{s:Sl}{o:Option (Option V)},SlOk c H G s o->SlOk c H' G' s o
 |.un,_,_=>trivial
 |.val d,_,⟨v,h1,h2⟩=>⟨v,h1,h2.mono t.gg⟩
 |.own xs,_,⟨a,vs,h1,h2,h3,h4,h5,h6⟩=>⟨a,vs,h1,t.fr a _ h5 h2,(by
   cases e:G' a with
   |none=>rfl
   |some o=>
    rcases t.nw a (by rw[e];simp)with z|z|⟨o',z,st⟩
    .exact absurd h3 z
    .rw[h2]at z;cases z
    .rw[h2]at z;cases z;exact st.elim),h4,h5,h6.mono t.gg⟩
theorem Rel.step(r:Rel c M Y H G)(t:Stp c.β H G H' G'):Rel c M Y H' G':=
 ⟨r.len,r.stp.trans t,λi s e=>(r.slot i s e).step t,r.dis⟩
def Rel.put(r:Rel c M Y H G)(h:Rep c G d v):Rel c (M.set i (.val d)) (Y.set i (some v)) H G:=by
 refine⟨by simp[r.len],r.stp,λj s e=>?_,λj k a xs ys e1 e2 e3 e4=>?_⟩
 .by_cases z:i=j
  .subst z;have hi:i<M.length:=by have:=(YAh.mp e).1;simpa using this
   rw[YAI hi]at e;cases e;exact⟨v,by rw[YAI (by rw[<-r.len];exact hi)],h⟩
  .rw[YAD z]at e ⊢;exact r.slot j s e
 .have nj:i≠j:=λz=>by
   subst z;have hi:i<M.length:=by have:=(YAh.mp e1).1;simpa using this
   rw[YAI hi]at e1;cases e1
  have nk:i≠k:=λz=>by
   subst z;have hi:i<M.length:=by have:=(YAh.mp e2).1;simpa using this
   rw[YAI hi]at e2;cases e2
  rw[YAD nj]at e1 e3;rw[YAD nk]at e2 e4;exact r.dis j k a xs ys e1 e2 e3 e4
def Rel.putOwn(r:Rel c M Y H G)(hl:H l=some (.lst vs))(hg:G l=none)(h0:c.H0 l=none)(hb:l≠c.β)(h:Reps c G xs vs)
  (hn:∀(j:Nat) ys,M[j]?=some (.own ys)->Y[j]?≠some (some (.ref l))):Rel c (M.set i (.own xs)) (Y.set i (some (.ref l))) H G:=by
 refine⟨by simp[r.len],r.stp,λj s e=>?_,λj k a xs' ys e1 e2 e3 e4=>?_⟩
 .by_cases z:i=j
  .subst z;have hi:i<M.length:=by have:=(YAh.mp e).1;simpa using this
   rw[YAI hi]at e;cases e;exact⟨l,vs,by rw[YAI (by rw[<-r.len];exact hi)],hl,hg,h0,hb,h⟩
  .rw[YAD z]at e ⊢;exact r.slot j s e
 .by_cases zj:i=j
  .by_cases zk:i=k
   .exact zj.symm.trans zk
   .subst zj;have hi:i<M.length:=by have:=(YAh.mp e1).1;simpa using this
    rw[YAI (by rw[<-r.len];exact hi)]at e3;cases e3;rw[YAD zk]at e2 e4;exact absurd e4 (hn k ys e2)
  .by_cases zk:i=k
   .subst zk;have hi:i<M.length:=by have:=(YAh.mp e2).1;simpa using this
    rw[YAI (by rw[<-r.len];exact hi)]at e4;cases e4;rw[YAD zj]at e1 e3;exact absurd e3 (hn j xs' e1)
   .rw[YAD zj]at e1 e3;rw[YAD zk]at e2 e4;exact r.dis j k a xs' ys e1 e2 e3 e4
def Rel.write(r:Rel c M Y H G)(hi:M[i]?=some (.own xs))(hs:Y[i]?=some (some (.ref l)))(h:Reps c G ys ws) :
  Rel c (M.set i (.own ys)) Y (upd H l (.lst ws)) G:=by
 obtain⟨a,vs,h1,h2,h3,h4,h5,h6⟩:=r.slot i _ hi;rw[hs]at h1;cases h1;have hil:i<M.length:=(YAh.mp hi).1;refine⟨by simp[r.len],⟨r.stp.gg,λb u e=>?_,λb u n e=>?_,r.stp.nw,?_,r.stp.b0,λcc p q d e=>by
  obtain⟨p',q',d',e'⟩:=r.stp.bc cc p q d e;exact⟨p',q',d',by rw[zaf (Ne.symm h5)];exact e'⟩⟩,λj s e=>?_,λj k b xs' ys' e1 e2 e3 e4=>?_⟩
 .rw[zaf (λz=>by rw[z,h3]at e;cases e)];exact r.gh b u e
 .rw[zaf (λz=>by rw[z,h4]at e;cases e)];exact r.stp.fr b u n e
 .obtain⟨cc,p,q,d,ns,e,z⟩:=r.bx.ex;exact⟨⟨cc,p,q,d,ns,by rw[zaf (Ne.symm h5)];exact e,z⟩,r.bx.still⟩
 .by_cases z:i=j
  .subst z;rw[YAI hil]at e;cases e;exact⟨l,ws,hs,zac,h3,h4,h5,h⟩
  .rw[YAD z]at e;have q:=r.slot j s e;cases s with
   |un=>trivial
   |val d=>exact q
   |own zs=>
    obtain⟨b,us,g1,g2,g3⟩:=q;have nb:b≠l:=λy=>z (r.dis i j l xs zs hi e hs (by rw[g1,y]));exact⟨b,us,g1,by rw[zaf nb];exact g2,g3⟩
 .have f:∀(m:Nat) zs,(M.set i (.own ys))[m]?=some (.own zs)->∃zs',M[m]?=some (.own zs'):=λm zs e=>by
   by_cases z:i=m
   .exact⟨xs,z▸hi⟩
   .rw[YAD z]at e;exact⟨zs,e⟩
  obtain⟨_,f1⟩:=f j _ e1;obtain⟨_,f2⟩:=f k _ e2;exact r.dis j k b _ _ f1 f2 e3 e4
def Rel.freeze(r:Rel c M Y H G)(hi:M[i]?=some (.own xs)):∃G',Same G G'/\Rel c (M.set i (.val (.lst true xs))) Y H G':=by
 obtain⟨a,vs,h1,h2,h3,h4,h5,h6⟩:=r.slot i _ hi;have hil:i<M.length:=(YAh.mp hi).1;have sg:Same G (upd G a (.lst vs)):=zb8 h3;refine⟨upd G a (.lst vs),sg,by simp[r.len],r.stp.still h2 h4 h5 h3,λj s e=>?_,λj k b xs' ys' e1 e2 e3 e4=>?_⟩
 .by_cases z:i=j
  .subst z;rw[YAI hil]at e;cases e;exact⟨.ref a,h1,a,vs,rfl,zac,λ_=>h4,h6.mono sg⟩
  .rw[YAD z]at e;have q:=r.slot j s e;cases s with
   |un=>trivial
   |val d=>obtain⟨v,g1,g2⟩:=q;exact⟨v,g1,g2.mono sg⟩
   |own zs=>
    obtain⟨b,us,g1,g2,g3,g4,g5,g6⟩:=q;have nb:b≠a:=λy=>z (r.dis i j a xs zs hi e h1 (by rw[g1,y]));exact⟨b,us,g1,g2,by rw[zaf nb];exact g3,g4,g5,g6.mono sg⟩
 .have f:∀(m:Nat) zs,(M.set i (.val (.lst true xs)))[m]?=some (.own zs)->M[m]?=some (.own zs):=λm zs e=>by
   by_cases z:i=m
   .subst z;rw[YAI hil]at e;cases e
   .rw[YAD z]at e;exact e
  exact r.dis j k b _ _ (f j _ e1) (f k _ e2) e3 e4
abbrev WE:=Env->(D->Prop)->Prop
abbrev WL:=Env->(List D->Prop)->Prop
abbrev WT:=Env->(Bool->Prop)->Prop
def zbZ(W:WE):Prop:=∀ M Q Q',(∀d,Q d->Q' d)->W M Q->W M Q'
def zdd(W:WL):Prop:=∀ M Q Q',(∀d,Q d->Q' d)->W M Q->W M Q'
def zdF(W:WT):Prop:=∀ M Q Q',(∀d,Q d->Q' d)->W M Q->W M Q'
def tD(c:Bk)(W:WE):TE:=λY H Q=>∃ M G,Rel c M Y H G/\W M λd=>∀v H' G',Stp c.β H G H' G'->Rep c G' d v->Q v H'
def tDs(c:Bk)(W:WL):TA:=λY H Q=>∃ M G,Rel c M Y H G/\W M λds=>∀vs H' G',Stp c.β H G H' G'->Reps c G' ds vs->Q vs H'
def tDf(c:Bk)(W:WL):TE:=λY H Q=>∃ M G,Rel c M Y H G/\W M λds=>∀l vs H' G',Stp c.β H G H' G'->H' l=some (.lst vs)->G' l=none->H l=none->Reps c G' ds vs->Q (.ref l) H'
def tDt(c:Bk)(W:WT):TT:=λY H Q=>∃ M G,Rel c M Y H G/\W M λb=>∀H' G',Stp c.β H G H' G'->Q b H'
structure DE(X:Cx)(c:Bk)(e:Expr)(W:WE):Prop where
 mono:zbZ W
 pe:PE X e (tD c W)
structure DF(X:Cx)(c:Bk)(e:Expr)(W:WL):Prop where
 mono:zdd W
 pe:PE X e (tDf c W)
structure DA(X:Cx)(c:Bk)(es:List Expr)(W:WL):Prop where
 mono:zdd W
 pa:PA X es (tDs c W)
structure DT(X:Cx)(c:Bk)(e:Expr)(W:WT):Prop where
 mono:zdF W
 pt:PT X e (tDt c W)
section
variable{X:Cx}
def zaN(h:PE X e t)(k:∀ Y H Q,t' Y H Q->t Y H Q):PE X e t':=λO s Y H Q I q=>h O s Y H Q I (k Y H Q q)
def ziu(h:PT X e t)(k:∀ Y H Q,t' Y H Q->t Y H Q):PT X e t':=λO s Y H Q I q=>h O s Y H Q I (k Y H Q q)
def zoH(h:PA X e t)(k:∀ Y H Q,t' Y H Q->t Y H Q):PA X e t':=λpos O s Y H Q I q=>h pos O s Y H Q I (k Y H Q q)
def Rel.new0(r:Rel c M Y H G)(h:H l=none):c.H0 l=none:=r.stp.free h
def Rel.neβ(r:Rel c M Y H G)(h:H l=none):l≠c.β:=λz=>by
 obtain⟨o,e⟩:=r.bx.at;rw[<-z,h]at e;cases e
@[reducible] def valW(W:WL):WE:=λM Q=>W M λxs=>Q (.lst true xs)
def DF.de(h:DF X c e W):DE X c e (valW W)where
 mono:=λM Q Q' k q=>h.mono M _ _ (λxs z=>k _ z) q
 pe:=zaN h.pe λY H Q ⟨M,G,r,q⟩=>⟨M,G,r,h.mono M _ _ (λxs z l vs H' G' t hl hg h0 hv=>
  z (.ref l) H' (upd G' l (.lst vs)) (t.still hl h0 (r.neβ h0) hg) ⟨l,vs,rfl,zac,λ_=>r.new0 h0,hv.mono (zb8 hg)⟩) q⟩
def vW(i:Nat):WE:=λM Q=>match M[i]? with|some (.val d)=>Q d|_=>False
@[reducible] def kW(d:D):WE:=λ_ Q=>Q d
def dv(i:Nat)(hN:X.N[i]?=some x:=by rfl)(hv:Vis X.env.scope x:=by first|exact Or.inl rfl|exact Or.inr (Or.inl rfl)|exact Or.inr (Or.inr rfl))
  (hd:(x==("__debug__":Str))=false:=by decide) (hcd:(x==("__classdict__":Str))=false:=by decide):DE X c (.Name x pos) (vW i)where
 mono:=λM Q Q' k q=>by
  unfold vW at q ⊢;split at q
  .exact k _ q
  .exact q.elim
 pe:=zaN (zei hN hv hd hcd) λY H Q ⟨M,G,r,q⟩=>by
  unfold vW at q;split at q
  .rename_i d e
   obtain⟨v,h1,h2⟩:=r.slot i _ e;exact⟨v,h1,q v H G r.refl h2⟩
  .exact q.elim
def zov(d:D):zbZ (kW d):=λ_ _ _ k q=>k _ q
def zal:DE X c (.Constant (.int i) j pos) (kW (.int i)):=⟨zov _,zaN zaI λY H Q ⟨M,G,r,q⟩=>q _ H G r.refl rfl⟩
def zfw:DE X c (.Constant (.bool i) j pos) (kW (.bl i)):=⟨zov _,zaN zo2 λY H Q ⟨M,G,r,q⟩=>q _ H G r.refl rfl⟩
def ziq:DE X c (.Constant .none j pos) (kW .non):=⟨zov _,zaN zkE λY H Q ⟨M,G,r,q⟩=>q _ H G r.refl rfl⟩
def zgG:DE X c (.Constant (.str i) j pos) (kW (.str i)):=⟨zov _,zaN zq9 λY H Q ⟨M,G,r,q⟩=>q _ H G r.refl rfl⟩
abbrev F2:=D->D->(D->Prop)->Prop
def zce(f:F2):Prop:=∀x y Q Q',(∀d,Q d->Q' d)->f x y Q->f x y Q'
@[reducible] def binW(f:F2)(A B:WE):WE:=λM Q=>A M λx=>B M λy=>f x y Q
def OpD(c:Bk)(f:F2)(r:R2):Prop:=∀(H G:Hp)(x y:D)(u v:V)(Q:VK),Same G H->BoxD c.β H G->(∀a,H a=none->c.H0 a=none)->Rep c G x u->Rep c G y v ->
 f x y (λd=>∀v H' G',Stp c.β H G H' G'->Rep c G' d v->Q v H')->r u v H Q
def zff(fm:zce f)(mA:zbZ A)(mB:zbZ B)(hr:OpD c f r)(Y:St)(H:Hp)(Q:VK)(h:tD c (binW f A B) Y H Q):tOp r (tD c A) (tD c B) Y H Q:=by
 obtain⟨M,G,R,q⟩:=h;refine⟨M,G,R,mA M _ _ (λx q1 u H1 G1 t1 e1=>⟨M,G1,R.step t1,mB M _ _ (λy q2 v H2 G2 t2 e2=>?_) q1⟩) q⟩;refine hr H2 G2 x y u v Q t2.gh t2.bx (λa z=>R.new0 (t1.free (t2.free z))) (e1.mono t2.gg) e2 (fm x y _ _ (λd z w H3 G3 t3 e3=>z w H3 G3 ((t1.trans t2).trans t3) e3) q2)
def zd8(fm:zce f)(mA:zbZ A)(mB:zbZ B):zbZ (binW f A B):=λM Q Q' k q=>mA M _ _ (λx q1=>mB M _ _ (λy q2=>fm x y _ _ k q2) q1) q
def zlX(fm:zce f)(ho:OpR X (binaryOp op) r)(hr:OpD c f r)(hA:DE X c a A)(hB:DE X c b B):DE X c (.BinOp a op b pos) (binW f A B):=
 ⟨zd8 fm hA.mono hB.mono,zaN (zb3 ho hA.pe hB.pe) λY H Q h=>zff fm hA.mono hB.mono hr Y H Q h⟩
def zos(fm:zce f)(ho:OpR X (compareOp op) r)(hr:OpD c f r)(hA:DE X c a A)(hB:DE X c b B)(hm:behindInMarks op b=false):DE X c (.Compare a [op] [b] pos) (binW f A B):=
 ⟨zd8 fm hA.mono hB.mono,zaN (znj ho hA.pe hB.pe hm) λY H Q h=>zff fm hA.mono hB.mono hr Y H Q h⟩
def blW(A:WE):WT:=λM Q=>A M λd=>match d with|.bl b=>Q b|_=>False
def zi5(m:zbZ A):zdF (blW A):=λM Q Q' k q=>m M _ _ (λd z=>by
 cases d<;>first|exact k _ z|exact z) q
def zpD(m:zbZ A)(Y:St)(H:Hp)(Q:Bool->Hp->Prop)(h:tDt c (blW A) Y H Q):zqB (tD c A) Y H Q:=by
 obtain⟨M,G,R,q⟩:=h;refine⟨M,G,R,m M _ _ (λd z v H1 G1 t e=>?_) q⟩;cases d with
 |bl b=>exact⟨b,e,z H1 G1 t⟩
 |_=>exact z.elim
def zgO(fm:zce f)(ho:OpR X (compareOp op) r)(hr:OpD c f r)(hA:DE X c a A)(hB:DE X c b B)(hm:behindInMarks op b=false):DT X c (.Compare a [op] [b] pos) (blW (binW f A B)):=
 ⟨zi5 (zd8 fm hA.mono hB.mono),ziu (zcF ho hA.pe hB.pe hm) λY H Q h=>by
  obtain⟨M,G,R,q⟩:=zpD (zd8 fm hA.mono hB.mono) Y H Q h;exact zff fm hA.mono hB.mono hr Y H _ ⟨M,G,R,q⟩⟩
def addD:F2
 |.int i,.int j,Q=>Q (.int (i+j))
 |.str a,.str b,Q=>a.length+b.length<=100000/\Q (.str (a++b))
 |.lst _ xs,.lst _ ys,Q=>xs.length+ys.length<=100000/\Q (.lst true (xs++ys))
 |.tup xs,.tup ys,Q=>xs.length+ys.length<=100000/\Q (.tup (xs++ys))
 |_,_,_=>False
def subD:F2
 |.int i,.int j,Q=>Q (.int (i-j))
 |_,_,_=>False
def mulD:F2
 |.int i,.int j,Q=>CMul i j/\Q (.int (i*j))
 |.lst _ xs,.int k,Q=>(0<=k/\k<=1000/\xs.length<=1000)/\Q (.lst true (List.replicate k.toNat xs).flatten)
 |_,_,_=>False
def modD:F2
 |.int i,.int j,Q=>0<j/\Q (.int (i % j))
 |_,_,_=>False
def powD:F2
 |.int i,.int j,Q=>CPow i j/\Q (.int (i^j.toNat))
 |_,_,_=>False
def small5(h:n<=100000):n<=sizeLine:=YAU h (by rw[YAO];decide)
def zst:zce addD:=λx y Q Q' k q=>by
 cases x<;>cases y<;>first|exact k _ q|exact⟨q.1,k _ q.2⟩|exact q
def zsd:zce subD:=λx y Q Q' k q=>by
 cases x<;>cases y<;>first|exact k _ q|exact q
def zsJ:zce mulD:=λx y Q Q' k q=>by
 cases x<;>cases y<;>first|exact⟨q.1,k _ q.2⟩|exact q
def zsL:zce modD:=λx y Q Q' k q=>by
 cases x<;>cases y<;>first|exact⟨q.1,k _ q.2⟩|exact q
def zrU:zce powD:=λx y Q Q' k q=>by
 cases x<;>cases y<;>first|exact⟨q.1,k _ q.2⟩|exact q
def zqH(K:qg):R2:=λx y H Q=>(rI0 (λi j=>.int (i+j)) x y H Q\/(∃i j,x=.str i/\y=.str j/\i.length+j.length<=sizeLine/\Q (.str (i++j)) H))\/(rCat x y H Q\/zqr K x y H Q)
def zpH{c:Bk}(hK:c.K=X.K):OpR X (binaryOp .Add) (zqH c.K):=by rw[hK];exact(op_add.or zlb).or (op_cat.or zpy)
def zqo:OpD c addD (zqH c.K):=by
 intro H G x y u v Q gh bx h0 rx ry q;cases x with
 |int i=>cases y with
  |int j=>cases rx;cases ry;exact .inl (.inl ⟨i,j,rfl,rfl,q _ H G (Stp.refl gh bx) rfl⟩)
  |_=>exact q.elim
 |str i=>cases y with
  |str j=>cases rx;cases ry;exact .inl (.inr ⟨i,j,rfl,rfl,small5 q.1,q.2 _ H G (Stp.refl gh bx) rfl⟩)
  |_=>exact q.elim
 |lst n xs=>cases y with
  |lst m ys=>
   obtain⟨a,vs,rfl,ha,_,rv⟩:=rx;obtain⟨b,ws,rfl,hb,_,rw'⟩:=ry;refine .inr (.inl ⟨a,b,vs,ws,rfl,rfl,gh _ _ ha,gh _ _ hb,?_,λp hp=>?_⟩)
   .rw[<-rv.length,<-rw'.length];exact small5 q.1
   .have hg:=zar gh hp;exact q.2 (.ref p) _ _ (Stp.new gh bx hp) ⟨p,vs++ws,rfl,zac,λ_=>h0 p hp,(rv.append rw').mono (zb8 hg)⟩
  |_=>exact q.elim
 |tup xs=>cases y with
  |tup ys=>
   obtain⟨a,vs,rfl,ha,rv⟩:=rx;obtain⟨b,ws,rfl,hb,rw'⟩:=ry;refine .inr (.inr ⟨a,b,vs,ws,rfl,rfl,zaO gh ha,zaO gh hb,?_,λe=>?_,λ_ e=>?_,λp hp=>?_⟩)
   .rw[<-rv.length,<-rw'.length];exact small5 q.1
   .subst e
    have:xs=[]:=by have:=rv.length;simpa using this
    subst this;exact q.2 (.ref b) H G (Stp.refl gh bx) ⟨b,ws,rfl,hb,rw'⟩
   .subst e
    have:ys=[]:=by have:=rw'.length;simpa using this
    subst this;exact q.2 (.ref a) H G (Stp.refl gh bx) ⟨a,vs,rfl,ha,by simpa using rv⟩
   .have hg:=zar gh hp;exact q.2 (.ref p) _ _ (Stp.new gh bx hp) ⟨p,vs++ws,rfl,SqT.of zac,(rv.append rw').mono (zb8 hg)⟩
  |_=>exact q.elim
 |_=>exact q.elim
def zcN(hA:DE X c a A)(hB:DE X c b B)(hK:c.K=X.K:=by rfl):DE X c (.BinOp a .Add b pos) (binW addD A B):=zlX zst (zpH hK) zqo hA hB
def zrD:OpD c subD (rI0 λi j=>.int (i-j)):=by
 intro H G x y u v Q gh bx h0 rx ry q;cases x with
 |int i=>cases y with
  |int j=>cases rx;cases ry;exact⟨i,j,rfl,rfl,q _ H G (Stp.refl gh bx) rfl⟩
  |_=>exact q.elim
 |_=>exact q.elim
def zhn(hA:DE X c a A)(hB:DE X c b B):DE X c (.BinOp a .Sub b pos) (binW subD A B):=zlX zsd zmN zrD hA hB
def zsu:R2:=λx y H Q=>rI CMul (λi j=>.int (i*j)) x y H Q\/rRep x y H Q
def zqR:OpD c mulD zsu:=by
 intro H G x y u v Q gh bx h0 rx ry q;cases x with
 |int i=>cases y with
  |int j=>cases rx;cases ry;exact .inl ⟨i,j,rfl,rfl,q.1,q.2 _ H G (Stp.refl gh bx) rfl⟩
  |_=>exact q.elim
 |lst n xs=>cases y with
  |int k=>
   obtain⟨a,vs,rfl,ha,_,rv⟩:=rx;cases ry;obtain⟨⟨k0,k1,hz⟩,q⟩:=q;refine .inr ⟨a,k,vs,rfl,rfl,gh _ _ ha,by omega,by omega,?_,λp hp=>?_⟩
   .rw[<-rv.length,YAO];have h1:k.toNat<=1000:=by omega
    have:=Nat.mul_le_mul hz h1
    omega
   .have hg:=zar gh hp
    have:∀m:Nat,Reps c G (List.replicate m xs).flatten (List.replicate m vs).flatten:=λm=>by
     induction m with
     |zero=>rfl
     |succ m ih=>rw[YAV,YAV,YBj,YBj];exact rv.append ih
    exact q (.ref p) _ _ (Stp.new gh bx hp) ⟨p,_,rfl,zac,λ_=>h0 p hp,(this _).mono (zb8 hg)⟩
  |_=>exact q.elim
 |_=>exact q.elim
def zk5(hA:DE X c a A)(hB:DE X c b B):DE X c (.BinOp a .Mult b pos) (binW mulD A B):=zlX zsJ (op_mul.or zma) zqR hA hB
def zre:OpD c modD (rI (λ_ j=>0<j) λi j=>.int (i % j)):=by
 intro H G x y u v Q gh bx h0 rx ry q;cases x with
 |int i=>cases y with
  |int j=>cases rx;cases ry;exact⟨i,j,rfl,rfl,q.1,q.2 _ H G (Stp.refl gh bx) rfl⟩
  |_=>exact q.elim
 |_=>exact q.elim
def zrq(hA:DE X c a A)(hB:DE X c b B):DE X c (.BinOp a .Mod b pos) (binW modD A B):=zlX zsL zgK zre hA hB
def zrn:OpD c powD (rI CPow λi j=>.int (i^j.toNat)):=by
 intro H G x y u v Q gh bx h0 rx ry q;cases x with
 |int i=>cases y with
  |int j=>cases rx;cases ry;exact⟨i,j,rfl,rfl,q.1,q.2 _ H G (Stp.refl gh bx) rfl⟩
  |_=>exact q.elim
 |_=>exact q.elim
def zsp(hA:DE X c a A)(hB:DE X c b B):DE X c (.BinOp a .Pow b pos) (binW powD A B):=zlX zrU zmD zrn hA hB
def negD:D->(D->Prop)->Prop
 |.int i,Q=>Q (.int (-i))
 |_,_=>False
@[reducible] def unW(f:D->(D->Prop)->Prop)(A:WE):WE:=λM Q=>A M λx=>f x Q
def zpi(hA:DE X c a A):DE X c (.UnaryOp .USub a pos) (unW negD A)where
 mono:=λM Q Q' k q=>hA.mono M _ _ (λx z=>by cases x<;>first|exact k _ z|exact z) q
 pe:=zaN (zp8 zmf hA.pe) λY H Q ⟨M,G,r,q⟩=>⟨M,G,r,hA.mono M _ _ (λx z v H' G' t e=>by
  cases x with
  |int i=>exact⟨i,e,z _ H' G' t rfl⟩
  |_=>exact z.elim) q⟩
def cmpD(p:Int->Int->Bool):F2
 |.int i,.int j,Q=>Q (.bl (p i j))
 |_,_,_=>False
def zpK(p:Int->Int->Bool):zce (cmpD p):=λx y Q Q' k q=>by
 cases x<;>cases y<;>first|exact k _ q|exact q
def zmR(p:Int->Int->Bool):OpD c (cmpD p) (rI0 λi j=>.bl (p i j)):=by
 intro H G x y u v Q gh bx h0 rx ry q;cases x with
 |int i=>cases y with
  |int j=>cases rx;cases ry;exact⟨i,j,rfl,rfl,q _ H G (Stp.refl gh bx) rfl⟩
  |_=>exact q.elim
 |_=>exact q.elim
@[reducible] def ltD:F2:=cmpD λi j=>decide (i<j)
@[reducible] def gtD:F2:=cmpD λi j=>decide (j<i)
def d_gt(hA:DE X c a A)(hB:DE X c b B):DE X c (.Compare a [.Gt] [b] pos) (binW gtD A B):=zos (zpK _) zo7 (zmR _) hA hB (zci _)
def t_lt(hA:DE X c a A)(hB:DE X c b B):DT X c (.Compare a [.Lt] [b] pos) (blW (binW ltD A B)):=zgO (zpK _) zpn (zmR _) hA hB (zci _)
def t_gt(hA:DE X c a A)(hB:DE X c b B):DT X c (.Compare a [.Gt] [b] pos) (blW (binW gtD A B)):=zgO (zpK _) zo7 (zmR _) hA hB (zci _)
def isN:D->Bool
 |.non=>true
 |_=>false
@[reducible] def isNW(A:WE):WE:=λM Q=>A M λx=>Q (.bl (isN x))
@[reducible] def zgj(A:WE):WE:=λM Q=>A M λx=>Q (.bl (!isN x))
def zho(h:Rep c G d v):decide (v=V.non)=isN d:=by
 cases d with
 |non=>have:v=V.non:=h;subst this;rfl
 |bl b=>have:v=V.bl b:=h;subst this;rfl
 |int b=>have:v=V.int b:=h;subst this;rfl
 |str b=>have:v=V.str b:=h;subst this;rfl
 |box=>have:v=V.ref c.β:=h;subst this;rfl
 |tup xs=>obtain⟨a,vs,rfl,_⟩:=h;rfl
 |lst n xs=>obtain⟨a,vs,rfl,_⟩:=h;rfl
def zkj(m:zbZ A):zbZ (isNW A):=λM Q Q' k q=>m M _ _ (λx z=>k _ z) q
def zij(m:zbZ A):zbZ (zgj A):=λM Q Q' k q=>m M _ _ (λx z=>k _ z) q
def zp1(hA:DE X c a A):DE X c (.Compare a [.Is] [.Constant .none j pos'] pos) (isNW A):=
 ⟨zkj hA.mono,zaN (zoY (zoZ hA.pe)) λY H Q ⟨M,G,r,q⟩=>⟨M,G,r,hA.mono M _ _ (λx z v H' G' t e=>by show Q (V.bl (decide (v=V.non))) H';rw[zho e];exact z _ H' G' t rfl) q⟩⟩
def zqN(hA:DE X c a A):DE X c (.Compare a [.IsNot] [.Constant .none j pos'] pos) (zgj A):=
 ⟨zij hA.mono,zaN (zoY (zmM hA.pe)) λY H Q ⟨M,G,r,q⟩=>⟨M,G,r,hA.mono M _ _ (λx z v H' G' t e=>by show Q (V.bl (!decide (v=V.non))) H';rw[zho e];exact z _ H' G' t rfl) q⟩⟩
def znq(hA:DE X c a A):DT X c (.Compare a [.Is] [.Constant .none j pos'] pos) (blW (isNW A)):=
 ⟨zi5 (zkj hA.mono),ziu (ziC (zoZ hA.pe)) λY H Q ⟨M,G,r,q⟩=>⟨M,G,r,hA.mono M _ _ (λx z v H' G' t e=>⟨_,rfl,by rw[zho e];exact z H' G' t⟩) q⟩⟩
def zjZ(hA:DE X c a A):DT X c (.Compare a [.IsNot] [.Constant .none j pos'] pos) (blW (zgj A)):=
 ⟨zi5 (zij hA.mono),ziu (ziC (zmM hA.pe)) λY H Q ⟨M,G,r,q⟩=>⟨M,G,r,hA.mono M _ _ (λx z v H' G' t e=>⟨_,rfl,by rw[zho e];exact z H' G' t⟩) q⟩⟩
end
mutual
def toPy:D->PyData
 |.non=>.none
 |.bl b=>.bool b
 |.int i=>.int i
 |.str x=>.str x
 |.box=>.none
 |.tup xs=>.tuple (zb4 xs)
 |.lst _ xs=>.list (zb4 xs)
def zb4:List D->List PyData
 |[]=>[]
 |x::xs=>toPy x::zb4 xs
end
mutual
def layD:D->Bool
 |.non=>true
 |.bl _=>true
 |.int _=>true
 |.str x=>PyData.canLay0 (.str x)
 |.box=>false
 |.tup xs=>zd0 xs
 |.lst _ xs=>zd0 xs
def zd0:List D->Bool
 |[]=>true
 |x::xs=>layD x&&zd0 xs
end
mutual
theorem zcI:∀d:D,layD d=true->(toPy d).canLay0=true
 |.non,_=>by unfold toPy PyData.canLay0;rfl
 |.bl _,_=>by unfold toPy PyData.canLay0;rfl
 |.int _,_=>by unfold toPy PyData.canLay0;rfl
 |.str _,h=>by unfold toPy;unfold layD at h;exact h
 |.tup xs,h=>by unfold toPy PyData.canLay0;unfold layD at h;exact zcG xs h
 |.lst _ xs,h=>by unfold toPy PyData.canLay0;unfold layD at h;exact zcG xs h
theorem zcG:∀ds:List D,zd0 ds=true->PyData.canLayAll0 (zb4 ds)=true
 |[],_=>by unfold zb4 PyData.canLayAll0;rfl
 |x::xs,h=>by
  unfold zb4 PyData.canLayAll0;unfold zd0 at h
  have:=(YAJ _ _▸h:layD x=true/\zd0 xs=true)
  rw[zcI x this.1,zcG xs this.2];rfl
end
section
variable{X:Cx}
mutual
theorem Rep.reads(hK:c.K=X.K)(I:Inv X O Y H s)(gh:Same G H):∀(d:D){v:V}{u:Value},Rep c G d v->RelV v u->layD d=true->∃as,Reads s.heap u (toPy d) as
 |.non,v,u,h,r,_=>by have:v=V.non:=h;subst this;cases r;exact⟨_,.none⟩
 |.bl b,v,u,h,r,_=>by have:v=V.bl b:=h;subst this;cases r;exact⟨_,.bool b⟩
 |.int i,v,u,h,r,_=>by have:v=V.int i:=h;subst this;obtain⟨t,rfl⟩:=r;exact⟨_,.int i t⟩
 |.str i,v,u,h,r,_=>by have:v=V.str i:=h;subst this;obtain⟨t,rfl⟩:=r;exact⟨_,.str i t⟩
 |.box,v,u,h,r,l=>by cases l
 |.tup xs,v,u,⟨a,vs,h1,h2,h3⟩,r,l=>by
  subst h1;cases r;obtain⟨its,rv,p,_⟩:=I.tuple (hK▸zaO gh h2);obtain⟨as,q⟩:=Reps.reads hK I gh xs h3 rv l;obtain⟨o,ho,hc,n,hd⟩:=p;unfold toPy;exact⟨_,.tuple ho hc hd (by simpa using q)⟩
 |.lst _ xs,v,u,⟨a,vs,h1,h2,_,h3⟩,r,l=>by
  subst h1;cases r;obtain⟨_,its,n,rv,ho⟩:=I.hok a _ (gh _ _ h2);obtain⟨as,q⟩:=Reps.reads hK I gh xs h3 rv l;unfold toPy;exact⟨_,.list ho rfl rfl (by simpa using q)⟩
theorem Reps.reads(hK:c.K=X.K)(I:Inv X O Y H s)(gh:Same G H):∀(ds:List D){vs:List V}{us:List Value},Reps c G ds vs->Vals vs us->zd0 ds=true->∃as,ReadsAll s.heap us (zb4 ds) as
 |[],vs,us,h,r,_=>by have:vs=[]:=h;subst this;cases r;exact⟨_,.nil⟩
 |x::xs,vs,us,⟨v,ws,h1,h2,h3⟩,r,l=>by
  subst h1;cases r with
  |cons r1 r2=>
   unfold zd0 at l;have l':=(YAJ _ _▸l:layD x=true/\zd0 xs=true);obtain⟨as,q1⟩:=Rep.reads hK I gh x h2 r1 l'.1;obtain⟨bs,q2⟩:=Reps.reads hK I gh xs h3 r2 l'.2;exact⟨_,.cons q1 q2⟩
end
def eqB(x y:D):Bool:=PyData.eqv (toPy x) (toPy y)
def eqOk(x y:D):Prop:=layD x=true/\layD y=true/\min (toPy x).depth (toPy y).depth<=50
@[reducible] def eqD:F2:=λx y Q=>eqOk x y/\Q (.bl (eqB x y))
@[reducible] def neD:F2:=λx y Q=>eqOk x y/\Q (.bl (!eqB x y))
def rEqD(c:Bk)(neg:Bool):R2:=λu v H Q=>∃G x y,Same G H/\Rep c G x u/\Rep c G y v/\eqOk x y/\Q (.bl (if neg then !eqB x y else eqB x y)) H
def zo0(hK:c.K=X.K)(hu:X.A.units+64<cLine):OpR X (compareOp .Eq) (rEqD c false):=by
 intro O s Y H u v a b Q I ra rb ⟨G,x,y,gh,hx,hy,⟨lx,ly,ld⟩,q⟩;obtain⟨as,qa⟩:=hx.reads hK I gh x ra lx;obtain⟨bs,qb⟩:=hy.reads hK I gh y rb ly;exact SeqAt.compareEq_reads qa qb (zcI x lx) (zcI y ly) (by omega) ⟨.bl _,H,I,rfl,q⟩
def zoN(hK:c.K=X.K)(hu:X.A.units+64<cLine):OpR X (compareOp .NotEq) (rEqD c true):=by
 intro O s Y H u v a b Q I ra rb ⟨G,x,y,gh,hx,hy,⟨lx,ly,ld⟩,q⟩;obtain⟨as,qa⟩:=hx.reads hK I gh x ra lx;obtain⟨bs,qb⟩:=hy.reads hK I gh y rb ly;exact SeqAt.compareNe_reads qa qb (zcI x lx) (zcI y ly) (by omega) ⟨.bl _,H,I,rfl,q⟩
def m_eq:zce eqD:=λx y Q Q' k q=>⟨q.1,k _ q.2⟩
def m_ne:zce neD:=λx y Q Q' k q=>⟨q.1,k _ q.2⟩
def zru:OpD c eqD (rEqD c false):=λH G x y u v Q gh bx h0 rx ry q=>⟨G,x,y,gh,rx,ry,q.1,q.2 _ H G (Stp.refl gh bx) rfl⟩
def zqy:OpD c neD (rEqD c true):=λH G x y u v Q gh bx h0 rx ry q=>⟨G,x,y,gh,rx,ry,q.1,q.2 _ H G (Stp.refl gh bx) rfl⟩
def inOk(x:D)(ys:List D):Prop:=layD x=true/\zd0 ys=true/\min (PyData.depthAll (zb4 ys)) (toPy x).depth<=50
def inB(x:D)(ys:List D):Bool:=(zb4 ys).any λy=>PyData.eqv y (toPy x)
def inD(neg:Bool):F2
 |x,.lst _ ys,Q=>inOk x ys/\Q (.bl (if neg then !inB x ys else inB x ys))
 |x,.tup ys,Q=>inOk x ys/\Q (.bl (if neg then !inB x ys else inB x ys))
 |_,_,_=>False
def rInD(c:Bk)(neg:Bool):R2:=λu v H Q=>∃G x y,Same G H/\Rep c G x u/\Rep c G y v/\inD neg x y λd=>∃b,d=.bl b/\Q (.bl b) H
def zoI(hK:c.K=X.K)(hu:X.A.units+64<cLine):OpR X (compareOp .In) (rInD c false):=by
 intro O s Y H u v a b Q I ra rb ⟨G,x,y,gh,hx,hy,q⟩;cases y with
 |lst n ys=>
  obtain⟨⟨lx,ly,ld⟩,_,e,q⟩:=q;cases e;obtain⟨as,qa⟩:=hx.reads hK I gh x ra lx;obtain⟨bs,qb⟩:=hy.reads hK I gh (.lst n ys) rb (by unfold layD;exact ly);unfold toPy at qb;exact SeqAt.in_list_reads qb qa (zcG ys ly) (zcI x lx) (by omega) ⟨.bl _,H,I,rfl,q⟩
 |tup ys=>
  obtain⟨⟨lx,ly,ld⟩,_,e,q⟩:=q;cases e;obtain⟨as,qa⟩:=hx.reads hK I gh x ra lx;obtain⟨bs,qb⟩:=hy.reads hK I gh (.tup ys) rb (by unfold layD;exact ly);unfold toPy at qb;exact SeqAt.in_tuple_reads qb qa (zcG ys ly) (zcI x lx) (by omega) ⟨.bl _,H,I,rfl,q⟩
 |_=>exact q.elim
def zmp(hK:c.K=X.K)(hu:X.A.units+64<cLine):OpR X (compareOp .NotIn) (rInD c true):=by
 intro O s Y H u v a b Q I ra rb ⟨G,x,y,gh,hx,hy,q⟩;cases y with
 |lst n ys=>
  obtain⟨⟨lx,ly,ld⟩,_,e,q⟩:=q;cases e;obtain⟨as,qa⟩:=hx.reads hK I gh x ra lx;obtain⟨bs,qb⟩:=hy.reads hK I gh (.lst n ys) rb (by unfold layD;exact ly);unfold toPy at qb;exact SeqAt.notIn_list_reads qb qa (zcG ys ly) (zcI x lx) (by omega) ⟨.bl _,H,I,rfl,q⟩
 |tup ys=>
  obtain⟨⟨lx,ly,ld⟩,_,e,q⟩:=q;cases e;obtain⟨as,qa⟩:=hx.reads hK I gh x ra lx;obtain⟨bs,qb⟩:=hy.reads hK I gh (.tup ys) rb (by unfold layD;exact ly);unfold toPy at qb;exact SeqAt.notIn_tuple_reads qb qa (zcG ys ly) (zcI x lx) (by omega) ⟨.bl _,H,I,rfl,q⟩
 |_=>exact q.elim
def m_in(neg:Bool):zce (inD neg):=λx y Q Q' k q=>by
 cases y<;>first|exact⟨q.1,k _ q.2⟩|exact q
def zpp(neg:Bool):OpD c (inD neg) (rInD c neg):=λH G x y u v Q gh bx h0 rx ry q=>⟨G,x,y,gh,rx,ry,by
 cases y with
 |lst n ys=>exact⟨q.1,_,rfl,q.2 _ H G (Stp.refl gh bx) rfl⟩
 |tup ys=>exact⟨q.1,_,rfl,q.2 _ H G (Stp.refl gh bx) rfl⟩
 |_=>exact q.elim⟩
section
variable{c:Bk}{a b:Expr}{A B:WE}{pos:Pos}
def d_eq(hA:DE X c a A)(hB:DE X c b B)(hK:c.K=X.K:=by rfl)(hu:X.A.units+64<cLine:=by decreasing_trivial):DE X c (.Compare a [.Eq] [b] pos) (binW eqD A B):=zos m_eq (zo0 hK hu) zru hA hB (zci _)
def d_ne(hA:DE X c a A)(hB:DE X c b B)(hK:c.K=X.K:=by rfl)(hu:X.A.units+64<cLine:=by decreasing_trivial):DE X c (.Compare a [.NotEq] [b] pos) (binW neD A B):=zos m_ne (zoN hK hu) zqy hA hB (zci _)
def t_eq(hA:DE X c a A)(hB:DE X c b B)(hK:c.K=X.K:=by rfl)(hu:X.A.units+64<cLine:=by decreasing_trivial):DT X c (.Compare a [.Eq] [b] pos) (blW (binW eqD A B)):=zgO m_eq (zo0 hK hu) zru hA hB (zci _)
def t_ne(hA:DE X c a A)(hB:DE X c b B)(hK:c.K=X.K:=by rfl)(hu:X.A.units+64<cLine:=by decreasing_trivial):DT X c (.Compare a [.NotEq] [b] pos) (blW (binW neD A B)):=zgO m_ne (zoN hK hu) zqy hA hB (zci _)
def d_in(hA:DE X c a A)(hB:DE X c b B)(hm:behindInMarks .In b=false:=by with_unfolding_all rfl)(hK:c.K=X.K:=by rfl)(hu:X.A.units+64<cLine:=by decreasing_trivial):DE X c (.Compare a [.In] [b] pos) (binW (inD false) A B):=zos (m_in _) (zoI hK hu) (zpp _) hA hB hm
def t_in(hA:DE X c a A)(hB:DE X c b B)(hm:behindInMarks .In b=false:=by with_unfolding_all rfl)(hK:c.K=X.K:=by rfl)(hu:X.A.units+64<cLine:=by decreasing_trivial):DT X c (.Compare a [.In] [b] pos) (blW (binW (inD false) A B)):=zgO (m_in _) (zoI hK hu) (zpp _) hA hB hm
def zlS(hA:DE X c a A)(hB:DE X c b B)(hm:behindInMarks .NotIn b=false:=by with_unfolding_all rfl)(hK:c.K=X.K:=by rfl)(hu:X.A.units+64<cLine:=by decreasing_trivial):DT X c (.Compare a [.NotIn] [b] pos) (blW (binW (inD true) A B)):=zgO (m_in _) (zmp hK hu) (zpp _) hA hB hm
def truB:D->Option Bool
 |.non=>some false
 |.bl b=>some b
 |.int i=>some (i != 0)
 |.lst _ xs=>some (!xs.isEmpty)
 |.tup xs=>some (!xs.isEmpty)
 |_=>none
def truD(d:D)(Q:Bool->Prop):Prop:=match truB d with|some b=>Q b|none=>False
@[reducible] def truW(A:WE):WT:=λM Q=>A M λd=>truD d Q
def zpd(gh:Same G H)(h:Rep c G d v)(e:truB d=some k):TruV c.K v H k:=by
 cases d with
 |non=>cases h;cases e;rfl
 |bl b=>cases h;cases e;rfl
 |int i=>cases h;cases e;rfl
 |lst n xs=>
  obtain⟨a,vs,rfl,h1,_,h2⟩:=h;cases e;refine .inl ⟨vs,.inl (.inl (gh _ _ h1)),?_⟩
  have:=h2.length
  cases xs<;>cases vs<;>first|rfl|simp at this
 |tup xs=>
  obtain⟨a,vs,rfl,h1,h2⟩:=h;cases e;refine .inr (.inl ⟨vs,zaO gh h1,?_⟩)
  have:=h2.length
  cases xs<;>cases vs<;>first|rfl|simp at this
 |str x=>cases e
 |box=>cases e
def zlP(d:D)(k:∀b,Q b->Q' b)(q:truD d Q):truD d Q':=by
 unfold truD at q ⊢;split at q
 .exact k _ q
 .exact q.elim
def zdq(hA:DE X c a A)(he:∀whole,isTrue a X.env whole=(do let v <-whole;standAt a.pos;holding [v] (truthy v)):=by intro _;rfl)(hK:c.K=X.K:=by rfl):DT X c a (truW A)where
 mono:=λM Q Q' k q=>hA.mono M _ _ (λd z=>zlP d k z) q
 pt:=ziu (zj5 hA.pe he) λY H Q ⟨M,G,r,q⟩=>⟨M,G,r,hA.mono M _ _ (λd z v H' G' t e=>by
  unfold truD at z;split at z
  .rename_i k hk
   exact⟨k,hK▸zpd t.gh e hk,z H' G' t⟩
  .exact z.elim) q⟩
@[reducible] def notT(A:WT):WT:=λM Q=>A M λb=>Q (!b)
def zey{A:WT}(hA:DT X c a A):DT X c (.UnaryOp .Not a pos) (notT A)where
 mono:=λM Q Q' k q=>hA.mono M _ _ (λd z=>k _ z) q
 pt:=ziu (zqG hA.pt) λY H Q ⟨M,G,r,q⟩=>⟨M,G,r,q⟩
@[reducible] def andT(A B:WT):WT:=λM Q=>A M λb=>if b=true then B M Q else Q false
@[reducible] def orT(A B:WT):WT:=λM Q=>A M λb=>if b=true then Q true else B M Q
structure DW(X:Cx)(c:Bk)(e:Expr)(W:WT):Prop where
 mono:zdF W
 pw:PW X e (tDt c W)
def DW.dt(h:DW X c a W):DT X c a W:=⟨h.mono,h.pw.pt⟩
def zoF(h:PW X e t)(k:∀ Y H Q,t' Y H Q->t Y H Q):PW X e t':=λwh O s Y H Q I q=>h wh O s Y H Q I (k Y H Q q)
def zrz{A:WT}(hA:DT X c a A):DW X c (.BoolOp .And [a] pos) A:=⟨hA.mono,zjc hA.pt⟩
def zfF{A:WT}(hA:DT X c a A):DW X c (.BoolOp .Or [a] pos) A:=⟨hA.mono,zrJ hA.pt⟩
def zr1{A B:WT}{rest:List Expr}(hA:DT X c a A)(hB:DW X c (.BoolOp .And (b::rest) pos) B):DW X c (.BoolOp .And (a::b::rest) pos) (andT A B)where
 mono:=λM Q Q' k q=>hA.mono M _ _ (λd z=>by
  cases d
  .exact k _ z
  .exact hB.mono M _ _ k z) q
 pw:=zoF (zln hA.pt hB.pw) λY H Q ⟨M,G,r,q⟩=>⟨M,G,r,hA.mono M _ _ (λd z H' G' t=>by
  cases d
  .exact z H' G' t
  .exact⟨M,G',r.step t,hB.mono M _ _ (λb' z' H2 G2 t2=>z' H2 G2 (t.trans t2)) z⟩) q⟩
def w_or{A B:WT}{rest:List Expr}(hA:DT X c a A)(hB:DW X c (.BoolOp .Or (b::rest) pos) B):DW X c (.BoolOp .Or (a::b::rest) pos) (orT A B)where
 mono:=λM Q Q' k q=>hA.mono M _ _ (λd z=>by
  cases d
  .exact hB.mono M _ _ k z
  .exact k _ z) q
 pw:=zoF (zsG hA.pt hB.pw) λY H Q ⟨M,G,r,q⟩=>⟨M,G,r,hA.mono M _ _ (λd z H' G' t=>by
  cases d
  .exact⟨M,G',r.step t,hB.mono M _ _ (λb' z' H2 G2 t2=>z' H2 G2 (t.trans t2)) z⟩
  .exact z H' G' t) q⟩
def blD(d:D)(Q:Bool->Prop):Prop:=match d with|.bl b=>Q b|_=>False
def zhw(d:D)(k:∀b,Q b->Q' b)(q:blD d Q):blD d Q':=by
 cases d<;>first|exact k _ q|exact q
@[reducible] def andW(A B:WE):WE:=λM Q=>A M λx=>blD x λk=>if k=true then B M Q else Q (.bl false)
@[reducible] def orW(A B:WE):WE:=λM Q=>A M λx=>blD x λk=>if k=true then Q (.bl true)else B M Q
@[reducible] def notW(A:WE):WE:=λM Q=>A M λx=>blD x λk=>Q (.bl (!k))
def zkS(hA:DE X c a A):DE X c (.BoolOp op [a] pos) A:=⟨hA.mono,zrK hA.pe⟩
def zmP{rest:List Expr}(hA:DE X c a A)(hB:DE X c (.BoolOp .And (b::rest) pos) B):DE X c (.BoolOp .And (a::b::rest) pos) (andW A B)where
 mono:=λM Q Q' k q=>hA.mono M _ _ (λd z=>zhw d (λb z=>by
  cases b
  .exact k _ z
  .exact hB.mono M _ _ k z) z) q
 pe:=zaN (zqp hA.pe hB.pe) λY H Q ⟨M,G,r,q⟩=>⟨M,G,r,hA.mono M _ _ (λd z v H' G' t e=>by
  cases d with
  |bl k=>
   refine⟨k,e,?_⟩;cases k
   .exact z _ H' G' t rfl
   .exact⟨M,G',r.step t,hB.mono M _ _ (λb' z' v2 H2 G2 t2=>z' v2 H2 G2 (t.trans t2)) z⟩
  |_=>exact z.elim) q⟩
def d_or{rest:List Expr}(hA:DE X c a A)(hB:DE X c (.BoolOp .Or (b::rest) pos) B):DE X c (.BoolOp .Or (a::b::rest) pos) (orW A B)where
 mono:=λM Q Q' k q=>hA.mono M _ _ (λd z=>zhw d (λb z=>by
  cases b
  .exact hB.mono M _ _ k z
  .exact k _ z) z) q
 pe:=zaN (zsj hA.pe hB.pe) λY H Q ⟨M,G,r,q⟩=>⟨M,G,r,hA.mono M _ _ (λd z v H' G' t e=>by
  cases d with
  |bl k=>
   refine⟨k,e,?_⟩;cases k
   .exact⟨M,G',r.step t,hB.mono M _ _ (λb' z' v2 H2 G2 t2=>z' v2 H2 G2 (t.trans t2)) z⟩
   .exact z _ H' G' t rfl
  |_=>exact z.elim) q⟩
def zr3(hA:DE X c a A):DE X c (.UnaryOp .Not a pos) (notW A)where
 mono:=λM Q Q' k q=>hA.mono M _ _ (λd z=>zhw d (λb z=>k _ z) z) q
 pe:=zaN (zrc hA.pe) λY H Q ⟨M,G,r,q⟩=>⟨M,G,r,hA.mono M _ _ (λd z v H' G' t e=>by
  cases d with
  |bl k=>exact⟨k,e,z _ H' G' t rfl⟩
  |_=>exact z.elim) q⟩
@[reducible] def ifW(C:WT)(A B:WE):WE:=λM Q=>C M λk=>if k=true then A M Q else B M Q
def d_if(hC:DT X c ce C)(hA:DE X c a A)(hB:DE X c b B):DE X c (.IfExp ce a b pos) (ifW C A B)where
 mono:=λM Q Q' k q=>hC.mono M _ _ (λd z=>by
  cases d
  .exact hB.mono M _ _ k z
  .exact hA.mono M _ _ k z) q
 pe:=zaN (zoA hC.pt hA.pe hB.pe) λY H Q ⟨M,G,r,q⟩=>⟨M,G,r,hC.mono M _ _ (λd z H' G' t=>by
  cases d
  .exact⟨M,G',r.step t,hB.mono M _ _ (λb' z' v2 H2 G2 t2=>z' v2 H2 G2 (t.trans t2)) z⟩
  .exact⟨M,G',r.step t,hA.mono M _ _ (λb' z' v2 H2 G2 t2=>z' v2 H2 G2 (t.trans t2)) z⟩) q⟩
end
end
section
variable{X:Cx}{c:Bk}{a b e:Expr}{A B:WE}{pos p:Pos}{es:List Expr}
@[reducible] def nilA:WL:=λ_ Q=>Q []
@[reducible] def zab(A:WE)(R:WL):WL:=λM Q=>A M λd=>R M λds=>Q (d::ds)
def zai:DA X c [] nilA:=⟨λ_ _ _ k q=>k _ q,zoH zav λY H Q ⟨M,G,r,q⟩=>q [] H G r.refl rfl⟩
def zaa(hA:DE X c e A)(hR:DA X c es R)(hs:starEach (e::es) X.env=(false,eval e X.env)::starEach es X.env:=by rfl):DA X c (e::es) (zab A R)where
 mono:=λM Q Q' k q=>hA.mono M _ _ (λd z=>hR.mono M _ _ (λds y=>k _ y) z) q
 pa:=zoH (zag hA.pe hR.pa hs) λY H Q ⟨M,G,r,q⟩=>⟨M,G,r,hA.mono M _ _ (λd z v H1 G1 t1 e1=>⟨M,G1,r.step t1,hR.mono M _ _ (λds y vs H2 G2 t2 e2=>
  y (v::vs) H2 G2 (t1.trans t2) ⟨v,vs,rfl,e1.mono t2.gg,e2⟩) z⟩) q⟩
@[reducible] def tupW(R:WL):WE:=λM Q=>R M λds=>ds.length<=100000/\Q (.tup ds)
def zbW(hR:DA X c es R):DE X c (.Tuple es x1 pos) (tupW R)where
 mono:=λM Q Q' k q=>hR.mono M _ _ (λds z=>⟨z.1,k _ z.2⟩) q
 pe:=zaN (zep hR.pa) λY H Q ⟨M,G,r,q⟩=>⟨M,G,r,hR.mono M _ _ (λds z vs H' G' t e=>⟨by rw[<-e.length];exact small5 z.1,λp hp=>
  z.2 (.ref p) _ _ (t.trans (Stp.new t.gh t.bx hp)) ⟨p,vs,rfl,SqT.of zac,e.mono (zb8 (zar t.gh hp))⟩⟩) q⟩
@[reducible] def lstW(R:WL):WL:=λM Q=>R M λds=>ds.length<=100000/\Q ds
def zcK(hR:DA X c es R):DF X c (.List es pos) (lstW R)where
 mono:=λM Q Q' k q=>hR.mono M _ _ (λds z=>⟨z.1,k _ z.2⟩) q
 pe:=zaN (zeh hR.pa) λY H Q ⟨M,G,r,q⟩=>⟨M,G,r,hR.mono M _ _ (λds z vs H' G' t e=>⟨by rw[<-e.length];exact small5 z.1,λp hp=>
  z.2 p vs _ _ (t.trans (Stp.own t.gh t.bx hp)) zac (zar t.gh hp) (t.free hp) e⟩) q⟩
def zja(h:Reps c G ds vs)(e:atI ds i=some d):∃v,atI vs i=some v/\Rep c G d v:=by
 unfold atI at e ⊢;rw[h.length]at e;cases z:ixN vs.length i with
 |none=>rw[z]at e;cases e
 |some j=>rw[z]at e;exact h.get e
def itD(xs:List D)(y:D)(Q:D->Prop):Prop:=match y with|.int i=>(match atI xs i with|some d=>Q d|none=>False)|_=>False
def ixD:F2
 |.lst _ xs,y,Q=>itD xs y Q
 |.tup xs,y,Q=>itD xs y Q
 |_,_,_=>False
def zkl(k:∀d,Q d->Q' d)(q:itD xs y Q):itD xs y Q':=by
 cases y with
 |int i=>
  unfold itD at q ⊢;simp only at q ⊢;split at q
  .exact k _ q
  .exact q.elim
 |_=>exact q
def m_ix:zce ixD:=λx y Q Q' k q=>by
 cases x<;>first|exact zkl k q|exact q
def zrB:OpD c ixD (rIx c.K):=by
 intro H G x y u v Q gh bx h0 rx ry q;cases x with
 |lst n xs=>
  obtain⟨a,vs,rfl,ha,_,rv⟩:=rx;cases y with
  |int i=>
   cases ry;have q:(match atI xs i with|some d=>_|none=>False):=q;split at q
   .rename_i d e
    obtain⟨w,e',rw'⟩:=zja rv e;exact .inl ⟨a,vs,i,w,rfl,rfl,SqL.of (gh _ _ ha),e',q w H G (Stp.refl gh bx) rw'⟩
   .exact q.elim
  |_=>exact q.elim
 |tup xs=>
  obtain⟨a,vs,rfl,ha,rv⟩:=rx;cases y with
  |int i=>
   cases ry;have q:(match atI xs i with|some d=>_|none=>False):=q;split at q
   .rename_i d e
    obtain⟨w,e',rw'⟩:=zja rv e;exact .inr (.inl ⟨a,vs,i,w,rfl,rfl,zaO gh ha,e',q w H G (Stp.refl gh bx) rw'⟩)
   .exact q.elim
  |_=>exact q.elim
 |_=>exact q.elim
def d_ix(hA:DE X c a A)(hB:DE X c b B)(hs:zhT b:=by intro _ _;rfl)(hK:c.K=X.K:=by rfl):DE X c (.Subscript a b pos) (binW ixD A B):=
 ⟨zd8 m_ix hA.mono hB.mono,zaN (zcO (hK▸zoO) hA.pe hB.pe hs) λY H Q h=>zff m_ix hA.mono hB.mono zrB Y H Q h⟩
def ixvW(i:Nat)(B:WE):WE:=λM Q=>match M[i]? with
 |some (.val d)=>B M λy=>ixD d y Q
 |some (.own xs)=>B M λy=>itD xs y Q
 |_=>False
def za8(i:Nat)(hB:DE X c b B)(hs:zhT b:=by intro _ _;rfl)(hN:X.N[i]?=some x:=by rfl)(hv:Vis X.env.scope x:=by first|exact Or.inl rfl|exact Or.inr (Or.inl rfl)|exact Or.inr (Or.inr rfl))
  (hd:(x==("__debug__":Str))=false:=by decide) (hcd:(x==("__classdict__":Str))=false:=by decide) (hK:c.K=X.K:=by rfl):DE X c (.Subscript (.Name x p) b pos) (ixvW i B)where
 mono:=λM Q Q' k q=>by
  unfold ixvW at q ⊢;split at q
  .exact hB.mono M _ _ (λy z=>m_ix _ y _ _ k z) q
  .exact hB.mono M _ _ (λy z=>zkl k z) q
  .exact q.elim
 pe:=zaN (zcO (hK▸zoO (X:=X)) (zei hN hv hd hcd) hB.pe hs) λY H Q ⟨M,G,r,q⟩=>by
  unfold ixvW at q;split at q
  .rename_i d e
   obtain⟨v,h1,h2⟩:=r.slot i _ e;refine⟨v,h1,M,G,r,hB.mono M _ _ (λy z w H1 G1 t1 e1=>?_) q⟩;exact zrB H1 G1 d y v w Q t1.gh t1.bx (λa z=>r.new0 (t1.free z)) (h2.mono t1.gg) e1 (m_ix d y _ _ (λd' z' w' H2 G2 t2 e2=>z' w' H2 G2 (t1.trans t2) e2) z)
  .rename_i xs e
   obtain⟨a,vs,h1,h2,h3,h4,h5,h6⟩:=r.slot i _ e;refine⟨.ref a,h1,M,G,r,hB.mono M _ _ (λy z w H1 G1 t1 e1=>?_) q⟩;cases y with
   |int k=>
    cases e1;have z:(match atI xs k with|some d=>_|none=>False):=z;split at z
    .rename_i d' e'
     obtain⟨w',f,rw'⟩:=zja h6 e';exact .inl ⟨a,vs,k,w',rfl,rfl,SqL.of (t1.fr a _ h5 h2),f,z w' H1 G1 t1 (rw'.mono t1.gg)⟩
    .exact z.elim
   |_=>exact z.elim
  .exact q.elim
def cutD{α:Type}(xs:List α)(lo hi:Option Int):List α:=(xs.drop (HT.sIx xs.length 0 lo)).take (HT.sIx xs.length xs.length hi-HT.sIx xs.length 0 lo)
def Reps.cut(h:Reps c G ds vs)(lo hi:Option Int):Reps c G (cutD ds lo hi) (cutV vs lo hi):=by
 unfold cutD cutV;rw[h.length];exact(h.drop _).take _
abbrev WO:=Env->(Option Int->Prop)->Prop
structure DO(X:Cx)(c:Bk)(e:Option Expr)(W:WO):Prop where
 mono:∀ M Q Q',(∀d,Q d->Q' d)->W M Q->W M Q'
 po:PO X e λY H Q=>∃ M G,Rel c M Y H G/\W M λo=>∀H' G',Stp c.β H G H' G'->Q o H'
@[reducible] def noO:WO:=λ_ Q=>Q none
def ze1(A:WE):WO:=λM Q=>A M λd=>match d with|.int i=>Q (some i)|_=>False
def zgE:DO X c none noO:=⟨λ_ _ _ k q=>k _ q,λO s Y H Q I ⟨M,G,r,q⟩=>zhm O s Y H Q I (q H G r.refl)⟩
def zgC(hA:DE X c a A):DO X c (some a) (ze1 A)where
 mono:=λM Q Q' k q=>hA.mono M _ _ (λd z=>by cases d<;>first|exact k _ z|exact z) q
 po:=λO s Y H Q I ⟨M,G,r,q⟩=>zhb hA.pe O s Y H Q I ⟨M,G,r,hA.mono M _ _ (λd z v H' G' t e=>by
  cases d with
  |int i=>exact⟨i,e,z H' G' t⟩
  |_=>exact z.elim) q⟩
def slD(x:D)(lo hi:Option Int)(Q:D->Prop):Prop:=match x with
 |.lst _ xs=>Q (.lst true (cutD xs lo hi))
 |.tup xs=>Q (.tup (cutD xs lo hi))
 |_=>False
@[reducible] def slW(A:WE)(L U:WO):WE:=λM Q=>A M λx=>L M λl=>U M λu=>slD x l u Q
def znR(k:∀d,Q d->Q' d)(q:slD x lo hi Q):slD x lo hi Q':=by
 cases x<;>first|exact k _ q|exact q
def d_sl(hA:DE X c a A)(hL:DO X c lo L)(hU:DO X c hi U)(hK:c.K=X.K:=by rfl):DE X c (.Subscript a (.Slice lo hi none p2) pos) (slW A L U)where
 mono:=λM Q Q' k q=>hA.mono M _ _ (λd z=>hL.mono M _ _ (λl y=>hU.mono M _ _ (λu x=>znR k x) y) z) q
 pe:=zaN (zfg (sl_list.or zqg) hA.pe hL.po hU.po) λY H Q ⟨M,G,r,q⟩=>⟨M,G,r,hA.mono M _ _ (λd z v H1 G1 t1 e1=>⟨M,G1,r.step t1,hL.mono M _ _ (λl y H2 G2 t2=>⟨M,G2,(r.step t1).step t2,hU.mono M _ _ (λu x H3 G3 t3=>by
  have t:=(t1.trans t2).trans t3;have e3:=(e1.mono t2.gg).mono t3.gg;cases d with
  |lst n xs=>
   obtain⟨p,vs,rfl,hp,_,rv⟩:=e3;exact .inl ⟨p,vs,rfl,SqL.of (t3.gh _ _ hp),λl hl=>x (.ref l) _ _ (t.trans (Stp.new t3.gh t3.bx hl)) ⟨l,_,rfl,zac,λ_=>r.new0 (t.free hl),(rv.cut _ _).mono (zb8 (zar t3.gh hl))⟩⟩
  |tup xs=>
   obtain⟨p,vs,rfl,hp,rv⟩:=e3;exact .inr ⟨p,vs,rfl,hK▸zaO t3.gh hp,λe=>x (.ref p) H3 G3 t ⟨p,vs,rfl,hp,by have:=rv.cut l u;rw[e]at this;exact this⟩,λl hl=>x (.ref l) _ _ (t.trans (Stp.new t3.gh t3.bx hl)) ⟨l,_,rfl,SqT.of zac,(rv.cut _ _).mono (zb8 (zar t3.gh hl))⟩⟩
  |_=>exact x.elim) y⟩) z⟩) q⟩
end
end Fd
namespace Fd
open PySem L2
def insU(x:Int):List Int->List Int
 |[]=>[x]
 |y::ys=>if x<y then x::y::ys else if x=y then y::ys else y::insU x ys
def zbP:List Int->List Int
 |[]=>[]
 |x::xs=>insU x (zbP xs)
theorem zhC(x:Int):∀(ys:List Int)(k:Int),k∈insU x ys↔k=x\/k∈ys
 |[],k=>by simp[insU]
 |y::ys,k=>by
  unfold insU;split
  .simp
  .split
   .rename_i h;subst h;simp
   .rw[YAn,zhC x ys k,YAn];constructor
    .rintro(h|h|h)
     .exact .inr (.inl h)
     .exact .inl h
     .exact .inr (.inr h)
    .rintro(h|h|h)
     .exact .inr (.inl h)
     .exact .inl h
     .exact .inr (.inr h)
theorem zmE(x:Int):∀(ys:List Int),ys.Pairwise (·<·)->(insU x ys).Pairwise (·<·)
 |[],_=>by simp[insU]
 |y::ys,h=>by
  unfold insU;have h':=YBh.mp h;split
  .rename_i hxy
   refine YBh.mpr ⟨λk hk=>?_,h⟩;rcases YAn.mp hk with e|e
   .rw[e];exact hxy
   .exact YD3 hxy (h'.1 k e)
  .split
   .exact h
   .rename_i h1 h2
    refine YBh.mpr ⟨λk hk=>?_,zmE x ys h'.2⟩;rcases(zhC x ys k).mp hk with e|e
    .rw[e];omega
    .exact h'.1 k e
theorem zbp:∀(xs:List Int)(k:Int),k∈zbP xs↔k∈xs
 |[],_=>Iff.rfl
 |x::xs,k=>by unfold zbP;rw[zhC,zbp xs k,YAn]
theorem zb2:∀xs:List Int,(zbP xs).Pairwise (·<·)
 |[]=>.nil
 |x::xs=>by unfold zbP;exact zmE x _ (zb2 xs)
theorem znl:∀{xs ys:List Int},xs.Pairwise (·<·)->ys.Pairwise (·<·)->(∀k,k∈xs↔k∈ys)->xs=ys
 |[],[],_,_,_=>rfl
 |[],y::ys,_,_,h=>absurd ((h y).mpr YAi) (by simp)
 |x::xs,[],_,_,h=>absurd ((h x).mp YAi) (by simp)
 |x::xs,y::ys,hx,hy,h=>by
  have hx':=YBh.mp hx;have hy':=YBh.mp hy;have e:x=y:=by
   rcases YAn.mp ((h x).mp YAi)with e|e
   .exact e
   .rcases YAn.mp ((h y).mpr YAi)with e'|e'
    .exact e'.symm
    .have:=hy'.1 x e;have:=hx'.1 y e';omega
  subst e;congr 1;refine znl hx'.2 hy'.2 λk=>⟨λhk=>?_,λhk=>?_⟩
  .rcases YAn.mp ((h k).mp (YAp _ hk))with e|e
   .have:=hx'.1 k hk;omega
   .exact e
  .rcases YAn.mp ((h k).mpr (YAp _ hk))with e|e
   .have:=hy'.1 k hk;omega
   .exact e
def zqf(h:ns.Pairwise (·<·))(m:∀k,k∈ns↔k∈xs):ns=zbP xs:=znl h (zb2 xs) λk=>(m k).trans (zbp xs k).symm
def zem{xs:List Int}(h:xs.Pairwise (·<·)):xs.Nodup:=h.imp λh=>YD1 h
section
variable{X:Cx}{c:Bk}{a b e:Expr}{A B:WE}{pos p p':Pos}{es:List Expr}
abbrev FL:=List D->(D->Prop)->Prop
def zdt(f:FL):Prop:=∀ds Q Q',(∀d,Q d->Q' d)->f ds Q->f ds Q'
@[reducible] def cbW(f:FL)(R:WL):WE:=λM Q=>R M λds=>f ds Q
def zhB(c:Bk)(f:FL)(r:List V->Hp->VK->Prop):Prop:=∀(H G:Hp)(ds:List D)(vs:List V)(Q:VK),Same G H->BoxD c.β H G->(∀a,H a=none->c.H0 a=none)->Reps c G ds vs ->
 f ds (λd=>∀v H' G',Stp c.β H G H' G'->Rep c G' d v->Q v H')->r vs H Q
def zng(fm:zdt f)(mR:zdd R)(hr:zhB c f r)(Y:St)(H:Hp)(Q:VK)(h:tD c (cbW f R) Y H Q):tCB r (tDs c R) Y H Q:=by
 obtain⟨M,G,r',q⟩:=h;exact⟨M,G,r',mR M _ _ (λds z vs H' G' t e=>hr H' G' ds vs Q t.gh t.bx (λa z=>r'.new0 (t.free z)) e (fm ds _ _ (λd y v H2 G2 t2 e2=>y v H2 G2 (t.trans t2) e2) z)) q⟩
def zi6{f:FL}{R:WL}{r:List V->Hp->VK->Prop}{id:String}{x:Str}(fm:zdt f)(hc:CallR X (.builtin id) r)(hr:zhB c f r)(hm:X.mg x=none)(hv:bootBuiltins x=some (.builtin id))(hR:DA X c (e::es) R)(hg:Gl X x:=by rfl)(hn:x≠"__name__":=by decide)(hdb:(x==("__debug__":Str))=false:=by decide)
  (he:starEach (e::es) X.env=(false,eval e X.env)::starEach es X.env:=by rfl) (hpl:(backTo pos (starEach es X.env)).any (·.1)=false:=by rfl):DE X c (.Call (.Name x p) (e::es) [] pos) (cbW f R):=
 ⟨λM Q Q' k q=>hR.mono M _ _ (λds z=>fm ds _ _ k z) q,zaN (zbF hc hg hm hv hR.pa hn hdb he hpl) (zng fm hR.mono hr)⟩
def zkw(fm:zdt f)(hc:CallR X (.type T) r)(hr:zhB c f r)(hm:X.mg x=none)(hv:bootBuiltins x=some (.type T))(hR:DA X c (e::es) R)(hg:Gl X x:=by rfl)(hn:x≠"__name__":=by decide)(hdb:(x==("__debug__":Str))=false:=by decide)
  (he:starEach (e::es) X.env=(false,eval e X.env)::starEach es X.env:=by rfl) (hpl:(backTo pos (starEach es X.env)).any (·.1)=false:=by rfl):DE X c (.Call (.Name x p) (e::es) [] pos) (cbW f R):=
 ⟨λM Q Q' k q=>hR.mono M _ _ (λds z=>fm ds _ _ k z) q,zaN (zco hc hg hm hv hR.pa hn hdb he hpl) (zng fm hR.mono hr)⟩
def ziI(h:Reps c G [d] vs):∃v,vs=[v]/\Rep c G d v:=by
 obtain⟨v,ws,rfl,h1,h2⟩:=h;cases h2;exact⟨v,rfl,h1⟩
def zpQ(h:Reps c G [d,f] vs):∃v w,vs=[v,w]/\Rep c G d v/\Rep c G f w:=by
 obtain⟨v,ws,rfl,h1,w,ws',rfl,h2,h3⟩:=h;cases h3;exact⟨v,w,rfl,h1,h2⟩
def lenF:FL
 |[.lst _ xs],Q=>Q (.int xs.length)
 |[.tup xs],Q=>Q (.int xs.length)
 |_,_=>False
def zso:zdt lenF:=λds Q Q' k q=>by
 unfold lenF at q ⊢;split at q<;>first|exact k _ q|exact q.elim
def zqE:zhB c lenF (λxs H Q=>∃p ys,xs=[.ref p]/\(SqL c.K H p ys\/SqT c.K H p ys)/\Q (.int ys.length) H):=by
 intro H G ds vs Q gh bx h0 rv q;unfold lenF at q;split at q
 .obtain⟨v,rfl,a,ws,rfl,ha,_,hw⟩:=ziI rv;exact⟨a,ws,rfl,.inl (SqL.of (gh _ _ ha)),by rw[<-hw.length];exact q _ H G (Stp.refl gh bx) rfl⟩
 .obtain⟨v,rfl,a,ws,rfl,ha,hw⟩:=ziI rv;exact⟨a,ws,rfl,.inr (zaO gh ha),by rw[<-hw.length];exact q _ H G (Stp.refl gh bx) rfl⟩
 .exact q.elim
def zdp(i:Nat):WE:=λM Q=>match M[i]? with
 |some (.val d)=>lenF [d] Q
 |some (.own xs)=>Q (.int xs.length)
 |_=>False
def zcz(i:Nat)(hg:Gl X "len":=by rfl)(hN:X.N[i]?=some x:=by rfl)(hv:Vis X.env.scope x:=by first|exact Or.inl rfl|exact Or.inr (Or.inl rfl)|exact Or.inr (Or.inr rfl))(hd:(x==("__debug__":Str))=false:=by decide)(hcd:(x==("__classdict__":Str))=false:=by decide)(hK:c.K=X.K:=by rfl)(hm:X.mg "len"=none:=by decreasing_trivial):DE X c (.Call (.Name "len" p) [.Name x p'] [] pos) (zdp i)where
 mono:=λM Q Q' k q=>by
  unfold zdp at q ⊢;split at q
  .exact zso _ _ _ k q
  .exact k _ q
  .exact q.elim
 pe:=zaN (zbF zch hg hm YDu (zag (zei hN hv hd hcd) zav)) λY H Q ⟨M,G,r,q⟩=>by
  unfold zdp at q;split at q
  .rename_i d e
   obtain⟨v,h1,h2⟩:=r.slot i _ e;exact⟨v,h1,hK▸zqE H G [d] [v] Q r.gh r.bx (λa z=>r.new0 z) (.one h2) q⟩
  .rename_i xs e
   obtain⟨a,vs,h1,h2,h3,h4,h5,h6⟩:=r.slot i _ e;exact⟨.ref a,h1,a,vs,rfl,.inl (SqL.of h2),by rw[<-h6.length];exact q _ H G r.refl rfl⟩
  .exact q.elim
def seqD(d:D)(Q:List D->Prop):Prop:=match d with|.lst _ xs=>Q xs|.tup xs=>Q xs|_=>False
def zdX(k:∀xs,Q xs->Q' xs)(q:seqD d Q):seqD d Q':=by
 cases d<;>first|exact k _ q|exact q
@[reducible] def zbV(A:WE):WL:=λM Q=>A M λd=>seqD d Q
def zfX(hA:DE X c e A)(hg:Gl X "list":=by rfl)(he:starEach [e] X.env=(false,eval e X.env)::starEach [] X.env:=by rfl)(hK:c.K=X.K:=by rfl)(hm:X.mg "list"=none:=by decreasing_trivial):DF X c (.Call (.Name "list" p) [e] [] pos) (zbV A)where
 mono:=λM Q Q' k q=>hA.mono M _ _ (λd z=>zdX k z) q
 pe:=zaN (zco zeV hg hm YCr (zag hA.pe zav he) (by decide) (by decide) he rfl) λY H Q ⟨M,G,r,q⟩=>⟨M,G,r,hA.mono M _ _ (λd z v H' G' t e=>by
  cases d with
  |lst n xs=>
   obtain⟨a,vs,rfl,ha,_,rv⟩:=e;exact⟨a,vs,rfl,.inl (SqL.of (t.gh _ _ ha)),λl hl=>z l vs _ _ (t.trans (Stp.own t.gh t.bx hl)) zac (zar t.gh hl) (t.free hl) rv⟩
  |tup xs=>
   obtain⟨a,vs,rfl,ha,rv⟩:=e;exact⟨a,vs,rfl,.inr (hK▸zaO t.gh ha),λl hl=>z l vs _ _ (t.trans (Stp.own t.gh t.bx hl)) zac (zar t.gh hl) (t.free hl) rv⟩
  |_=>exact z.elim) q⟩
def mulL(A B:WE):WL:=λM Q=>A M λx=>B M λy=>match x,y with|.lst _ xs,.int k=>(0<=k/\k<=1000/\xs.length<=1000)/\Q (List.replicate k.toNat xs).flatten|_,_=>False
def zsE(hA:DE X c a A)(hB:DE X c b B):DF X c (.BinOp a .Mult b pos) (mulL A B)where
 mono:=λM Q Q' k q=>hA.mono M _ _ (λx z=>hB.mono M _ _ (λy w=>by cases x<;>cases y<;>first|exact⟨w.1,k _ w.2⟩|exact w) z) q
 pe:=zaN (zb3 zma hA.pe hB.pe) λY H Q ⟨M,G,r,q⟩=>⟨M,G,r,hA.mono M _ _ (λx z u H1 G1 t1 e1=>⟨M,G1,r.step t1,hB.mono M _ _ (λy w v H2 G2 t2 e2=>by
  cases x with
  |lst n xs=>cases y with
   |int k=>
    obtain⟨⟨k0,k1,hz⟩,w⟩:=w;obtain⟨l,vs,rfl,ha,_,rv⟩:=e1.mono t2.gg;refine⟨l,k,vs,rfl,e2,t2.gh _ _ ha,by omega,by omega,?_,λp hp=>?_⟩
    .rw[<-rv.length,YAO];have h1:k.toNat<=1000:=by omega
     have:=Nat.mul_le_mul hz h1
     omega
    .have:∀m:Nat,Reps c G2 (List.replicate m xs).flatten (List.replicate m vs).flatten:=λm=>by
      induction m with
      |zero=>rfl
      |succ m ih=>rw[YAV,YAV,YBj,YBj];exact rv.append ih
     exact w p _ _ _ ((t1.trans t2).trans (Stp.own t2.gh t2.bx hp)) zac (zar t2.gh hp) ((t1.trans t2).free hp) (this _)
   |_=>exact w.elim
  |_=>exact w.elim) z⟩) q⟩
def zj8(A:WE):WL:=λM Q=>A M λd=>match d with|.int n=>(0<=n/\n<=1000)/\Q ((List.range n.toNat).map λ(k:Nat)=>D.int (k:Int))|_=>False
def zmu(hA:DE X c e A)(hg:Gl X "list":=by rfl)(hg2:Gl X "range":=by rfl)(he:starEach [e] X.env=(false,eval e X.env)::starEach [] X.env:=by rfl)(hcalm:X.calm=true:=by rfl)(hm:X.mg "list"=none:=by decreasing_trivial)(hm2:X.mg "range"=none:=by decreasing_trivial) :
  DF X c (.Call (.Name "list" p) [.Call (.Name "range" p') [e] [] pos2] [] pos) (zj8 A)where
 mono:=λM Q Q' k q=>hA.mono M _ _ (λd z=>by cases d<;>first|exact⟨z.1,k _ z.2⟩|exact z) q
 pe:=zaN (zco (zgW hcalm) hg hm YCr (zag (zco zmh hg2 hm2 PyProof.Rows.boot_range (zag hA.pe zav he) (by decide) (by decide) he rfl) zav) (by decide) (by decide) rfl rfl) λY H Q ⟨M,G,r,q⟩=>⟨M,G,r,hA.mono M _ _ (λd z v H' G' t e=>by
  cases d with
  |int n=>
   refine⟨n,by cases e;rfl,λp hp=>⟨p,n,rfl,zac,z.1.1,z.1.2,λl hl=>?_⟩⟩;have t2:=t.trans (Stp.own t.gh t.bx (o:=.rng 0 n) hp);refine z.2 l _ _ _ (t2.trans (Stp.own t2.gh t2.bx hl)) zac (zar t2.gh hl) (t2.free hl) ?_
   have:=(reps_ints (c:=c) (G:=G') (ns:=(List.range n.toNat).map Int.ofNat)).mpr rfl
   rw[YAK]at this;exact this
  |_=>exact z.elim) q⟩
def zdu:FL
 |[.lst _ xs],Q=>Q (.tup xs)
 |[.tup xs],Q=>Q (.tup xs)
 |_,_=>False
def zo5:zdt zdu:=λds Q Q' k q=>by
 unfold zdu at q ⊢;split at q<;>first|exact k _ q|exact q.elim
def znG:zhB c zdu (λxs H Q=>∃p ys,xs=[.ref p]/\((SqL c.K H p ys/\∀l,H l=none->Q (.ref l) (upd H l (.tup ys)))\/(SqT c.K H p ys/\Q (.ref p) H))):=by
 intro H G ds vs Q gh bx h0 rv q;unfold zdu at q;split at q
 .obtain⟨v,rfl,a,ws,rfl,ha,_,hw⟩:=ziI rv;exact⟨a,ws,rfl,.inl ⟨SqL.of (gh _ _ ha),λl hl=>q (.ref l) _ _ (Stp.new gh bx hl) ⟨l,ws,rfl,SqT.of zac,hw.mono (zb8 (zar gh hl))⟩⟩⟩
 .obtain⟨v,rfl,a,ws,rfl,ha,hw⟩:=ziI rv;exact⟨a,ws,rfl,.inr ⟨zaO gh ha,q (.ref a) H G (Stp.refl gh bx) ⟨a,ws,rfl,ha,hw⟩⟩⟩
 .exact q.elim
def zlp(hR:DA X c [e] R)(hg:Gl X "tuple":=by rfl)(he:starEach [e] X.env=(false,eval e X.env)::starEach [] X.env:=by rfl)(hK:c.K=X.K:=by rfl)(hm:X.mg "tuple"=none:=by decreasing_trivial):DE X c (.Call (.Name "tuple" p) [e] [] pos) (cbW zdu R):=
 zkw zo5 zhA (hK▸znG) hm PyProof.Rows.boot_tuple hR hg (by decide) (by decide) he rfl
def intF:FL
 |[.int i],Q=>Q (.int i)
 |[.bl k],Q=>Q (.int (if k then 1 else 0))
 |_,_=>False
def zsh:zdt intF:=λds Q Q' k q=>by
 unfold intF at q ⊢;split at q<;>first|exact k _ q|exact q.elim
def zqS:zhB c intF (λxs H Q=>(∃i,xs=[.int i]/\Q (.int i) H)\/∃k,xs=[.bl k]/\Q (.int (if k then 1 else 0)) H):=by
 intro H G ds vs Q gh bx h0 rv q;unfold intF at q;split at q
 .obtain⟨v,rfl,h⟩:=ziI rv;cases h;exact .inl ⟨_,rfl,q _ H G (Stp.refl gh bx) rfl⟩
 .obtain⟨v,rfl,h⟩:=ziI rv;cases h;exact .inr ⟨_,rfl,q _ H G (Stp.refl gh bx) rfl⟩
 .exact q.elim
def zsc(hR:DA X c [e] R)(hg:Gl X "int":=by rfl)(he:starEach [e] X.env=(false,eval e X.env)::starEach [] X.env:=by rfl)(hm:X.mg "int"=none:=by decreasing_trivial):DE X c (.Call (.Name "int" p) [e] [] pos) (cbW intF R):=
 zkw zsh zl0 zqS hm PyProof.Rows.boot_int hR hg (by decide) (by decide) he rfl
def minF:FL
 |[.int i,.int j],Q=>Q (.int (if j<i then j else i))
 |_,_=>False
def zsA:zdt minF:=λds Q Q' k q=>by
 unfold minF at q ⊢;split at q<;>first|exact k _ q|exact q.elim
def zq6:zhB c minF (λxs H Q=>∃i j,xs=[.int i,.int j]/\Q (.int (if j<i then j else i)) H):=by
 intro H G ds vs Q gh bx h0 rv q;unfold minF at q;split at q
 .obtain⟨v,w,rfl,h1,h2⟩:=zpQ rv;cases h1;cases h2;exact⟨_,_,rfl,q _ H G (Stp.refl gh bx) rfl⟩
 .exact q.elim
def zqc(hR:DA X c [a,b] R)(hg:Gl X "min":=by rfl)(he:starEach [a,b] X.env=(false,eval a X.env)::starEach [b] X.env:=by rfl)(hpl:(backTo pos (starEach [b] X.env)).any (·.1)=false:=by rfl)(hcalm:X.calm=true:=by rfl)(hm:X.mg "min"=none:=by decreasing_trivial):DE X c (.Call (.Name "min" p) [a,b] [] pos) (cbW minF R):=
 zi6 zsA (zh0 hcalm) zq6 hm PyProof.Rows.boot_min hR hg (by decide) (by decide) he hpl
def allF:FL
 |[.lst _ xs],Q=>∃bs:List Bool,xs=bs.map D.bl/\Q (.bl (bs.all id))
 |_,_=>False
def zse:zdt allF:=λds Q Q' k q=>by
 unfold allF at q ⊢;split at q
 .obtain⟨bs,e,q⟩:=q;exact⟨bs,e,k _ q⟩
 .exact q.elim
def zqx:zhB c allF (λvs H Q=>∃(p:Addr)(bs:List Bool),vs=[.ref p]/\SqL c.K H p (bs.map V.bl)/\Q (.bl (bs.all id)) H):=by
 intro H G ds vs Q gh bx h0 rv q;unfold allF at q;split at q
 .obtain⟨bs,rfl,q⟩:=q;obtain⟨v,rfl,a,ws,rfl,ha,_,hw⟩:=ziI rv;rw[reps_bools.mp hw]at ha;exact⟨a,bs,rfl,SqL.of (gh _ _ ha),q _ H G (Stp.refl gh bx) rfl⟩
 .exact q.elim
def zlc(hR:DA X c [e] R)(hg:Gl X "all":=by rfl)(he:starEach [e] X.env=(false,eval e X.env)::starEach [] X.env:=by rfl)(hK:c.K=X.K:=by rfl)(hcalm:X.calm=true:=by rfl)(hm:X.mg "all"=none:=by decreasing_trivial):DE X c (.Call (.Name "all" p) [e] [] pos) (cbW allF R):=
 zi6 zse (zis hcalm) (hK▸zqx) hm PyProof.Rows.boot_all hR hg (by decide) (by decide) he rfl
def setD(d:D)(Q:List Int->Prop):Prop:=seqD d λxs=>∃ns:List Int,xs=ns.map D.int/\ns.length<64/\Q ns
def ziN(k:∀xs,Q xs->Q' xs)(q:setD d Q):setD d Q':=zdX (λxs ⟨ns,e,h,q⟩=>⟨ns,e,h,k _ q⟩) q
@[reducible] def ze6(A:WE):WL:=λM Q=>A M λd=>setD d λns=>Q ((zbP ns).map D.int)
def zmQ:(100:Nat)<scanBound:=by decide +kernel
def zsH(c:Bk)(w:World)(A:WE):TE:=λY H Q=>∃ M G,Rel c M Y H G/\A M λd=>setD d λns=>∀l H' G',Stp c.β H G H' G'->H' l=none->Q (.ref l) (upd H' l (SetO w l ns))
def zpX(hm2:X.mg "set"=none)(hA:DE X c e A)(hg2:Gl X "set")(he:starEach [e] X.env=(false,eval e X.env)::starEach [] X.env)(hcalm:X.calm=true)(hK:c.K=X.K):PE X (.Call (.Name "set" p) [e] [] pos) (zsH c X.w A):=
 zaN (zco ((zjI hcalm).or (zik hcalm)) hg2 hm2 PyProof.Rows.boot_set (zag hA.pe zav he) (by decide) (by decide) he rfl) λY H Q ⟨M,G,r,q⟩=>⟨M,G,r,hA.mono M _ _ (λd z v H' G' t e=>by
  have hsc:=zmQ;cases d with
  |lst n xs=>
   obtain⟨ns,rfl,hl,q⟩:=z;obtain⟨a,ws,rfl,ha,_,hw⟩:=e;rw[reps_ints.mp hw]at ha;exact .inl ⟨a,ns,rfl,SqL.of (t.gh _ _ ha),by omega,λl hl=>q l H' G' t hl⟩
  |tup xs=>
   obtain⟨ns,rfl,hl,q⟩:=z;obtain⟨a,ws,rfl,ha,hw⟩:=e;rw[reps_ints.mp hw]at ha;exact .inr ⟨a,ns,rfl,hK▸zaO t.gh ha,by omega,λl hl=>q l H' G' t hl⟩
  |_=>exact z.elim) q⟩
def zn3(q:setD d Q):setD d λns=>ns.length<64/\Q ns:=zdX (λxs ⟨ns,e1,e2,q⟩=>⟨ns,e1,e2,e2,q⟩) q
def zf4(hA:DE X c e A)(hg:Gl X "sorted":=by rfl)(hg2:Gl X "set":=by rfl)(he:starEach [e] X.env=(false,eval e X.env)::starEach [] X.env:=by rfl)(hcalm:X.calm=true:=by rfl)(hK:c.K=X.K:=by rfl)(hm:X.mg "sorted"=none:=by decreasing_trivial)(hm2:X.mg "set"=none:=by decreasing_trivial) :
  DF X c (.Call (.Name "sorted" p) [.Call (.Name "set" p') [e] [] pos'] [] pos) (ze6 A)where
 mono:=λM Q Q' k q=>hA.mono M _ _ (λd z=>ziN (λns y=>k _ y) z) q
 pe:=zaN (zbF (zdh hcalm) hg hm YCg (zag (zpX hm2 hA hg2 he hcalm hK) zav) (by decide) (by decide) rfl rfl) λY H Q ⟨M,G,r,q⟩=>⟨M,G,r,hA.mono M _ _ (λd z=>ziN (λns z l H' G' t hl=>by
  have t2:=t.trans (Stp.own t.gh t.bx (o:=SetO X.w l ns) hl);refine⟨l,ns,rfl,zac,z.1,λl3 ms hl3 up mem=>?_⟩;rw[zqf up mem];exact z.2 l3 _ _ _ (t2.trans (Stp.own t2.gh t2.bx hl3)) zac (zar t2.gh hl3) (t2.free hl3) (reps_ints.mpr rfl)) (zn3 z)) q⟩
def isiB(T:String):D->Option Bool
 |.non=>some false
 |.bl _=>some (T=="bool" || T=="int")
 |.int _=>some (T=="int")
 |.str _=>some (T=="str")
 |.tup _=>some (T=="tuple")
 |.lst _ _=>some (T=="list")
 |.box=>none
def isiW(T:String)(A:WE):WE:=λM Q=>A M λd=>match isiB T d with|some b=>Q (.bl b)|none=>False
def zpT(hT:T="list" \/ T="tuple" \/ T="int" \/ T="bool" \/ T="str")(gh:Same G H)(h:Rep c G d v)(e:isiB T d=some k):IsI c.K H v T k:=by
 cases d with
 |non=>cases h;rcases hT with rfl|rfl|rfl|rfl|rfl<;>cases e<;>constructor
 |bl b=>cases h;rcases hT with rfl|rfl|rfl|rfl|rfl<;>cases e<;>constructor
 |int b=>cases h;rcases hT with rfl|rfl|rfl|rfl|rfl<;>cases e<;>constructor
 |str b=>cases h;rcases hT with rfl|rfl|rfl|rfl|rfl<;>cases e<;>constructor
 |tup xs=>
  obtain⟨a,vs,rfl,h1,_⟩:=h;have q:=zaO gh h1;rcases hT with rfl|rfl|rfl|rfl|rfl<;>cases e
  .exact .tuple_list _ _ q
  .exact .tuple_tuple _ _ q
  .exact .tuple_int _ _ q
  .exact .tuple_bool _ _ q
  .exact .tuple_str _ _ q
 |lst n xs=>
  obtain⟨a,vs,rfl,h1,_⟩:=h;have q:SqL c.K H a vs:=SqL.of (gh _ _ h1);rcases hT with rfl|rfl|rfl|rfl|rfl<;>cases e
  .exact .list_list _ _ q
  .exact .list_tuple _ _ q
  .exact .list_int _ _ q
  .exact .list_bool _ _ q
  .exact .list_str _ _ q
 |box=>cases e
def zcW(hA:DE X c e A)(hg:Gl X "isinstance":=by rfl)(hg2:Gl X x:=by rfl)(hn:x≠"__name__":=by decide)(hd:(x==("__debug__":Str))=false:=by decide)(he:starEach [e,.Name x p'] X.env=(false,eval e X.env)::starEach [.Name x p'] X.env:=by rfl)(hK:c.K=X.K:=by rfl)(hT:T="list" \/ T="tuple" \/ T="int" \/ T="bool" \/ T="str":=by decreasing_trivial)(hm:X.mg "isinstance"=none:=by decreasing_trivial)(hm2:X.mg x=none:=by decreasing_trivial)(hbt:bootBuiltins x=some (.type T):=by decreasing_trivial) :
  DE X c (.Call (.Name "isinstance" p) [e,.Name x p'] [] pos) (isiW T A)where
 mono:=λM Q Q' k q=>hA.mono M _ _ (λd z=>by
  revert z;cases isiB T d with
  |none=>exact id
  |some b=>exact k _) q
 pe:=zaN (zbF zoi hg hm PyProof.Rows.boot_isinstance (zag hA.pe (zag (zpo (v:=.ty T) hg2 hm2 hbt rfl hn hd) zav) he) (by decide) (by decide) he rfl) λY H Q ⟨M,G,r,q⟩=>⟨M,G,r,hA.mono M _ _ (λd z v H' G' t e=>by
  revert z;cases hk:isiB T d with
  |none=>exact False.elim
  |some b=>exact λz=>⟨v,T,b,rfl,hK▸zpT hT t.gh e hk,z _ H' G' t rfl⟩) q⟩
abbrev Fn:=List D->(D->Prop)->Prop
def up(F:Fn):Fn:=λds Q=>∃P:D->Prop,F ds P/\∀d,P d->Q d
def zhq(F:Fn):zdt (up F):=λds Q Q' k ⟨P,h1,h2⟩=>⟨P,h1,λd z=>k d (h2 d z)⟩
def spD(K:qg)(n:Nat)(F:Fn):Sp:=λvs H Q _=>∃ β G ds,Same G H/\BoxD β H G/\Reps ⟨K,β,λ_=>none,G⟩ G ds vs/\vs.length=n/\up F ds λd=>∀v H' G',Stp β H G H' G'->Rep ⟨K,β,H,G⟩ G' d v->Q v H'
structure Cal(P:Program)(w:World)(K:qg)(mg:Str->Option Value)(base:Heap)(x:Str)(k:Nat)(ps:List Str)(sp:Sp):Prop where
 ex:∃f fd,FnOk P w K mg base CX0 k f fd ps sp/\mg x=some (.ref f)/\PySem.W.keepIn K (.ref f)=true/\Binds K fd ps []
def Cal.of(F:Fun K x qual st f fd)(G:FnOk P w K mg base CX0 k f fd ps sp)(hm:mg x=some (.ref f))(hb:Binds K fd ps []):Cal P w K mg base x k ps sp:=
 ⟨f,fd,G,hm,F.kp,hb⟩
@[reducible] def zas(n:Nat)(F:Fn)(R:WL):WE:=λM Q=>R M λds=>ds.length=n/\up F ds Q
def zao(C:Cal X.prog X.w X.K X.mg X.base x k ps (spD X.K n F))(hR:DA X c (e::es) R)(hg:Gl X x:=by rfl)
  (hdb:(x==("__debug__":Str))=false:=by decide) (he:starEach (e::es) X.env=(false,eval e X.env)::starEach es X.env:=by rfl) (hpl:(backTo pos (starEach es X.env)).any (·.1)=false:=by rfl) (hK:c.K=X.K:=by rfl) (hr:Room k X.A:=by decreasing_trivial) :
  DE X c (.Call (.Name x p) (e::es) [] pos) (zas n F R)where
 mono:=λM Q Q' k q=>hR.mono M _ _ (λds z=>⟨z.1,zhq F ds _ _ k z.2⟩) q
 pe:=by
  obtain⟨f,fd,FO,hm,hk,hb⟩:=C.ex;refine zaN (zhy FO hr hg hm hk hb .nil zot hR.pa hdb he hpl) λY H Q ⟨M,G,r,q⟩=>⟨M,G,r,hR.mono M _ _ (λds z vs H' G' t e=>?_) q⟩;show spD X.K n F (vs++[]) H' Q E0;rw[YAR];exact⟨c.β,G',ds,t.gh,t.bx,Reps.back (c':=c) (c:=⟨X.K,c.β,λ_=>none,G'⟩) hK rfl (λ_ _=>rfl) e,by rw[<-e.length];exact z.1,
   zhq F ds _ _ (λd z v H2 G2 t2 e2=>z v H2 G2 (t.trans t2) (Rep.back (c':=⟨X.K,c.β,H',G'⟩) (c:=c) hK.symm rfl (λa h=>r.new0 (t.free h)) e2)) z.2⟩
end
mutual
inductive Tg where
 |nm (i:Nat)
 |tp (n:Nat) (ts:Tgs)
inductive Tgs where
 |nil
 |cons (t:Tg) (ts:Tgs)
end
mutual
def gOf(K:qg):Tg->TG
 |.nm i=>zcY i
 |.tp n ts=>gSeq K n (gsOf K ts)
def gsOf(K:qg):Tgs->TGs
 |.nil=>gNil
 |.cons t ts=>ze4 (gOf K t) (gsOf K ts)
end
mutual
def gD:Tg->D->Env->(Env->Prop)->Prop
 |.nm i,d,M,Q=>Q (M.set i (.val d))
 |.tp n ts,.tup ds,M,Q=>ds.length=n/\gDs ts ds M Q
 |.tp n ts,.lst _ ds,M,Q=>ds.length=n/\gDs ts ds M Q
 |.tp _ _,_,_,_=>False
def gDs:Tgs->List D->Env->(Env->Prop)->Prop
 |.nil,[],M,Q=>Q M
 |.cons t ts,d::ds,M,Q=>gD t d M λM'=>gDs ts ds M' Q
 |_,_,_,_=>False
end
mutual
theorem zbo:∀(t:Tg)(d:D)(M:Env){Q Q':Env->Prop},(∀ M,Q M->Q' M)->gD t d M Q->gD t d M Q'
 |.nm i,d,M,Q,Q',k,q=>by unfold gD at q ⊢;exact k _ q
 |.tp n ts,.tup ds,M,Q,Q',k,q=>by unfold gD at q ⊢;exact⟨q.1,zhp ts ds M k q.2⟩
 |.tp _ _,.non,_,_,_,_,q=>by unfold gD at q;exact q.elim
 |.tp _ _,.bl _,_,_,_,_,q=>by unfold gD at q;exact q.elim
 |.tp _ _,.int _,_,_,_,_,q=>by unfold gD at q;exact q.elim
 |.tp _ _,.str _,_,_,_,_,q=>by unfold gD at q;exact q.elim
 |.tp n ts,.lst _ ds,M,Q,Q',k,q=>by unfold gD at q ⊢;exact⟨q.1,zhp ts ds M k q.2⟩
 |.tp _ _,.box,_,_,_,_,q=>by unfold gD at q;exact q.elim
theorem zhp:∀(ts:Tgs)(ds:List D)(M:Env){Q Q':Env->Prop},(∀ M,Q M->Q' M)->gDs ts ds M Q->gDs ts ds M Q'
 |.nil,[],M,Q,Q',k,q=>by unfold gDs at q ⊢;exact k _ q
 |.cons t ts,d::ds,M,Q,Q',k,q=>by unfold gDs at q ⊢;exact zbo t d M (λM' z=>zhp ts ds M' k z) q
 |.nil,_::_,_,_,_,_,q=>by unfold gDs at q;exact q.elim
 |.cons _ _,[],_,_,_,_,q=>by unfold gDs at q;exact q.elim
end
mutual
theorem zdD :∀(t:Tg)(d:D)(v:V)(M:Env)(Y:St){Q:St->Hp->Prop},Rel c M Y H G->Rep c G d v->gD t d M (λM'=>∀ Y',Rel c M' Y' H G->Q Y' H)->gOf c.K t v Y H Q
 |.nm i,d,v,M,Y,Q,r,e,q=>by unfold gD at q;unfold gOf;exact q _ (r.put e)
 |.tp n ts,.tup ds,v,M,Y,Q,r,e,q=>by
  unfold gD at q;unfold gOf;obtain⟨a,vs,rfl,ha,hv⟩:=e;exact⟨a,vs,rfl,.inl (zaO r.gh ha),by rw[<-hv.length];exact q.1,zhc ts ds vs M Y r hv q.2⟩
 |.tp _ _,.non,_,_,_,_,_,_,q=>by unfold gD at q;exact q.elim
 |.tp _ _,.bl _,_,_,_,_,_,_,q=>by unfold gD at q;exact q.elim
 |.tp _ _,.int _,_,_,_,_,_,_,q=>by unfold gD at q;exact q.elim
 |.tp _ _,.str _,_,_,_,_,_,_,q=>by unfold gD at q;exact q.elim
 |.tp n ts,.lst m ds,v,M,Y,Q,r,e,q=>by
  unfold gD at q;unfold gOf;obtain⟨a,vs,rfl,ha,_,hv⟩:=e;exact⟨a,vs,rfl,.inr (SqL.of (r.gh _ _ ha)),by rw[<-hv.length];exact q.1,zhc ts ds vs M Y r hv q.2⟩
 |.tp _ _,.box,_,_,_,_,_,_,q=>by unfold gD at q;exact q.elim
theorem zhc :∀(ts:Tgs)(ds:List D)(vs:List V)(M:Env)(Y:St){Q:St->Hp->Prop},Rel c M Y H G->Reps c G ds vs->gDs ts ds M (λM'=>∀ Y',Rel c M' Y' H G->Q Y' H)->gsOf c.K ts vs Y H Q
 |.nil,[],vs,M,Y,Q,r,e,q=>by unfold gDs at q;unfold gsOf;exact⟨e,q _ r⟩
 |.cons t ts,d::ds,vs,M,Y,Q,r,e,q=>by
  unfold gDs at q;unfold gsOf;obtain⟨v,ws,rfl,e1,e2⟩:=e;exact⟨v,ws,rfl,zdD t d v M Y r e1 (zbo t d M (λM' z Y' r'=>zhc ts ds ws M' Y' r' e2 z) q)⟩
 |.nil,_::_,_,_,_,_,_,_,q=>by unfold gDs at q;exact q.elim
 |.cons _ _,[],_,_,_,_,_,_,q=>by unfold gDs at q;exact q.elim
end
structure En where
 nx:Env->Prop
 rt:D->Prop
 bk:Env->Prop
 ct:Env->Prop
abbrev WS:=En->Env->Prop
structure En.Le(E E':En):Prop where
 nx:∀ M,E.nx M->E'.nx M
 rt:∀d,E.rt d->E'.rt d
 bk:∀ M,E.bk M->E'.bk M
 ct:∀ M,E.ct M->E'.ct M
def zlq(W:WS):Prop:=∀E E' M,En.Le E E'->W E M->W E' M
noncomputable def ends(c:Bk)(G:Hp)(Ds:Ends):En where
 nx:=λM=>∀ Y H' G',Rel c M Y H' G'->Same G G'->Ds.nx Y H'
 rt:=λd=>∀v H' G',Stp c.β c.H0 c.G0 H' G'->Rep c G' d v->Ds.rt v H'
 bk:=λM=>∀ Y H' G',Rel c M Y H' G'->Same G G'->Ds.bk Y H'
 ct:=λM=>∀ Y H' G',Rel c M Y H' G'->Same G G'->Ds.ct Y H'
def zfR(s:Same G G1):En.Le (ends c G Ds) (ends c G1 Ds):=
 ⟨λM h Y H' G' r s'=>h Y H' G' r (s.trans s'),λd h=>h,λM h Y H' G' r s'=>h Y H' G' r (s.trans s'),λM h Y H' G' r s'=>h Y H' G' r (s.trans s')⟩
def tDS(c:Bk)(W:WS):TS:=λDs Y H=>∃ M G,Rel c M Y H G/\W (ends c G Ds) M
structure DS(X:Cx)(c:Bk)(st:Stmt)(W:WS):Prop where
 mono:zlq W
 ps:PS X st (tDS c W)
structure DSs(X:Cx)(c:Bk)(sts:List Stmt)(W:WS):Prop where
 mono:zlq W
 pss:PSs X sts (tDS c W)
section
variable{X:Cx}{c:Bk}{st:Stmt}{rest:List Stmt}{pos p p':Pos}{e:Expr}
def zcp(h:PS X st t)(k:∀D Y H,t' D Y H->t D Y H):PS X st t':=λO s Y H D I q=>h O s Y H D I (k D Y H q)
def zfB(h:PSs X rest t)(k:∀D Y H,t' D Y H->t D Y H):PSs X rest t':=λO s Y H D I q=>h O s Y H D I (k D Y H q)
@[reducible] def nilS:WS:=λE M=>E.nx M
@[reducible] def seqW(A B:WS):WS:=λE M=>A {E with nx:=B E} M
def zb0:DSs X c [] nilS:=⟨λE E' M l q=>l.nx _ q,zfB zbL λD Y H ⟨M,G,r,q⟩=>q Y H G r (Same.refl _)⟩
def zak(h1:DS X c st A)(h2:DSs X c rest B):DSs X c (st::rest) (seqW A B)where
 mono:=λE E' M l q=>h1.mono {E with nx:=B E} _ M ⟨λM' z=>h2.mono _ _ M' l z,l.rt,l.bk,l.ct⟩ q
 pss:=zfB (zam h1.ps h2.pss) λD Y H ⟨M,G,r,q⟩=>⟨M,G,r,h1.mono {ends c G D with nx:=B (ends c G D)} _ M ⟨λM' z Y' H' G' r' s'=>⟨M',G',r',h2.mono _ _ M' (zfR s') z⟩,λd z=>z,λM' z=>z,λM' z=>z⟩ q⟩
def zax(h1:DS X c st A):DSs X c [st] A:=⟨h1.mono,zaA h1.ps⟩
def frz(i:Nat)(M:Env):Env:=match M[i]? with|some (.own xs)=>M.set i (.val (.lst true xs))|_=>M
@[reducible] def frzW(i:Nat)(A:WS):WS:=λE M=>A E (frz i M)
def zpk(r:Rel c M Y H G)(i:Nat):∃G',Same G G'/\Rel c (frz i M) Y H G':=by
 unfold frz;split
 .rename_i xs e;exact r.freeze e
 .exact⟨G,Same.refl _,r⟩
def zlg(i:Nat)(h:DS X c st A):DS X c st (frzW i A)where
 mono:=λE E' M l q=>h.mono E E' _ l q
 ps:=zcp h.ps λD Y H ⟨M,G,r,q⟩=>by
  obtain⟨G',s',r'⟩:=zpk r i;exact⟨frz i M,G',r',h.mono _ _ _ (zfR s') q⟩
@[reducible] def ifS(C:WT)(A B:WS):WS:=λE M=>C M λb=>if b=true then A E M else B E M
def s_if(hC:DT X c e C)(hA:DSs X c a A)(hB:DSs X c b B):DS X c (.If e a b pos) (ifS C A B)where
 mono:=λE E' M l q=>hC.mono M _ _ (λb z=>by
  cases b
  .exact hB.mono _ _ M l z
  .exact hA.mono _ _ M l z) q
 ps:=zcp (zeu hC.pt hA.pss hB.pss) λD Y H ⟨M,G,r,q⟩=>⟨M,G,r,hC.mono M _ _ (λb z H' G' t=>by
  cases b
  .exact⟨M,G',r.step t,hB.mono _ _ M (zfR t.gg) z⟩
  .exact⟨M,G',r.step t,hA.mono _ _ M (zfR t.gg) z⟩) q⟩
@[reducible] def retW(A:WE):WS:=λE M=>A M E.rt
def zaR(hA:DE X c e A):DS X c (.Return (some e) pos) (retW A)where
 mono:=λE E' M l q=>hA.mono M _ _ l.rt q
 ps:=zcp (zbI hA.pe) λD Y H ⟨M,G,r,q⟩=>⟨M,G,r,hA.mono M _ _ (λd z v H' G' t e=>z v H' G' (r.stp.trans t) e) q⟩
@[reducible] def asgW(t:Tg)(A:WE):WS:=λE M=>A M λd=>gD t d M E.nx
def zjP(mA:zbZ A)(D:Ends)(Y:St)(H:Hp)(h:tDS c (asgW t A) D Y H):tAsg (tD c A) (gOf c.K t) D Y H:=by
 obtain⟨M,G,r,q⟩:=h;exact⟨M,G,r,mA M _ _ (λd z v H' G' t1 e1=>zdD t d v M Y (r.step t1) e1 (zbo t d M (λM' y Y' r'=>y Y' H' G' r' t1.gg) z)) q⟩
def ze7(mA:zbZ A):zlq (asgW t A):=λE E' M l q=>mA M _ _ (λd z=>zbo t d M l.nx z) q
def gn(i:Nat)(hi:X.N[i]?=some x:=by rfl)(hx:Loc X.env.scope x:=by first|exact Or.inl rfl|exact Or.inr rfl)(hf:X.fn x=true\/X.env.scope.names.lookup x=some .local:=by first|exact .inl rfl|exact .inr rfl|assumption)(hN:X.N.Nodup:=by decreasing_trivial):PG X (.Name x p) (zcY i):=zaz hN hi hx hf
def ndB:List Str->Bool
 |[]=>true
 |x::l=>!l.elem x&&ndB l
theorem ndB_of:∀{l:List Str},ndB l=true->l.Nodup
 |[],_=>YCR
 |x::l,h=>by
  unfold ndB at h
  have:=YC2.mp h
  refine YBl.mpr ⟨λm=>?_,ndB_of this.2⟩;rw[List.elem_iff.mpr m]at this;exact absurd this.1 (by decide)
def za2(i:Nat)(hA:DE X c e A)(hi:X.N[i]?=some x:=by rfl)(hx:Loc X.env.scope x:=by first|exact Or.inl rfl|exact Or.inr rfl)(hs:swapsWith e (some (.Name x p)) pos.line X.env=pure false:=by rfl)(hf:X.fn x=true\/X.env.scope.names.lookup x=some .local:=by first|exact .inl rfl|exact .inr rfl|assumption)(hN:X.N.Nodup:=by decreasing_trivial):DS X c (.Assign [.Name x p] e pos) (asgW (.nm i) A):=
 ⟨ze7 hA.mono,zcp (zbn hN hi hx hA.pe hs hf) λD Y H h=>zjP (t:=.nm i) hA.mono D Y H h⟩
def zjb(t:Tg)(hA:DE X c e A)(hg:PG X tg (gOf c.K t))(hs:swapsWithSole [tg] e pos.line X.env=pure false:=by rfl)(hw:swappedStores [tg] e X.env=pure none:=by rfl)
  (h1:(assignEach [tg] X.env).map (·.2)=[assign tg X.env]:=by rfl):DS X c (.Assign [tg] e pos) (asgW t A):=
 ⟨ze7 hA.mono,zcp (zdv hA.pe hg hs hw h1) λD Y H h=>zjP hA.mono D Y H h⟩
@[reducible] def ownW(i:Nat)(F:WL):WS:=λE M=>F M λxs=>E.nx (M.set i (.own xs))
def znO(mF:zdd F):zlq (ownW i F):=λE E' M l q=>mF M _ _ (λd z=>l.nx _ z) q
def zn5(mF:zdd F)(D:Ends)(Y:St)(H:Hp)(h:tDS c (ownW i F) D Y H):tAsg (tDf c F) (zcY i) D Y H:=by
 obtain⟨M,G,r,q⟩:=h;refine⟨M,G,r,mF M _ _ (λxs z l vs H' G' t hl hg h0 hv=>?_) q⟩;refine z _ H' G' ((r.step t).putOwn hl hg (r.new0 h0) (r.neβ h0) hv λj ys e1 e2=>?_) t.gg;obtain⟨a,vs',f1,f2,_⟩:=r.slot j _ e1;rw[e2]at f1;cases f1;rw[h0]at f2;cases f2
def zkT(i:Nat)(hF:DF X c e F)(hi:X.N[i]?=some x:=by rfl)(hx:Loc X.env.scope x:=by first|exact Or.inl rfl|exact Or.inr rfl)(hs:swapsWith e (some (.Name x p)) pos.line X.env=pure false:=by rfl)(hf:X.fn x=true\/X.env.scope.names.lookup x=some .local:=by first|exact .inl rfl|exact .inr rfl|assumption)(hN:X.N.Nodup:=by decreasing_trivial):DS X c (.Assign [.Name x p] e pos) (ownW i F):=
 ⟨znO hF.mono,zcp (zbn hN hi hx hF.pe hs hf) λD Y H h=>zn5 hF.mono D Y H h⟩
def appW(i:Nat)(A:WE):WS:=λE M=>match M[i]? with
 |some (.own xs)=>A M λd=>xs.length<100000/\E.nx (M.set i (.own (xs++[d])))
 |_=>False
def znS(i:Nat)(hA:DE X c e A)(hN:X.N[i]?=some x:=by rfl)(hv:Vis X.env.scope x:=by first|exact Or.inl rfl|exact Or.inr (Or.inl rfl)|exact Or.inr (Or.inr rfl))
  (hd:(x==("__debug__":Str))=false:=by decide) (hcd:(x==("__classdict__":Str))=false:=by decide)
  (hbase:attributeBase (.Name x p) "append" X.env (eval (.Name x p) X.env)=eval (.Name x p) X.env:=by rfl)
  (hfew:((backTo cpos (starEach [e] X.env)).all (λx=>!x.1)&&(backToKw cpos (keywordEach [] X.env)).all (λx=>x.1.isSome)
   && decide (([e]:List Expr).length+([]:List Keyword).length+(if ([]:List Keyword).isEmpty then 0 else 1)<30))=true:=by rfl)
  (hline:(apos.endLine==cpos.line)=true:=by rfl) (hs:starEach [e] X.env=(false,eval e X.env)::starEach [] X.env:=by rfl)
  (hsw:swapsWith (.Call (.Attribute (.Name x p) "append" apos) [e] [] cpos) none pos.line X.env=pure false:=by rfl):DS X c (.Expr (.Call (.Attribute (.Name x p) "append" apos) [e] [] cpos) pos) (appW i A)where
 mono:=λE E' M l q=>by
  unfold appW at q ⊢;split at q
  .exact hA.mono M _ _ (λd z=>⟨z.1,l.nx _ z.2⟩) q
  .exact q.elim
 ps:=zcp (zdb (zkM YBG YBA YBB zbQ (zei hN hv hd hcd) (zag hA.pe zav hs) hbase hfew hline hs rfl) hsw) λD Y H ⟨M,G,r,q⟩=>by
  unfold appW at q;split at q
  .rename_i xs ek
   obtain⟨a,vs,h1,h2,h3,h4,h5,h6⟩:=r.slot i _ ek;refine⟨.ref a,h1,.inl ⟨rfl,vs,SqL.of h2⟩,M,G,r,hA.mono M _ _ (λd z w H' G' t e=>?_) q⟩;refine⟨a,vs,w,rfl,rfl,t.fr a _ h5 h2,?_,?_⟩
   .rw[<-h6.length];exact YAt z.1 (small5 (YAj _))
   .exact z.2 _ _ G' ((r.step t).write ek h1 ((h6.mono t.gg).append (.one e))) t.gg
  .exact q.elim
def ixS(xs:List D)(k:D)(Q:Nat->Prop):Prop:=match k with|.int j=>(match ixN xs.length j with|some m=>Q m|none=>False)|_=>False
def zol(f:∀m,Q m->Q' m)(q:ixS xs k Q):ixS xs k Q':=by
 unfold ixS at q ⊢;split at q
 .split at q
  .exact f _ q
  .exact q.elim
 .exact q.elim
def putW(i:Nat)(I A:WE):WS:=λE M=>match M[i]? with
 |some (.own xs)=>A M λd=>I M λk=>ixS xs k λm=>E.nx (M.set i (.own (xs.set m d)))
 |_=>False
def zr8(i:Nat)(hA:DE X c e A)(hI:DE X c ie I)(hN:X.N[i]?=some x:=by rfl)(hv:Vis X.env.scope x:=by first|exact Or.inl rfl|exact Or.inr (Or.inl rfl)|exact Or.inr (Or.inr rfl))
  (hd:(x==("__debug__":Str))=false:=by decide) (hcd:(x==("__classdict__":Str))=false:=by decide)
  (ha:∀v,assign (.Subscript (.Name x p) ie tpos) X.env v=(do
   let ov <-holding [v] (eval (.Name x p) X.env)
   let iv <-holding [v,ov] (eval ie X.env)
   standAt tpos
   holding [v,ov,iv] (setItem ov iv v)
   release [v,ov,iv] []):=by intro _;rfl) (hs:swapsWithSole [.Subscript (.Name x p) ie tpos] e pos.line X.env=pure false:=by rfl) (hw:swappedStores [.Subscript (.Name x p) ie tpos] e X.env=pure none:=by rfl)
  (h1:(assignEach [.Subscript (.Name x p) ie tpos] X.env).map (·.2)=[assign (.Subscript (.Name x p) ie tpos) X.env]:=by rfl):DS X c (.Assign [.Subscript (.Name x p) ie tpos] e pos) (putW i I A)where
 mono:=λE E' M l q=>by
  unfold putW at q ⊢;split at q
  .exact hA.mono M _ _ (λd z=>hI.mono M _ _ (λk y=>zol (λm=>l.nx _) y) z) q
  .exact q.elim
 ps:=zcp (zdv hA.pe (ziE (zei hN hv hd hcd) hI.pe zcH ha) hs hw h1) λD Y H ⟨M,G,r,q⟩=>by
  unfold putW at q;split at q
  .rename_i xs ek
   refine⟨M,G,r,hA.mono M _ _ (λd z v H1 G1 t1 e1=>?_) q⟩;obtain⟨a,vs,h1,h2,h3,h4,h5,h6⟩:=(r.step t1).slot i _ ek;refine⟨.ref a,h1,M,G1,r.step t1,hI.mono M _ _ (λk y w H2 G2 t2 e2=>?_) z⟩;unfold ixS at y;split at y
   .rename_i j
    split at y
    .rename_i m em
     refine⟨a,vs,j,m,rfl,e2,t2.fr a _ h5 h2,by rw[<-h6.length];exact em,?_⟩;exact y Y _ G2 (((r.step t1).step t2).write ek h1 (Reps.set (e1.mono t2.gg) m (h6.mono t2.gg))) (t1.gg.trans t2.gg)
    .exact y.elim
   .exact y.elim
  .exact q.elim
def getI(xs:List D)(k:D)(Q:Nat->Int->Prop):Prop:=match k with|.int j=>(match xs[j.toNat]? with|some (.int a)=>0<=j/\Q j.toNat a|_=>False)|_=>False
def zlO(f:∀m a,Q m a->Q' m a)(q:getI xs k Q):getI xs k Q':=by
 unfold getI at q ⊢;split at q
 .split at q
  .exact⟨q.1,f _ _ q.2⟩
  .exact q.elim
 .exact q.elim
def intD(d:D)(Q:Int->Prop):Prop:=match d with|.int j=>Q j|_=>False
def ziV(f:∀m,Q m->Q' m)(q:intD d Q):intD d Q':=by
 cases d<;>first|exact f _ q|exact q
def zfr(i:Nat)(I A:WE):WS:=λE M=>match M[i]? with
 |some (.own xs)=>I M λk=>getI xs k λm a=>A M λd=>intD d λb=>E.nx (M.set i (.own (xs.set m (.int (a+b)))))
 |_=>False
def zlF(i:Nat)(hI:DE X c ie I)(hA:DE X c e A)(hN:X.N[i]?=some x:=by rfl)(hv:Vis X.env.scope x:=by first|exact Or.inl rfl|exact Or.inr (Or.inl rfl)|exact Or.inr (Or.inr rfl))
  (hd:(x==("__debug__":Str))=false:=by decide) (hcd:(x==("__classdict__":Str))=false:=by decide)
  (ha:∀ov iv new,augStore ie ov iv new=(do holding [new,ov,iv] (setItem ov iv new);release [new,ov,iv] [];pure .next):=by intros;rfl):DS X c (.AugAssign (.Subscript (.Name x p) ie tpos) .Add e pos) (zfr i I A)where
 mono:=λE E' M l q=>by
  unfold zfr at q ⊢;split at q
  .exact hI.mono M _ _ (λk z=>zlO (λm a y=>hA.mono M _ _ (λd w=>ziV (λb=>l.nx _) w) y) z) q
  .exact q.elim
 ps:=zcp (zni (zei hN hv hd hcd) hI.pe zkG hA.pe zlz zcH ha) λD Y H ⟨M,G,r,q⟩=>by
  unfold zfr at q;split at q
  .rename_i xs ek
   obtain⟨a,vs,h1,h2,h3,h4,h5,h6⟩:=r.slot i _ ek;refine⟨.ref a,h1,M,G,r,hI.mono M _ _ (λk y w H1 G1 t1 e1=>?_) q⟩;unfold getI at y;split at y
   .rename_i j
    split at y
    .rename_i b em
     obtain⟨j0,y⟩:=y;have ej:w=V.int ((j.toNat:Nat):Int):=by rw[YBw j0];exact e1
     obtain⟨v,ev,rv⟩:=h6.get em;have rv':v=V.int b:=rv;refine⟨a,vs,j.toNat,v,rfl,ej,SqL.of (t1.fr a _ h5 h2),ev,M,G1,r.step t1,hA.mono M _ _ (λd z u H2 G2 t2 e2=>?_) y⟩;cases d with
     |int b2=>
      refine⟨b,b2,rv',e2,a,vs,((j.toNat:Nat):Int),j.toNat,rfl,ej,t2.fr a _ h5 (t1.fr a _ h5 h2),?_,?_⟩
      .unfold ixN;have hlt:j.toNat<vs.length:=(YAh.mp ev).1;rw[if_pos (by omega),if_pos (by omega),YAE]
      .exact z Y _ G2 (((r.step t1).step t2).write ek h1 (Reps.set (d:=.int (b+b2)) rfl j.toNat ((h6.mono t1.gg).mono t2.gg))) (t1.gg.trans t2.gg)
     |_=>exact z.elim
    .exact y.elim
   .exact y.elim
  .exact q.elim
end
def ItOk(c:Bk)(J:It)(xs:List D)(G:Hp):Prop:=∀(i:Nat)(H2 G2:Hp),Same G G2->Same G2 H2->BoxD c.β H2 G2->(∀a,H2 a=none->c.H0 a=none) ->
 (i=xs.length->J.stop i H2)/\∀d,xs[i]?=some d->J.go i H2/\∀x H3,J.yld i H2 x H3->∃G3,Stp c.β H2 G2 H3 G3/\Rep c G3 d x
def tDI(c:Bk)(I:WL):TI:=λY H R=>∃ M G,Rel c M Y H G/\I M λxs=>∀J H' G',Stp c.β H G H' G'->ItOk c J xs G'->R J H'
structure DI(X:Cx)(c:Bk)(tg iter:Expr)(I:WL):Prop where
 mono:zdd I
 pi:PI X tg iter (tDI c I)
section
variable{X:Cx}{c:Bk}{tg e a b:Expr}{A B:WE}{pos p:Pos}
def zly(h:PI X tg e wi)(k:∀ Y H R,wi' Y H R->wi Y H R):PI X tg e wi':=λO s Y H R I q=>h O s Y H R I (k Y H R q)
def zpI(hl:G l=some (.lst vs))(h:Reps c G xs vs):ItOk c (Itl c.K l) xs G:=by
 intro i H2 G2 s1 s2 bx h0;have q:SqL c.K H2 l vs:=SqL.of (s2 _ _ (s1 _ _ hl));refine⟨λe=>⟨vs,q,by rw[e,h.length];exact YAj _⟩,λd e=>?_⟩;obtain⟨v,e1,e2⟩:=h.get e;refine⟨⟨vs,v,q,e1⟩,λx H3 y=>?_⟩;obtain⟨rfl,y⟩:=y
 have:=y vs q
 rw[e1]at this;cases this;exact⟨G2,Stp.refl s2 bx,e2.mono s1⟩
def zrj(hl:SqT c.K G l vs)(h:Reps c G xs vs):ItOk c (Itt c.K l) xs G:=by
 intro i H2 G2 s1 s2 bx h0;have q:SqT c.K H2 l vs:=zaO (s1.trans s2) hl;refine⟨λe=>⟨vs,q,by rw[e,h.length];exact YAj _⟩,λd e=>?_⟩;obtain⟨v,e1,e2⟩:=h.get e;refine⟨⟨vs,v,q,e1⟩,λx H3 y=>?_⟩;obtain⟨rfl,y⟩:=y
 have:=y vs q
 rw[e1]at this;cases this;exact⟨G2,Stp.refl s2 bx,e2.mono s1⟩
@[reducible] def seqI(A:WE):WL:=λM Q=>A M λd=>seqD d Q
def zbB(hA:DE X c e A)(hK:c.K=X.K:=by rfl):DI X c tg e (seqI A)where
 mono:=λM Q Q' k q=>hA.mono M _ _ (λd z=>zdX k z) q
 pi:=zly (zrI hA.pe) λY H R ⟨M,G,r,q⟩=>⟨M,G,r,hA.mono M _ _ (λd z v H' G' t e=>by
  cases d with
  |lst n xs=>
   obtain⟨l,vs,rfl,hl,_,hv⟩:=e;exact⟨l,rfl,.inl ⟨⟨vs,SqL.of (t.gh _ _ hl)⟩,z _ H' G' t (hK▸zpI hl hv)⟩⟩
  |tup xs=>
   obtain⟨l,vs,rfl,hl,hv⟩:=e;exact⟨l,rfl,.inr ⟨⟨vs,hK▸zaO t.gh hl⟩,z _ H' G' t (hK▸zrj hl hv)⟩⟩
  |_=>exact z.elim) q⟩
def rngL(m:Int)(n:Nat):List D:=(List.range n).map λ(k:Nat)=>D.int (m+(k:Int))
def it_rng(m:Int)(n:Nat):ItOk c (Itr m n) (rngL m n) G:=by
 intro i H2 G2 s1 s2 bx h0;refine⟨λe=>by show n<=i;unfold rngL at e;simp at e;omega,λd e=>?_⟩;unfold rngL at e;rw[YAo]at e;have hi:i<n:=by
  by_cases h:i<n
  .exact h
  .rw[YBQ (by simp;omega)]at e;cases e
 rw[YCG hi]at e;cases e;exact⟨hi,λx H3 ⟨y1,y2⟩=>⟨G2,by rw[y1];exact Stp.refl s2 bx,y2⟩⟩
def zew(A:WE):WL:=λM Q=>A M λd=>match d with|.int n=>(-(2^62)<=n/\n<2^62)/\Q (rngL 0 n.toNat)|_=>False
def zc3(hA:DE X c a A)(hg:Gl X "range":=by rfl)(hs:starEach [a] X.env=[(false,eval a X.env)]:=by rfl)(hm:X.mg "range"=none:=by decreasing_trivial):DI X c tg (.Call (.Name "range" p) [a] [] pos) (zew A)where
 mono:=λM Q Q' k q=>hA.mono M _ _ (λd z=>by cases d<;>first|exact⟨z.1,k _ z.2⟩|exact z) q
 pi:=zly (zfq hg hm (zag hA.pe zav hs) hs) λY H R ⟨M,G,r,q⟩=>⟨M,G,r,hA.mono M _ _ (λd z v H' G' t e=>by
  cases d with
  |int n=>exact⟨n,by cases e;rfl,z.1.1,z.1.2,z.2 _ H' G' t (it_rng 0 _)⟩
  |_=>exact z.elim) q⟩
def zipL:List D->List D->List D
 |x::xs,y::ys=>.tup [x,y]::zipL xs ys
 |_,_=>[]
theorem zkd:∀{xs ys:List D}{i:Nat}{d:D},(zipL xs ys)[i]?=some d->∃x y,xs[i]?=some x/\ys[i]?=some y/\d=.tup [x,y]
 |x::xs,y::ys,0,d,e=>by simp[zipL]at e;exact⟨x,y,rfl,rfl,e.symm⟩
 |x::xs,y::ys,i+1,d,e=>by simp[zipL]at e;simpa using zkd e
 |[],_,_,_,e=>by simp[zipL]at e
 |_::_,[],_,_,e=>by simp[zipL]at e
theorem zj7:∀(xs ys:List D),(zipL xs ys).length=min xs.length ys.length
 |[],_=>by simp[zipL]
 |_::_,[]=>by simp[zipL]
 |x::xs,y::ys=>by simp[zipL,zj7 xs ys]
end
def zbt(t:Tg)(B:WS)(E:En):List D->Env->Prop
 |[],M=>E.nx M
 |x::xs,M=>gD t x M λM'=>B {nx:=zbt t B E xs,ct:=zbt t B E xs,bk:=E.nx,rt:=E.rt} M'
@[reducible] def forW(I:WL)(t:Tg)(B:WS):WS:=λE M=>I M λxs=>zbt t B E xs M
theorem zf5(mB:zlq B)(l:En.Le E E'):∀(xs:List D)(M:Env),zbt t B E xs M->zbt t B E' xs M
 |[],M,q=>l.nx M q
 |x::xs,M,q=>zbo t x M (λM' z=>mB {nx:=zbt t B E xs,ct:=zbt t B E xs,bk:=E.nx,rt:=E.rt} _ M' ⟨zf5 mB l xs,l.rt,l.nx,zf5 mB l xs⟩ z) q
section
variable{X:Cx}{c:Bk}{tg iter e:Expr}{body:List Stmt}{pos p:Pos}
def zcX(t:Tg)(hI:DI X c tg iter I)(hg:PG X tg (gOf c.K t))(hB:DSs X c body B)(hp:PassesOwn (model X.prog X.w) X.A X.env X.xe:=by exact YBt)(hc:X.calm=true:=by rfl)(hs:∀x,foldedSetIterable iter X.env x=pure x:=by intro _;rfl) :
  DS X c (.For tg iter body [] pos) (forW I t B)where
 mono:=λE E' M l q=>hI.mono M _ _ (λxs z=>zf5 hB.mono l xs M z) q
 ps:=zcp (zdR hp hc hI.pi hg hB.pss hs) λD Y H ⟨M,G,r,q⟩=>⟨M,G,r,hI.mono M _ _ (λxs z J H1 G1 t1 it=>by
  refine⟨λi m Y H=>m=xs.length-i/\i<=xs.length/\∃ M' G',Rel c M' Y H G'/\Same G1 G'/\zbt t B (ends c G D) (xs.drop i) M',⟨xs.length,rfl,YAC _,M,G1,r.step t1,Same.refl _,z⟩,?_⟩;rintro i m Y' H' ⟨rfl,hi,M',G',r',s',q'⟩;have ok:=it i H' G' s' r'.gh r'.bx (λa z=>r'.new0 z);by_cases hlt:i<xs.length
  .refine .inr ?_;have ed:xs.drop i=xs[i]::xs.drop (i+1):=YAL hlt;rw[ed]at q';obtain⟨go,yl⟩:=ok.2 xs[i] (YAe hlt);refine⟨go,λY H=>∃ M' G',Rel c M' Y H G'/\Same G1 G'/\zbt t B (ends c G D) (xs.drop (i+1)) M',λY2 H2 h=>⟨xs.length-(i+1),by omega,rfl,by omega,h⟩,λx H3 y=>?_⟩;obtain⟨G3,t3,e3⟩:=yl x H3 y;refine zdD t xs[i] x M' Y' (r'.step t3) e3 (zbo t xs[i] M' (λM2 z2 Y2 r2=>?_) q');refine⟨M2,G3,r2,hB.mono {nx:=zbt t B (ends c G D) (xs.drop (i+1)),ct:=zbt t B (ends c G D) (xs.drop (i+1)),bk:=(ends c G D).nx,rt:=(ends c G D).rt} _ M2 ⟨λM3 z3 Y3 H4 G4 r4 s4=>⟨M3,G4,r4,(s'.trans t3.gg).trans s4,z3⟩,λd z=>z,λM3 z3 Y3 H4 G4 r4 s4=>z3 Y3 H4 G4 r4 (((t1.gg.trans s').trans t3.gg).trans s4),λM3 z3 Y3 H4 G4 r4 s4=>⟨M3,G4,r4,(s'.trans t3.gg).trans s4,z3⟩⟩ z2⟩
  .have e:i=xs.length:=by omega
   subst e;rw[YBR]at q';exact .inl ⟨ok.1 rfl,q' Y' H' G' r' (t1.gg.trans s')⟩) q⟩
def zaM(n:Nat)(ds:List D):Env:=ds.map (λd=>Sl.val d.old)++List.replicate (n-ds.length) .un
def fnW(n:Nat)(B:WS):Fn:=λds Q=>B {nx:=λ_=>Q .non,rt:=Q,bk:=λ_=>False,ct:=λ_=>False} (zaM n ds)
def zkU(gh:Same G H)(bx:BoxD β H G)(h:Reps ⟨K,β,λ_=>none,G⟩ G ds vs):Rel ⟨K,β,H,G⟩ (zaM N.length ds) (L2.start N vs) H G:=by
 have noOwn:∀(i:Nat) xs,(zaM N.length ds)[i]?≠some (.own xs):=λi xs e=>by
  unfold zaM at e;by_cases hi:i<ds.length
  .rw[YBO (by simpa using hi),YAo,YAe hi]at e;cases e
  .rw[YBq (by simpa using hi),YBD]at e;split at e<;>cases e
 refine⟨by unfold zaM L2.start;simp[h.length],Stp.refl gh bx,λi s e=>?_,λi j a xs ys e1=>absurd e1 (noOwn i xs)⟩;unfold zaM at e;by_cases hi:i<ds.length
 .rw[YBO (by simpa using hi),YAo]at e;obtain⟨v,e1,e2⟩:=h.get (YAe hi);rw[YAe hi]at e;cases e;refine⟨v,?_,Rep.hand (c:=⟨K,β,λ_=>none,G⟩) (c':=⟨K,β,H,G⟩) rfl rfl e2⟩;unfold L2.start;rw[YBO (by rw[YAc,<-h.length];exact hi),YAo,e1];rfl
 .rw[YBq (by simpa using hi),YBD]at e;split at e<;>cases e
  trivial
def zbD(F:Fun K x qual st f fd)
  (hB:∀{cdv:Value}{A:Around}{outer:List PySem.Env}{s:Shared}{H:Hp}{E:XK}{β:Addr}{G:Hp},N.Nodup->Room k (A.deeper (PyProof.Rows.envOfC qual (zat st) s.heap.objs.size f cdv)) ->
   DSs (cxOf CX0 P w K mg base N qual (zat st) f cdv A outer s H E).nox ⟨K,β,H,G⟩ (zb6 st) B) (S:FnScope N ps (zat st):=by exact⟨rfl,rfl,rfl,by decide +kernel,rfl,by decide +kernel,by decide +kernel⟩):FnOk P w K mg base CX0 (k+1) f fd ps (spD K ps.length (fnW N.length B)):=by
 refine F.ok S (λvs H Q E ⟨β,G,ds,_,_,_,h,_⟩=>h) (λcdv A outer s H vs Q E hr ⟨β,G,ds,gh,bx,hv,hl,P',q,hP⟩=>?_);have h:=@hB cdv A outer s H E β G S.nd hr;refine⟨_,h.pss,zaM N.length ds,G,zkU gh bx hv,h.mono {nx:=λ_=>P' .non,rt:=P',bk:=λ_=>False,ct:=λ_=>False} _ _ ⟨λM z Y H' G' r s'=>hP _ z .non H' G' r.stp rfl,λd z v H' G' t e=>hP _ z v H' G' t e,λM z=>z.elim,λM z=>z.elim⟩ q⟩
end
section
variable{X:Cx}{c:Bk}{a b:Expr}{A B:WE}{pos p tpos:Pos}{es:List Expr}
def zipI(A B:WE):WL:=λM Q=>A M λx=>B M λy=>match x,y with
 |.lst _ xs,.lst _ ys=>Q (zipL xs ys)
 |.tup xs,.tup ys=>Q (zipL xs ys)
 |_,_=>False
def zoS(hl:SQ tp c.K G l vs)(hm:SQ tp c.K G m ws)(hv:Reps c G xs vs)(hw:Reps c G ys ws):ItOk c (Itz2 tp c.K l m) (zipL xs ys) G:=by
 intro i H2 G2 s1 s2 bx h0;have up:∀{l vs},SQ tp c.K G l vs->SQ tp c.K H2 l vs:=λ{l vs} h=>by
  cases tp
  .exact(s1.trans s2).seq h
  .exact zaO (s1.trans s2) h
 have ql:=up hl;have qm:=up hm;refine⟨λe=>⟨vs,ws,ql,qm,by rw[e,zj7,hv.length,hw.length]⟩,λd e=>?_⟩;obtain⟨x,y,ex,ey,rfl⟩:=zkd e;obtain⟨v,e1,r1⟩:=hv.get ex;obtain⟨w,e2,r2⟩:=hw.get ey;refine⟨⟨vs,ws,v,w,ql,qm,e1,e2⟩,λz H3 yl=>?_⟩;obtain⟨t,x',y',ht,rfl,rfl,f1,f2⟩:=yl;have g1:=f1 vs ql;have g2:=f2 ws qm;rw[e1]at g1;cases g1;rw[e2]at g2;cases g2;have sg:Same G2 (upd G2 t (.tup [v,w])):=zb8 (zar s2 ht);exact⟨_,Stp.new s2 bx ht,t,[v,w],rfl,SqT.of zac,⟨v,[w],rfl,(r1.mono s1).mono sg,w,[],rfl,(r2.mono s1).mono sg,rfl⟩⟩
def zq2(hA:DE X c a A)(hB:DE X c b B)(hg:Gl X "zip":=by rfl)(hs:starEach [a,b] X.env=[(false,eval a X.env),(false,eval b X.env)]:=by rfl)(hs2:starEach [b] X.env=[(false,eval b X.env)]:=by rfl)(hK:c.K=X.K:=by rfl)(hm:X.mg "zip"=none:=by decreasing_trivial) :
  DI X c (.Tuple es x1 tpos) (.Call (.Name "zip" p) [a,b] [] pos) (zipI A B)where
 mono:=λM Q Q' k q=>hA.mono M _ _ (λx z=>hB.mono M _ _ (λy z'=>by cases x<;>cases y<;>first|exact k _ z'|exact z') z) q
 pi:=zly (zo8 hg hm (zag hA.pe (zag hB.pe zav hs2) (by rw[hs,hs2])) hs hs2) λY H R ⟨M,G,r,q⟩=>⟨M,G,r,hA.mono M _ _ (λx z v H1 G1 t1 e1=>⟨M,G1,r.step t1,hB.mono M _ _ (λy z' w H2 G2 t2 e2=>by
  have e1':=e1.mono t2.gg;cases x with
  |lst n xs=>cases y with
   |lst m ys=>
    obtain⟨l,vs,rfl,hl,_,hv⟩:=e1';obtain⟨k,ws,rfl,hk,_,hw⟩:=e2;exact⟨false,l,k,vs,ws,rfl,SqL.of (t2.gh _ _ hl),SqL.of (t2.gh _ _ hk),z' _ H2 G2 (t1.trans t2) (hK▸zoS (tp:=false) (SqL.of hl) (SqL.of hk) hv hw)⟩
   |_=>exact z'.elim
  |tup xs=>cases y with
   |tup ys=>
    obtain⟨l,vs,rfl,hl,hv⟩:=e1';obtain⟨k,ws,rfl,hk,hw⟩:=e2;exact⟨true,l,k,vs,ws,rfl,hK▸zaO t2.gh hl,hK▸zaO t2.gh hk,z' _ H2 G2 (t1.trans t2) (hK▸zoS (tp:=true) hl hk hv hw)⟩
   |_=>exact z'.elim
  |_=>exact z'.elim) z⟩) q⟩
end
def subE(sub:List (Option Nat))(M:Env):Env:=sub.map λo=>match o with
 |some j=>(match M[j]? with|some (.val d)=>.val d|_=>.un)
 |none=>.un
def zhR(sub:List (Option Nat))(r:Rel c M Y H G):Rel c (subE sub M) (zbe sub Y) H G:=by
 have noOwn:∀(i:Nat) xs,(subE sub M)[i]?≠some (.own xs):=λi xs e=>by
  unfold subE at e;rw[YAo]at e;cases h:sub[i]? with
  |none=>rw[h]at e;cases e
  |some o=>
   rw[h]at e;cases o with
   |none=>cases e
   |some j=>
    simp only[YD4,YDG]at e;split at e<;>cases e
 refine⟨by unfold subE zbe;simp,r.stp,λi s e=>?_,λi j a xs ys e1=>absurd e1 (noOwn i xs)⟩;unfold subE at e;rw[YAo]at e;cases h:sub[i]? with
 |none=>rw[h]at e;cases e
 |some o=>
  rw[h]at e;cases o with
  |none=>cases e;trivial
  |some j=>
   simp only[YD4,YDG]at e;split at e
   .rename_i d hd
    subst e;obtain⟨v,h1,h2⟩:=r.slot j _ hd;refine⟨v,?_,h2⟩;unfold zbe;rw[YAo,h];show some ((Y[j]?).join)=_;rw[h1];rfl
   .subst e;trivial
mutual
def okT(sub:List (Option Nat)):Tg->Bool
 |.nm i=>decide (sub[i]?=some none)
 |.tp _ ts=>okTs sub ts
def okTs(sub:List (Option Nat)):Tgs->Bool
 |.nil=>true
 |.cons t ts=>okT sub t&&okTs sub ts
end
mutual
theorem zgZ(K:qg):∀t:Tg,zeF (gOf K t)
 |.nm i=>by unfold gOf;exact zbg
 |.tp n ts=>by unfold gOf;exact zqY (zkq K ts)
theorem zkq(K:qg):∀t:Tgs,zfH (gsOf K t)
 |.nil=>by unfold gsOf;exact zeJ
 |.cons t ts=>by unfold gsOf;exact zbH (zgZ K t) (zkq K ts)
end
mutual
theorem zmW(K:qg)(sub:List (Option Nat)):∀t:Tg,okT sub t=true->ze3 sub (gOf K t)
 |.nm i,h=>by unfold gOf;unfold okT at h;exact zdy (YA7 h)
 |.tp n ts,h=>by unfold gOf;unfold okT at h;exact zqj (zoW K sub ts h)
theorem zoW(K:qg)(sub:List (Option Nat)):∀t:Tgs,okTs sub t=true->zgt sub (gsOf K t)
 |.nil,_=>by unfold gsOf;exact zmO
 |.cons t ts,h=>by
  unfold gsOf;unfold okTs at h;have h':=(YAJ _ _▸h:okT sub t=true/\okTs sub ts=true);exact zdK (zmW K sub t h'.1) (zgZ K t) (zoW K sub ts h'.2) (zkq K ts)
end
def zbw(t:Tg)(C:WT)(E:WE)(Mc:Env)(Q:List D->Prop):List D->List D->Prop
 |[],acc=>Q acc
 |x::xs,acc=>gD t x Mc λM2=>C M2 λb=>if b=true then E M2 λd=>zbw t C E Mc Q xs (acc++[d])else zbw t C E Mc Q xs acc
theorem zdl(mC:zdF C)(mE:zbZ E)(k:∀xs,Q xs->Q' xs):∀xs acc,zbw t C E Mc Q xs acc->zbw t C E Mc Q' xs acc
 |[],acc,q=>k _ q
 |x::xs,acc,q=>zbo t x Mc (λM2 z=>mC M2 _ _ (λb z=>by
  cases b
  .exact zdl mC mE k xs acc z
  .exact mE M2 _ _ (λd z=>zdl mC mE k xs _ z) z) z) q
@[reducible] def zaQ(sub:List (Option Nat))(I:WL)(t:Tg)(C:WT)(E:WE):WL:=λM Q=>I M λxs=>xs.length<=100000/\zbw t C E (subE sub M) Q xs []
def zgA(mI:zdd I)(mC:zdF C)(mE:zbZ E):zdd (zaQ sub I t C E):=λM Q Q' k q=>mI M _ _ (λxs z=>⟨z.1,zdl mC mE k xs [] z.2⟩) q
def Stp.wr(s:Stp β H G H' G')(h0:H l=none)(hg:G' l=none)(hb:l≠β):Stp β H G (upd H' l o) G':=
 ⟨s.gg,λa u e=>by rw[zaf (λz=>by rw[z,hg]at e;cases e)];exact s.gh a u e,λa u n e=>by rw[zaf (λz=>by rw[z,h0]at e;cases e)];exact s.fr a u n e,s.nw,
 ⟨by obtain⟨cc,p,r,d,ns,h,q⟩:=s.bx.ex;exact⟨cc,p,r,d,ns,by rw[zaf (Ne.symm hb)];exact h,q⟩,s.bx.still⟩,s.b0,λcc p r d h=>by
  obtain⟨p',r',d',e⟩:=s.bc cc p r d h;exact⟨p',r',d',by rw[zaf (Ne.symm hb)];exact e⟩⟩
def Stp.still_none(s:Stp β H G H' G')(h:H l=some o)(hg:G l=none)(hs:¬ zkB o:=by exact id):G' l=none:=by
 cases e:G' l with
 |none=>rfl
 |some u=>
  rcases s.nw l (by rw[e];simp)with z|z|⟨o',z,st⟩
  .exact absurd hg z
  .rw[h]at z;cases z
  .rw[h]at z;cases z;exact absurd st hs
def zh6(mI:zdd I)(mC:zdF C)(mE:zbZ E)(Y:St)(H:Hp)(Q:VK)(h:tDf c (zaQ sub I t C E) Y H Q) :
  zmU sub (tDI c I) (gOf c.K t) (tDt c C) (tD c E) Y H Q:=by
 obtain⟨M,G,r,q⟩:=h;refine⟨M,G,r,mI M _ _ (λxs ⟨hz,z⟩ J H1 G1 t1 it l hl=>?_) q⟩;have hb:l≠c.β:=(r.step t1).neβ hl;have hg1:G1 l=none:=zar t1.gh hl;refine⟨λi m ys H2=>m=xs.length-i/\i<=xs.length/\ys.length<=i/\H2 l=some (.lst ys)/\∃G2 acc,Stp c.β H1 G1 H2 G2/\G2 l=none/\Reps c G2 acc ys /\
  zbw t C E (subE sub M) (λds=>∀l vs H' G',Stp c.β H G H' G'->H' l=some (.lst vs)->G' l=none->H l=none->Reps c G' ds vs->Q (.ref l) H') (xs.drop i) acc,
  ⟨xs.length,rfl,YAC _,YAj _,zac,G1,[],Stp.own t1.gh t1.bx hl,hg1,rfl,z⟩,?_⟩
 rintro i m ys H2 ⟨rfl,hi,hyl,h2,G2,acc,t2,hg2,hv,q2⟩;refine⟨h2,?_⟩;have r2:=(r.step t1).step t2;have ok:=it i H2 G2 t2.gg t2.gh t2.bx (λa z=>r2.new0 z);by_cases hlt:i<xs.length
 .refine .inr ?_;rw[YAL hlt]at q2;obtain⟨go,yl⟩:=ok.2 xs[i] (YAe hlt);refine⟨go,λys' H3=>ys'.length<=i+1/\H3 l=some (.lst ys')/\∃G3 acc',Stp c.β H1 G1 H3 G3/\G3 l=none/\Reps c G3 acc' ys'/\zbw t C E (subE sub M) (λds=>∀l vs H' G',Stp c.β H G H' G'->H' l=some (.lst vs)->G' l=none->H l=none->Reps c G' ds vs->Q (.ref l) H') (xs.drop (i+1)) acc',
   λys' H3 ⟨a1,a2,a3⟩=>⟨xs.length-(i+1),by omega,rfl,by omega,a1,a2,a3⟩,λx H3 y=>?_⟩
  obtain⟨G3,t3,e3⟩:=yl x H3 y;have h3:H3 l=some (.lst ys):=t3.fr l _ hb h2;have hg3:G3 l=none:=t3.still_none h2 hg2;have t13:=t2.trans t3;refine zdD t xs[i] x (subE sub M) (zbe sub Y) (zhR sub ((r.step t1).step t13)) e3 (zbo t xs[i] _ (λM2 z2 Y2 rr=>?_) q2);refine⟨M2,G3,rr,mC M2 _ _ (λb z3 H4 G4 t4=>?_) z2⟩;have h4:H4 l=some (.lst ys):=t4.fr l _ hb h3;have hg4:G4 l=none:=t4.still_none h3 hg3;have t14:=t13.trans t4;cases b
  .exact⟨Nat.le_succ_of_le hyl,h4,G4,acc,t14,hg4,(hv.mono t3.gg).mono t4.gg,z3⟩
  .refine⟨M2,G4,rr.step t4,mE M2 _ _ (λd z4 y H5 G5 t5 e5=>?_) z3⟩;have h5:H5 l=some (.lst ys):=t5.fr l _ hb h4;have hg5:G5 l=none:=t5.still_none h4 hg4;refine⟨h5,?_,by rw[YAq];exact YC3 hyl 1,zac,G5,acc++[d],(t14.trans t5).wr hl hg5 hb,hg5,(((hv.mono t3.gg).mono t4.gg).mono t5.gg).append (.one e5),z4⟩
   have:=small5 (YAj 100000)
   omega
 .have e:i=xs.length:=by omega
  subst e;rw[YBR]at q2;exact .inl ⟨ok.1 rfl,q2 l ys H2 G2 (t1.trans t2) h2 hg2 (t1.free hl) hv⟩
structure DIf(X:Cx)(c:Bk)(ifs:List Expr)(C:WT):Prop where
 mono:zdF C
 pf:PIfs X ifs (tDt c C)
@[reducible] def noIf:WT:=λ_ Q=>Q true
section
variable{X:Cx}{c:Bk}{tg iter elt e:Expr}{ifs:List Expr}{scope:Scope}{pos p spos:Pos}{Nc:List Str}{sub:List (Option Nat)}{I:WL}{C:WT}{E:WE}
def za7:DIf X c [] noIf:=⟨λM Q Q' k q=>k _ q,λO s Y H Q I ⟨M,G,r,q⟩=>pif0 O s Y H Q I (q H G r.refl)⟩
def zkr(h:DT X c e C):DIf X c [e] C:=⟨h.mono,pif1 h.pt⟩
def zba(t:Tg)(hI:DI X c tg iter I)(hg:∀{cl L s0 H0 ex},PG (zaq X Nc scope cl L s0 H0 ex) tg (gOf c.K t))(hC:∀{cl L s0 H0 ex},DIf (zaq X Nc scope cl L s0 H0 ex) c ifs C)(hE:∀{cl L s0 H0 ex},DE (zaq X Nc scope cl L s0 H0 ex) c elt E)
  (hS:zgU X.N X.env.scope scope Nc sub=true:=by kernel_rfl) (hok:okT sub t=true:=by decide +kernel) (hc:X.calm=true:=by rfl) (hs:∀x,foldedSetIterable iter X.env x=pure x:=by intro _;rfl) :
  DF X c (.ListComp elt [⟨tg,iter,ifs,0⟩] scope pos) (zaQ sub I t C E):=
 have mC:=(@hC [] 0 X.s₀ (λ_=>none) []).mono;have mE:=(@hE [] 0 X.s₀ (λ_=>none) []).mono
 ⟨zgA hI.mono mC mE,zaN (zhj hc (CompScope.of hS) hI.pi (λcl L s0 H0 ex=>@hg cl L s0 H0 ex) (zmW c.K sub t hok) (zgZ c.K t) (λcl L s0 H0 ex=>(@hC cl L s0 H0 ex).pf) (λcl L s0 H0 ex=>(@hE cl L s0 H0 ex).pe) hs) (zh6 hI.mono mC mE)⟩
def zm8(i:Nat)(t:Tg)(hI:DI X c tg iter I)(hg:∀{cl L s0 H0 ex},PG (zaq X Nc scope cl L s0 H0 ex) tg (gOf c.K t))(hC:∀{cl L s0 H0 ex},DIf (zaq X Nc scope cl L s0 H0 ex) c ifs C)(hE:∀{cl L s0 H0 ex},DE (zaq X Nc scope cl L s0 H0 ex) c elt E)(hi:X.N[i]?=some x:=by rfl)(hy:X.env.scope.names.lookup x=some .local:=by rfl)(hS:zgU X.N X.env.scope scope Nc sub=true:=by kernel_rfl)(hok:okT sub t=true:=by decide +kernel)(hc:X.calm=true:=by rfl)(hsw:swapsWith (.ListComp elt [⟨tg,iter,ifs,0⟩] scope pos) (some (.Name x p)) spos.line X.env=pure true:=by rfl)(hs:∀x,foldedSetIterable iter X.env x=pure x:=by intro _;rfl)(hN:X.N.Nodup:=by decreasing_trivial) :
  DS X c (.Assign [.Name x p] (.ListComp elt [⟨tg,iter,ifs,0⟩] scope pos) spos) (asgW (.nm i) (valW (zaQ sub I t C E))):=by
 have mC:=(@hC [] 0 X.s₀ (λ_=>none) []).mono;have mE:=(@hE [] 0 X.s₀ (λ_=>none) []).mono;have mL:=zgA (sub:=sub) (t:=t) hI.mono mC mE;have mV:zbZ (valW (zaQ sub I t C E)):=λM Q Q' k q=>mL M _ _ (λxs z=>k _ z) q;refine⟨ze7 mV,zcp (znc hc hN hi hy (CompScope.of hS) hI.pi (λcl L s0 H0 ex=>@hg cl L s0 H0 ex) (zmW c.K sub t hok) (zgZ c.K t) (λcl L s0 H0 ex=>(@hC cl L s0 H0 ex).pf) (λcl L s0 H0 ex=>(@hE cl L s0 H0 ex).pe) hsw hs) λD Y H ⟨M,G,r,q⟩=>?_⟩;refine zh6 hI.mono mC mE Y H _ ⟨M,G,r,mL M _ _ (λxs z l vs H' G' t hl hg h0 hv=>?_) q⟩;have hb:=r.neβ h0;exact z (Y.set i (some (.ref l))) H' (upd G' l (.lst vs)) ((r.step (t.still hl h0 hb hg)).put ⟨l,vs,rfl,zac,λ_=>r.new0 h0,hv.mono (zb8 hg)⟩) (t.gg.trans (zb8 hg))
def zcZ(t:Tg)(C:WT)(E:WE)(Mc:Env)(Q:List Int->Prop):List D->List Int->Prop
 |[],acc=>Q acc
 |x::xs,acc=>gD t x Mc λM2=>C M2 λb=>if b=true then E M2 λd=>intD d λk=>zcZ t C E Mc Q xs (k::acc)else zcZ t C E Mc Q xs acc
theorem zdB(mC:zdF C)(mE:zbZ E)(k:∀xs,Q xs->Q' xs):∀xs acc,zcZ t C E Mc Q xs acc->zcZ t C E Mc Q' xs acc
 |[],acc,q=>k _ q
 |x::xs,acc,q=>zbo t x Mc (λM2 z=>mC M2 _ _ (λb z=>by
  cases b
  .exact zdB mC mE k xs acc z
  .exact mE M2 _ _ (λd z=>ziV (λm z=>zdB mC mE k xs _ z) z) z) z) q
@[reducible] def zjC(sub:List (Option Nat))(I:WL)(t:Tg)(C:WT)(E:WE):WL:=λM Q=>I M λxs=>xs.length<64/\zcZ t C E (subE sub M) (λns=>Q ((zbP ns).map D.int)) xs []
def zjB(mI:zdd I)(mC:zdF C)(mE:zbZ E):zdd (zjC sub I t C E):=λM Q Q' k q=>mI M _ _ (λxs z=>⟨z.1,zdB mC mE (λns z=>k _ z) xs [] z.2⟩) q
def zoj(t:Tg)(hI:DI X c tg iter I)(hg:∀{cl L s0 H0 ex},PG (zaq X Nc scope cl L s0 H0 ex) tg (gOf c.K t))(hC:∀{cl L s0 H0 ex},DIf (zaq X Nc scope cl L s0 H0 ex) c ifs C)(hE:∀{cl L s0 H0 ex},DE (zaq X Nc scope cl L s0 H0 ex) c elt E)(hS:zgU X.N X.env.scope scope Nc sub=true:=by kernel_rfl)(hok:okT sub t=true:=by decide +kernel)(hc:X.calm=true:=by rfl)(hs:∀x,foldedSetIterable iter X.env x=pure x:=by intro _;rfl)(hgl:Gl X "sorted":=by rfl)(hm:X.mg "sorted"=none:=by decreasing_trivial) :
  DF X c (.Call (.Name "sorted" p) [.SetComp elt [⟨tg,iter,ifs,0⟩] scope pos] [] spos) (zjC sub I t C E):=by
 have mC:=(@hC [] 0 X.s₀ (λ_=>none) []).mono;have mE:=(@hE [] 0 X.s₀ (λ_=>none) []).mono;refine⟨zjB hI.mono mC mE,zaN (zbF (zdh hc) hgl hm YCg (zag (znP hc (CompScope.of hS) hI.pi (λcl L s0 H0 ex=>@hg cl L s0 H0 ex) (zmW c.K sub t hok) (zgZ c.K t) (λcl L s0 H0 ex=>(@hC cl L s0 H0 ex).pf) (λcl L s0 H0 ex=>(@hE cl L s0 H0 ex).pe) hs) zav) (by decide) (by decide) rfl rfl) λY H Q ⟨M,G,r,q⟩=>?_⟩;refine⟨M,G,r,hI.mono M _ _ (λxs ⟨hz,z⟩ J H1 G1 t1 it l hl=>?_) q⟩;have hsc:=zmQ;have hb:l≠c.β:=(r.step t1).neβ hl;have hg1:G1 l=none:=zar t1.gh hl;refine⟨λi m ys H2=>m=xs.length-i/\i<=xs.length/\ys.length<=i/\H2 l=some (SetO X.w l ys)/\∃G2,Stp c.β H1 G1 H2 G2/\G2 l=none /\
  zcZ t C E (subE sub M) (λns=>∀l vs H' G',Stp c.β H G H' G'->H' l=some (.lst vs)->G' l=none->H l=none->Reps c G' ((zbP ns).map D.int) vs->Q (.ref l) H') (xs.drop i) ys,
  ⟨xs.length,rfl,YAC _,YAj _,zac,G1,Stp.own t1.gh t1.bx hl,hg1,z⟩,?_⟩
 rintro i m ys H2 ⟨rfl,hi,hyl,h2,G2,t2,hg2,q2⟩;refine⟨h2,?_⟩;have r2:=(r.step t1).step t2;have ok:=it i H2 G2 t2.gg t2.gh t2.bx (λa z=>r2.new0 z);by_cases hlt:i<xs.length
 .refine .inr ?_;rw[YAL hlt]at q2;obtain⟨go,yl⟩:=ok.2 xs[i] (YAe hlt);refine⟨go,λys' H3=>ys'.length<=i+1/\H3 l=some (SetO X.w l ys')/\∃G3,Stp c.β H1 G1 H3 G3/\G3 l=none/\zcZ t C E (subE sub M) (λns=>∀l vs H' G',Stp c.β H G H' G'->H' l=some (.lst vs)->G' l=none->H l=none->Reps c G' ((zbP ns).map D.int) vs->Q (.ref l) H') (xs.drop (i+1)) ys',
   λys' H3 ⟨a1,a2,a3⟩=>⟨xs.length-(i+1),by omega,rfl,by omega,a1,a2,a3⟩,λx H3 y=>?_⟩
  obtain⟨G3,t3,e3⟩:=yl x H3 y;have h3:H3 l=some (SetO X.w l ys):=t3.fr l _ hb h2;have hg3:G3 l=none:=t3.still_none h2 hg2;have t13:=t2.trans t3;refine zdD t xs[i] x (subE sub M) (zbe sub Y) (zhR sub ((r.step t1).step t13)) e3 (zbo t xs[i] _ (λM2 z2 Y2 rr=>?_) q2);refine⟨M2,G3,rr,mC M2 _ _ (λb z3 H4 G4 t4=>?_) z2⟩;have h4:H4 l=some (SetO X.w l ys):=t4.fr l _ hb h3;have hg4:G4 l=none:=t4.still_none h3 hg3;have t14:=t13.trans t4;cases b
  .exact⟨Nat.le_succ_of_le hyl,h4,G4,t14,hg4,z3⟩
  .refine⟨M2,G4,rr.step t4,mE M2 _ _ (λd z4 y H5 G5 t5 e5=>?_) z3⟩;have h5:H5 l=some (SetO X.w l ys):=t5.fr l _ hb h4;have hg5:G5 l=none:=t5.still_none h4 hg4;cases d with
   |int k=>exact⟨k,e5,h5,by omega,YC3 hyl 1,zac,G5,(t14.trans t5).wr hl hg5 hb,hg5,z4⟩
   |_=>exact z4.elim
 .have e:i=xs.length:=by omega
  subst e;rw[YBR]at q2;refine .inl ⟨ok.1 rfl,l,ys,rfl,h2,by omega,λl3 ms hl3 up mem=>?_⟩;rw[zqf up mem];have t3:=t1.trans t2;exact q2 l3 _ _ G2 (t3.trans (Stp.own t2.gh t2.bx hl3)) zac (zar t2.gh hl3) (t3.free hl3) (reps_ints.mpr rfl)
end
def NoOwn(M:Env):Prop:=∀(i:Nat) xs,M[i]?≠some (.own xs)
theorem NoOwn.set(h:NoOwn M)(i:Nat)(d:D):NoOwn (M.set i (.val d)):=λj xs e=>by
 by_cases z:i=j
 .subst z;by_cases hl:i<M.length
  .rw[YAI hl]at e;cases e
  .rw[YBQ (by simpa using hl)]at e;cases e
 .rw[YAD z]at e;exact h j xs e
mutual
theorem zjY:∀(t:Tg)(d:D)(M:Env){Q:Env->Prop},NoOwn M->gD t d M Q->gD t d M λM'=>Q M'/\NoOwn M'
 |.nm i,d,M,Q,k,q=>by unfold gD at q ⊢;exact⟨q,k.set i d⟩
 |.tp n ts,.tup ds,M,Q,k,q=>by unfold gD at q ⊢;exact⟨q.1,zfJ ts ds M k q.2⟩
 |.tp _ _,.non,_,_,_,q=>by unfold gD at q;exact q.elim
 |.tp _ _,.bl _,_,_,_,q=>by unfold gD at q;exact q.elim
 |.tp _ _,.int _,_,_,_,q=>by unfold gD at q;exact q.elim
 |.tp _ _,.str _,_,_,_,q=>by unfold gD at q;exact q.elim
 |.tp n ts,.lst _ ds,M,Q,k,q=>by unfold gD at q ⊢;exact⟨q.1,zfJ ts ds M k q.2⟩
 |.tp _ _,.box,_,_,_,q=>by unfold gD at q;exact q.elim
theorem zfJ:∀(ts:Tgs)(ds:List D)(M:Env){Q:Env->Prop},NoOwn M->gDs ts ds M Q->gDs ts ds M λM'=>Q M'/\NoOwn M'
 |.nil,[],M,Q,k,q=>by unfold gDs at q ⊢;exact⟨q,k⟩
 |.cons t ts,d::ds,M,Q,k,q=>by
  unfold gDs at q ⊢;exact zbo t d M (λM' z=>zfJ ts ds M' z.2 z.1) (zjY t d M k q)
 |.nil,_::_,_,_,_,q=>by unfold gDs at q;exact q.elim
 |.cons _ _,[],_,_,_,q=>by unfold gDs at q;exact q.elim
end
def zkK(sub:List (Option Nat))(M:Env):NoOwn (subE sub M):=λi xs e=>by
 unfold subE at e;rw[YAo]at e;cases h:sub[i]? with
 |none=>rw[h]at e;cases e
 |some o=>
  rw[h]at e;cases o with
  |none=>cases e
  |some j=>
   simp only[YD4,YDG]at e;split at e<;>cases e
def Rel.move(r:Rel c M Y H G)(no:NoOwn M)(gg:Same G G')(t:Stp c.β c.H0 c.G0 H' G'):Rel c M Y H' G':=
 ⟨r.len,t,λi s e=>by
  cases s with
  |un=>trivial
  |val d=>obtain⟨v,h1,h2⟩:=r.slot i _ e;exact⟨v,h1,h2.mono gg⟩
  |own xs=>exact absurd e (no i xs),λi j a xs ys e=>absurd e (no i xs)⟩
mutual
def slT:Tg->List Nat
 |.nm i=>[i]
 |.tp _ ts=>slTs ts
def slTs:Tgs->List Nat
 |.nil=>[]
 |.cons t ts=>slT t++slTs ts
end
mutual
theorem zp2(K:qg):∀(t:Tg)(v:V)(Y:St)(H:Hp)(Q:St->Hp->Prop),gOf K t v Y H Q->gOf K t v Y H λY2 H2=>Q Y2 H2/\∀i:Nat,i∉slT t->Y2[i]?=Y[i]?
 |.nm i,v,Y,H,Q,q=>by
  unfold gOf at q ⊢;refine⟨q,λj hj=>?_⟩;unfold slT at hj;rw[YAD (λz=>hj (by simp[z]))]
 |.tp n ts,v,Y,H,Q,q=>by
  unfold gOf at q ⊢;obtain⟨a,xs,e,s,l,q⟩:=q;exact⟨a,xs,e,s,l,by unfold slT;exact zo1 K ts xs Y H Q q⟩
theorem zo1(K:qg):∀(t:Tgs)(v:List V)(Y:St)(H:Hp)(Q:St->Hp->Prop),gsOf K t v Y H Q->gsOf K t v Y H λY2 H2=>Q Y2 H2/\∀i:Nat,i∉slTs t->Y2[i]?=Y[i]?
 |.nil,v,Y,H,Q,q=>by
  unfold gsOf at q ⊢;exact⟨q.1,q.2,λ_ _=>rfl⟩
 |.cons t ts,v,Y,H,Q,q=>by
  unfold gsOf at q ⊢;obtain⟨x,r,e,q⟩:=q;refine⟨x,r,e,zgZ K t _ _ _ _ _ (λY2 H2 z=>?_) (zp2 K t _ _ _ _ q)⟩;refine zkq K ts _ _ _ _ _ (λY3 H3 y=>⟨y.1,λi hi=>?_⟩) (zo1 K ts _ _ _ _ z.1);unfold slTs at hi;rw[y.2 i (λh=>hi (YAl _ h)),z.2 i (λh=>hi (YAx _ h))]
end
def zoE(sub:List (Option Nat))(t t2:Tg):Bool:=(slT t2).all λi=>decide (sub[i]?=some none) && !(slT t).contains i
def zn7(h:zoE sub t t2=true):zpw sub (gOf K t) (gOf K t2):=λv Y H Q q=>by
 refine zgZ K t _ _ _ _ _ (λY2 H2 z=>⟨z.1,λY' _ u H' Q' q'=>?_⟩) (zp2 K t _ _ _ _ q);refine zgZ K t2 _ _ _ _ _ (λY3 H3 y=>⟨y.1,λi v e=>?_⟩) (zp2 K t2 _ _ _ _ q');by_cases hi:i∈slT t2
 .have:=YCl.mp h i hi
  rw[YAJ]at this;obtain⟨h1,h2⟩:=this;have h1:=YA7 h1;have h2:i∉slT t:=by simpa using h2
  rw[z.2 i h2]at e;obtain⟨j,e1,_⟩:=zc4 e;rw[h1]at e1;cases e1
 .rw[y.2 i hi];exact e
def zdg(t:Tg)(I2:WL)(t2:Tg)(C:WT)(E:WE)(Mc:Env)(Q:List D->Prop):List D->List D->Prop
 |[],acc=>Q acc
 |x::xs,acc=>gD t x Mc λM2=>I2 M2 λys=>acc.length+ys.length<=100000/\zbw t2 C E M2 (λacc'=>zdg t I2 t2 C E Mc Q xs acc') ys acc
theorem zfQ(mI:zdd I2)(mC:zdF C)(mE:zbZ E)(k:∀xs,Q xs->Q' xs):∀xs acc,zdg t I2 t2 C E Mc Q xs acc->zdg t I2 t2 C E Mc Q' xs acc
 |[],acc,q=>k _ q
 |x::xs,acc,q=>zbo t x Mc (λM2 z=>mI M2 _ _ (λys z=>⟨z.1,zdl mC mE (λacc' z=>zfQ mI mC mE k xs acc' z) ys acc z.2⟩) z) q
@[reducible] def zfj(sub:List (Option Nat))(I:WL)(t:Tg)(I2:WL)(t2:Tg)(C:WT)(E:WE):WL:=λM Q=>I M λxs=>zdg t I2 t2 C E (subE sub M) Q xs []
def zjt(mI:zdd I)(mI2:zdd I2)(mC:zdF C)(mE:zbZ E):zdd (zfj sub I t I2 t2 C E):=λM Q Q' k q=>mI M _ _ (λxs z=>zfQ mI2 mC mE k xs [] z) q
def zk9(mI:zdd I)(mI2:zdd I2)(mC:zdF C)(mE:zbZ E)(Y:St)(H:Hp)(Q:VK)(h:tDf c (zfj sub I t I2 t2 C E) Y H Q) :
  zmG sub (tDI c I) (gOf c.K t) (tDI c I2) (gOf c.K t2) (tDt c C) (tD c E) Y H Q:=by
 obtain⟨M,G,r,q⟩:=h;refine⟨M,G,r,mI M _ _ (λxs z J H1 G1 t1 it l hl=>?_) q⟩;have hb:l≠c.β:=(r.step t1).neβ hl;have hg1:G1 l=none:=zar t1.gh hl;have r1:=r.step t1;generalize hQQ:(λds:List D=>∀l vs H' G',Stp c.β H G H' G'->H' l=some (.lst vs)->G' l=none->H l=none->Reps c G' ds vs->Q (.ref l) H')=QQ at z;refine⟨λi m ys H2=>m=xs.length-i/\i<=xs.length/\H2 l=some (.lst ys)/\∃G2 acc,Stp c.β H1 G1 H2 G2/\G2 l=none/\Reps c G2 acc ys/\zdg t I2 t2 C E (subE sub M) QQ (xs.drop i) acc,
  ⟨xs.length,rfl,YAC _,zac,G1,[],Stp.own t1.gh t1.bx hl,hg1,rfl,z⟩,?_⟩
 rintro i m ys H2 ⟨rfl,hi,h2,G2,acc,s2,hg2,hv,q2⟩;refine⟨h2,?_⟩;have r2:=r1.step s2;have ok:=it i H2 G2 s2.gg s2.gh s2.bx (λa z=>r2.new0 z);by_cases hlt:i<xs.length
 .refine .inr ?_;rw[YAL hlt]at q2;obtain⟨go,yl⟩:=ok.2 xs[i] (YAe hlt);refine⟨go,λys' H3=>H3 l=some (.lst ys')/\∃G3 acc',Stp c.β H1 G1 H3 G3/\G3 l=none/\Reps c G3 acc' ys'/\zdg t I2 t2 C E (subE sub M) QQ (xs.drop (i+1)) acc',
   λys' H3 ⟨a2,a3⟩=>⟨xs.length-(i+1),by omega,rfl,by omega,a2,a3⟩,λx H3 y=>?_⟩
  obtain⟨G3,t3,e3⟩:=yl x H3 y;have h3:H3 l=some (.lst ys):=t3.fr l _ hb h2;have hg3:G3 l=none:=t3.still_none h2 hg2;have t13:=s2.trans t3;refine zdD t xs[i] x (subE sub M) (zbe sub Y) (zhR sub (r1.step t13)) e3 (zbo t xs[i] _ (λM2 z2 Y2 rr=>?_) (zjY t xs[i] _ (zkK sub M) q2));obtain⟨z2,no2⟩:=z2;refine⟨M2,G3,rr,mI2 M2 _ _ (λzs ⟨hz,z3⟩ J2 H4 G4 t4 it2=>?_) z2⟩;have h4:H4 l=some (.lst ys):=t4.fr l _ hb h3;have hg4:G4 l=none:=t4.still_none h3 hg3;have t14:=t13.trans t4;have hv4:=(hv.mono t3.gg).mono t4.gg;refine⟨λj m ys' H5=>m=zs.length-j/\j<=zs.length/\ys'.length<=ys.length+j/\H5 l=some (.lst ys')/\∃G5 acc',Stp c.β H1 G1 H5 G5/\Same G4 G5/\G5 l=none/\Reps c G5 acc' ys'/\zbw t2 C E M2 (λacc'=>zdg t I2 t2 C E (subE sub M) QQ (xs.drop (i+1)) acc') (zs.drop j) acc',
   ⟨zs.length,rfl,YAC _,YAj _,h4,G4,acc,t14,Same.refl _,hg4,hv4,z3⟩,?_⟩
  rintro j m ys' H5 ⟨rfl,hj,hyl,h5,G5,acc',t15,gg5,hg5,hv5,q5⟩;refine⟨h5,?_⟩;have r5:=r1.step t15;have ok2:=it2 j H5 G5 gg5 t15.gh t15.bx (λa z=>r5.new0 z);have rr5:Rel c M2 Y2 H5 G5:=rr.move no2 (t4.gg.trans gg5) r5.stp;by_cases hlt2:j<zs.length
  .refine .inr ?_;rw[YAL hlt2]at q5;obtain⟨go2,yl2⟩:=ok2.2 zs[j] (YAe hlt2);refine⟨go2,λws H6=>ws.length<=ys.length+(j+1)/\H6 l=some (.lst ws)/\∃G6 acc2,Stp c.β H1 G1 H6 G6/\Same G4 G6/\G6 l=none/\Reps c G6 acc2 ws/\zbw t2 C E M2 (λacc'=>zdg t I2 t2 C E (subE sub M) QQ (xs.drop (i+1)) acc') (zs.drop (j+1)) acc2,
    λws H6 ⟨a1,a2,a3⟩=>⟨zs.length-(j+1),by omega,rfl,by omega,a1,a2,a3⟩,λx6 H6 y6=>?_⟩
   obtain⟨G6,t6,e6⟩:=yl2 x6 H6 y6;have h6:H6 l=some (.lst ys'):=t6.fr l _ hb h5;have hg6:G6 l=none:=t6.still_none h5 hg5;have t16:=t15.trans t6;refine zdD t2 zs[j] x6 M2 Y2 (rr5.step t6) e6 (zbo t2 zs[j] _ (λM3 z6 Y3 rr3=>?_) q5);refine⟨M3,G6,rr3,mC M3 _ _ (λb z7 H7 G7 t7=>?_) z6⟩;have h7:H7 l=some (.lst ys'):=t7.fr l _ hb h6;have hg7:G7 l=none:=t7.still_none h6 hg6;have t17:=t16.trans t7;have hv7:=(hv5.mono t6.gg).mono t7.gg;have gg7:=(gg5.trans t6.gg).trans t7.gg;cases b
   .exact⟨by omega,h7,G7,acc',t17,gg7,hg7,hv7,z7⟩
   .refine⟨M3,G7,rr3.step t7,mE M3 _ _ (λd z8 y8 H8 G8 t8 e8=>?_) z7⟩;have h8:H8 l=some (.lst ys'):=t8.fr l _ hb h7;have hg8:G8 l=none:=t8.still_none h7 hg7;refine⟨h8,?_,by rw[YAq];simp;omega,zac,G8,acc'++[d],(t17.trans t8).wr hl hg8 hb,gg7.trans t8.gg,hg8,(hv7.mono t8.gg).append (.one e8),z8⟩
    have:=small5 (YAj 100000)
    have hal:=hv.length;omega
  .have e:j=zs.length:=by omega
   subst e;rw[YBR]at q5;exact .inl ⟨ok2.1 rfl,h5,G5,acc',t15,hg5,hv5,q5⟩
 .have e:i=xs.length:=by omega
  subst e;rw[YBR]at q2;refine .inl ⟨ok.1 rfl,?_⟩;have q2:QQ acc:=q2;rw[<-hQQ]at q2;exact q2 l ys H2 G2 (t1.trans s2) h2 hg2 (t1.free hl) hv
section
variable{X:Cx}{c:Bk}{tg iter tg2 iter2 elt e:Expr}{ifs:List Expr}{scope:Scope}{pos p spos:Pos}{Nc:List Str}{sub:List (Option Nat)}{I I2:WL}{C:WT}{E:WE}
def zpu(i:Nat)(t t2:Tg)(hI:DI X c tg iter I)(hg:∀{cl L s0 H0 ex},PG (zaq X Nc scope cl L s0 H0 ex) tg (gOf c.K t))(hI2:∀{cl L s0 H0 ex},DI (zaq X Nc scope cl L s0 H0 ex) c tg2 iter2 I2)(hg2:∀{cl L s0 H0 ex},PG (zaq X Nc scope cl L s0 H0 ex) tg2 (gOf c.K t2))(hC:∀{cl L s0 H0 ex},DIf (zaq X Nc scope cl L s0 H0 ex) c ifs C)(hE:∀{cl L s0 H0 ex},DE (zaq X Nc scope cl L s0 H0 ex) c elt E)(hi:X.N[i]?=some x:=by rfl)(hy:X.env.scope.names.lookup x=some .local:=by rfl)(hS:zgU X.N X.env.scope scope Nc sub=true:=by kernel_rfl)(hok:okT sub t=true:=by decide +kernel)(hap:zoE sub t t2=true:=by decide +kernel)(hc:X.calm=true:=by rfl)(hsw:swapsWith (.ListComp elt [⟨tg,iter,[],0⟩,⟨tg2,iter2,ifs,0⟩] scope pos) (some (.Name x p)) spos.line X.env=pure true:=by rfl)(hs:∀x,foldedSetIterable iter X.env x=pure x:=by intro _;rfl)(hs2:∀cl L s0 H0 ex x,foldedSetIterable iter2 (zaq X Nc scope cl L s0 H0 ex).env x=pure x:=by intros;rfl)(hN:X.N.Nodup:=by decreasing_trivial) :
  DS X c (.Assign [.Name x p] (.ListComp elt [⟨tg,iter,[],0⟩,⟨tg2,iter2,ifs,0⟩] scope pos) spos) (asgW (.nm i) (valW (zfj sub I t I2 t2 C E))):=by
 have mC:=(@hC [] 0 X.s₀ (λ_=>none) []).mono;have mE:=(@hE [] 0 X.s₀ (λ_=>none) []).mono;have mI2:=(@hI2 [] 0 X.s₀ (λ_=>none) []).mono;have mL:=zjt (sub:=sub) (t:=t) (t2:=t2) hI.mono mI2 mC mE;have mV:zbZ (valW (zfj sub I t I2 t2 C E)):=λM Q Q' k q=>mL M _ _ (λxs z=>k _ z) q;refine⟨ze7 mV,zcp (znw hc hN hi hy (CompScope.of hS) hI.pi (λcl L s0 H0 ex=>@hg cl L s0 H0 ex) (zmW c.K sub t hok) (λcl L s0 H0 ex=>(@hI2 cl L s0 H0 ex).pi) (λcl L s0 H0 ex=>@hg2 cl L s0 H0 ex) (zn7 hap) hs2 (zgZ c.K t) (λcl L s0 H0 ex=>(@hC cl L s0 H0 ex).pf) (λcl L s0 H0 ex=>(@hE cl L s0 H0 ex).pe) hsw hs) λD Y H ⟨M,G,r,q⟩=>?_⟩;refine zk9 hI.mono mI2 mC mE Y H _ ⟨M,G,r,mL M _ _ (λxs z l vs H' G' t hl hg h0 hv=>?_) q⟩;have hb:=r.neβ h0;exact z (Y.set i (some (.ref l))) H' (upd G' l (.lst vs)) ((r.step (t.still hl h0 hb hg)).put ⟨l,vs,rfl,zac,λ_=>r.new0 h0,hv.mono (zb8 hg)⟩) (t.gg.trans (zb8 hg))
end
structure Bt(mg:Str->Option Value):Prop where
 list:mg "list"=none
 len:mg "len"=none
 range:mg "range"=none
 all:mg "all"=none
 any:mg "any"=none
 isinstance:mg "isinstance"=none
 tuple:mg "tuple"=none
 bool:mg "bool"=none
 int:mg "int"=none
 str:mg "str"=none
 sorted:mg "sorted"=none
 set:mg "set"=none
 zip:mg "zip"=none
 enumerate:mg "enumerate"=none
 min:mg "min"=none
 max:mg "max"=none
def zah:Fn
 |[.box,.int m],Q=>(0<m/\m<2^64)/\∀x:Int,0<=x->x<m->Q (.int x)
 |_,_=>False
def lawW(n:Nat)(B:WS):Prop:=B {nx:=λ_=>False,rt:=λd=>d=.bl true,bk:=λ_=>False,ct:=λ_=>False} (.un::.val .box::List.replicate n .un)
end Fd
namespace Fd
open PySem L2
def za6:Fn:=fnW 1 ((retW (valW (zjC [none,none,none,none] (seqI (vW 0)) (.tp 4 (.cons (.nm 0) (.cons (.nm 1) (.cons (.nm 2) (.cons (.nm 3) .nil))))) noIf (vW 3)))))
def zdf:Fn:=fnW 2 ((retW (valW (zaQ [none,none,none,none,some 1] (seqI (vW 0)) (.tp 4 (.cons (.nm 0) (.cons (.nm 1) (.cons (.nm 2) (.cons (.nm 3) .nil))))) (blW (binW (inD true) (vW 3) (vW 4))) (tupW (zab (vW 0) (zab (vW 1) (zab (vW 2) (zab (vW 3) nilA)))))))))
def zpf:Fn:=fnW 2 ((retW (cbW allF (zab (valW (zaQ [none,none,none,none,some 1] (seqI (vW 0)) (.tp 4 (.cons (.nm 0) (.cons (.nm 1) (.cons (.nm 2) (.cons (.nm 3) .nil))))) noIf (binW eqD (binW subD (ixvW 4 (vW 1)) (ixvW 4 (vW 0))) (vW 2)))) nilA))))
noncomputable def zby:Fn:=fnW 4 ((seqW (asgW (.nm 1) (zas 2 zah (zab (vW 0) (zab (kW (.int 4)) nilA))))
  (seqW (ifS (blW (binW eqD (vW 1) (kW (.int 0)))) (retW (zas 2 zah (zab (vW 0) (zab (kW (.int 10)) nilA)))) nilS)
  (seqW (ifS (blW (binW eqD (vW 1) (kW (.int 1)))) (retW (zas 2 zah (zab (vW 0) (zab (kW (.int 1000000)) nilA)))) nilS)
  (seqW (asgW (.nm 2) (kW (.int 0)))
  (seqW (forW (zew (kW (.int 3))) (.nm 3) (asgW (.nm 2) (binW addD (binW mulD (vW 2) (kW (.int 1000000))) (zas 2 zah (zab (vW 0) (zab (kW (.int 1000000)) nilA))))))
  (retW (vW 2))))))))
noncomputable def zbi:Nat->Fn
 |0=>λ_ _=>False
 |n+1=>fnW 2 ((seqW (ifS (orT (truW (isiW "list" (vW 1))) (truW (isiW "tuple" (vW 1)))) (seqW (ifS (orT (blW (binW neD (isiW "list" (vW 0)) (isiW "list" (vW 1)))) (blW (binW neD (isiW "tuple" (vW 0)) (isiW "tuple" (vW 1))))) (retW (kW (.bl false))) nilS)
  (retW (andW (binW eqD (zdp 0) (zdp 1)) (cbW allF (zab (valW (zaQ [none,none] (zipI (vW 0) (vW 1)) (.tp 2 (.cons (.nm 0) (.cons (.nm 1) .nil))) noIf (zas 2 (zbi n) (zab (vW 0) (zab (vW 1) nilA))))) nilA))))) nilS)
  (seqW (ifS (orT (blW (isNW (vW 0))) (blW (isNW (vW 1)))) (retW (andW (isNW (vW 0)) (isNW (vW 1)))) nilS)
  (seqW (ifS (orT (blW (binW neD (isiW "bool" (vW 0)) (isiW "bool" (vW 1)))) (blW (binW neD (isiW "int" (vW 0)) (isiW "int" (vW 1))))) (retW (kW (.bl false))) nilS)
  (retW (andW (binW eqD (isiW "str" (vW 0)) (isiW "str" (vW 1))) (binW eqD (vW 0) (vW 1))))))))
def zaU:Fn:=fnW 2 ((seqW (ifS (orT (notT (truW (isiW "list" (vW 0)))) (blW (binW neD (zdp 0) (vW 1)))) (retW (kW (.bl false))) nilS)
  (retW (cbW allF (zab (valW (zaQ [none] (seqI (vW 0)) (.nm 0) noIf (andW (isiW "int" (vW 0)) (notW (isiW "bool" (vW 0)))))) nilA)))))
noncomputable def za5:Fn:=fnW 2 ((retW (binW addD (vW 1) (binW ixD (valW (lstW (zab (kW (.int 1)) (zab (unW negD (kW (.int 1))) (zab (binW addD (kW (.int 1)) (zas 2 zah (zab (vW 0) (zab (kW (.int 5)) nilA)))) (zab (zas 1 zby (zab (vW 0) nilA)) (zab (unW negD (zas 1 zby (zab (vW 0) nilA))) nilA))))))) (zas 2 zah (zab (vW 0) (zab (kW (.int 5)) nilA)))))))
noncomputable def zbz:Fn:=fnW 17 ((seqW (asgW (.nm 4) (binW addD (kW (.int 1)) (zas 2 zah (zab (vW 0) (zab (vW 1) nilA)))))
  (seqW (asgW (.nm 5) (binW addD (kW (.int 1)) (zas 2 zah (zab (vW 0) (zab (vW 2) nilA)))))
  (seqW (asgW (.nm 6) (binW ixD (valW (lstW (zab (kW (.int 4)) (zab (kW (.int 1000)) (zab (binW powD (kW (.int 10)) (kW (.int 12))) nilA))))) (zas 2 zah (zab (vW 0) (zab (kW (.int 3)) nilA)))))
  (seqW (asgW (.nm 7) (valW (zaQ [none,some 0,some 6] (zew (vW 4)) (.nm 0) noIf (zas 2 zah (zab (vW 1) (zab (vW 2) nilA))))))
  (seqW (asgW (.nm 8) (valW (zaQ [none,some 0] (zew (vW 5)) (.nm 0) noIf (ifW (blW (binW eqD (zas 2 zah (zab (vW 1) (zab (kW (.int 9)) nilA))) (kW (.int 0)))) (binW modD (binW mulD (kW (.int 3)) (vW 0)) (kW (.int 10))) (vW 0)))))
  (seqW (asgW (.nm 9) (valW (ze6 (valW (zaQ [none,some 8,some 0,some 5] (zew (zas 2 zah (zab (vW 0) (zab (kW (.int 4)) nilA)))) (.nm 0) noIf (ixvW 1 (zas 2 zah (zab (vW 2) (zab (vW 3) nilA)))))))))
  (seqW (asgW (.nm 10) (binW addD (kW (.int 1)) (zas 2 zah (zab (vW 0) (zab (kW (.int 3)) nilA)))))
  (seqW (ownW 11 (lstW nilA))
  (seqW (forW (zew (binW mulD (zas 2 zah (zab (vW 0) (zab (binW addD (vW 3) (kW (.int 1))) nilA))) (cbW intF (zab (binW gtD (vW 4) (kW (.int 1))) nilA)))) (.nm 12) (seqW (asgW (.nm 13) (zas 2 zah (zab (vW 0) (zab (vW 4) nilA))))
  (seqW (asgW (.nm 14) (binW modD (binW addD (binW addD (vW 13) (kW (.int 1))) (zas 2 zah (zab (vW 0) (zab (binW subD (vW 4) (kW (.int 1))) nilA)))) (vW 4)))
  (seqW (asgW (.nm 15) (ixvW 8 (zas 2 zah (zab (vW 0) (zab (vW 5) nilA)))))
  (seqW (asgW (.nm 16) (binW subD (ixvW 7 (vW 14)) (ixvW 7 (vW 13))))
  (seqW (ifS (andT (blW (binW (inD false) (vW 15) (vW 9))) (blW (binW ltD (zas 2 zah (zab (vW 0) (zab (kW (.int 3)) nilA))) (vW 10)))) (asgW (.nm 16) (zas 2 za5 (zab (vW 0) (zab (vW 16) nilA)))) nilS)
  (appW 11 (tupW (zab (vW 13) (zab (vW 14) (zab (vW 16) (zab (vW 15) nilA))))))))))))
  (frzW 11 (retW (tupW (zab (vW 4) (zab (vW 11) (zab (vW 7) (zab (vW 9) nilA)))))))))))))))))
def zbj:Fn:=fnW 2 ((retW (valW (zaQ [none,some 1] (seqI (vW 0)) (.nm 0) (blW (binW (inD true) (ixvW 0 (kW (.int 3))) (vW 1))) (vW 0)))))
def za9:Fn:=fnW 1 ((retW (valW (ze6 (valW (zaQ [none] (seqI (vW 0)) (.nm 0) noIf (ixvW 0 (kW (.int 3)))))))))
noncomputable def zaZ:Fn:=fnW 6 ((seqW (ifS (orT (notT (truW (isiW "tuple" (vW 3)))) (orT (blW (binW neD (zdp 3) (kW (.int 2)))) (notT (truW (isiW "list" (ixvW 3 (kW (.int 0)))))))) (retW (kW (.bl false))) nilS)
  (seqW (asgW (.tp 2 (.cons (.nm 4) (.cons (.nm 5) .nil))) (vW 3))
  (seqW (ifS (orT (notT (truW (zas 2 zaU (zab (vW 4) (zab (zdp 4) nilA))))) (orT (notT (truW (zas 2 zaU (zab (vW 5) (zab (vW 0) nilA))))) (blW (binW gtD (zdp 4) (vW 2))))) (retW (kW (.bl false))) nilS)
  (seqW (ifS (orT (blW (binW neD (vW 4) (valW (ze6 (vW 4))))) (notT (truW (cbW allF (zab (valW (zaQ [none,some 1] (seqI (vW 4)) (.nm 0) noIf (binW (inD false) (vW 0) (zas 1 za9 (zab (vW 1) nilA))))) nilA))))) (retW (kW (.bl false))) nilS)
  (retW (cbW allF (zab (valW (zaQ [none,some 5] (seqI (zas 2 zbj (zab (vW 1) (zab (vW 4) nilA)))) (.nm 0) noIf (binW eqD (binW subD (ixvW 1 (ixvW 0 (kW (.int 1)))) (ixvW 1 (ixvW 0 (kW (.int 0))))) (ixvW 0 (kW (.int 2)))))) nilA))))))))
end Fd
namespace Fen
open PySem L2
def Ext(b:Addr)(H H':Hp):Prop:=∀a o,a≠b->H a=some o->H' a=some o
def Ext.refl(b:Addr)(H:Hp):Ext b H H:=λ_ _ _ h=>h
def Ext.trans(x:Ext b H H1)(y:Ext b H1 H2):Ext b H H2:=λa o n h=>y a o n (x a o n h)
theorem Ext.upd:Ext b H (upd H b o):=λa _ n h=>by rw[zaf n];exact h
def boxV(c:Addr)(p r d:Int):HO:=.lst [.ref c,.int p,.int r,.int d]
structure Box(H:Hp)(b c:Addr)(ns:List Int):Prop where
 ex:∃p r d:Int,H b=some (boxV c p r d)/\0<=p/\0<=r/\0<=d/\d<2147483629
 cells:H c=some (.lst (ns.map V.int))
 few:ns.length<=63
def Box.ne(x:Box H b c ns):b≠c:=λz=>by
 obtain⟨p,r,d,e,_⟩:=x.ex;have q:=x.cells;rw[<-z,e]at q;have q':([V.ref c,.int p,.int r,.int d]:List V)=ns.map V.int:=by injection q with q;injection q
 cases ns with
 |nil=>cases q'
 |cons n r=>simp at q'
def Box.put(x:Box H b c ns)(hp:0<=p)(hr:0<=r)(h0:0<=d)(h1:d<2147483629):Box (upd H b (boxV c p r d)) b c ns:=
 ⟨⟨p,r,d,zac,hp,hr,h0,h1⟩,by rw[zaf x.ne.symm];exact x.cells,x.few⟩
def zqh(K:qg):Sp:=λvs H Q _=>∃(a:Addr)(ns:List Int),vs=[.ref a]/\SqL K H a (ns.map V.int)/\ns.length<=63/\∀b c H',H b=none->Box H' b c ns->Same H H'->Q (.ref b) H'
def zrE:Sp:=λvs H Q _=>∃(b c:Addr)(ns:List Int)(m:Int),vs=[.ref b,.int m]/\Box H b c ns/\0<m/\m<2^64/\∀(x:Int) H',0<=x->x<m->Box H' b c ns->Ext b H H'->Q (.int x) H'
structure Txt(K:qg)(mg:Str->Option Value):Prop where
 list:mg "list"=none
 len:mg "len"=none
 range:mg "range"=none
def zsv{ns:List Int}(h:ns.length<=63):cutV (ns.map V.int) none (some 63)=ns.map V.int:=by
 unfold cutV;have e:HT.sIx (ns.map V.int).length (ns.map V.int).length (some 63)=ns.length:=by
  rw[show(63:Int)=((63:Nat):Int)from rfl,HT.sIx_nat,YAc];omega
 rw[e,HT.sIx_none,YCQ,Nat.sub_zero];exact YAT (by simp)
structure Cal(P:Program)(w:World)(K:qg)(mg:Str->Option Value)(base:Heap)(x:Str)(k:Nat)(ps:List Str)(sp:Sp):Prop where
 ex:∃f fd,FnOk P w K mg base CX0 k f fd ps sp/\mg x=some (.ref f)/\PySem.W.keepIn K (.ref f)=true/\Binds K fd ps []
def zej(C:Cal X.prog X.w X.K X.mg X.base x k ps sp)(hr:Room k X.A)(hg:Gl X x)(ha:PA X (e::es) t)
  (hdb:(x==("__debug__":Str))=false:=by decide) (he:starEach (e::es) X.env=(false,eval e X.env)::starEach es X.env:=by rfl) (hpl:(backTo pos (starEach es X.env)).any (·.1)=false:=by rfl) :
  PE X (.Call (.Name x p) (e::es) [] pos) (zqz sp [] E0 t):=by
 obtain⟨f,fd,F,hm,hk,hb⟩:=C.ex;exact zhy F hr hg hm hk hb .nil zot ha hdb he hpl
def Cal.of(F:Fun K x qual st f fd)(G:FnOk P w K mg base CX0 k f fd ps sp)(hm:mg x=some (.ref f))(hb:Binds K fd ps []):Cal P w K mg base x k ps sp:=
 ⟨f,fd,G,hm,F.kp,hb⟩
def zdS{zs:List Int}{i:Int}(h0:0<=i)(h1:i<zs.length):atI (zs.map V.int) i=some (.int (zs.getD i.toNat 0)):=by
 have hn:i.toNat<zs.length:=by omega
 have q:=zdJ (xs:=zs.map V.int) (j:=i.toNat) (v:=.int (zs.getD i.toNat 0)) (by rw[YAo,YAe hn];simp[List.getD,YAe hn])
 rwa[YBw h0]at q
structure Run where
 p:Addr
 one:Int
 oW:Int
 rise:Int
 hand:Int
def runV(r:Run):V:=.ref r.p
def runT(r:Run):List V:=[.int r.one,.int r.oW,.int r.rise,.int r.hand]
def zka(e:Same H H')(h:SqT K H a xs):SqT K H' a xs:=by
 rcases h with h|h
 .rcases h with h|⟨o,h⟩
  .exact .inl (.inl (e _ _ h))
  .exact .inl (.inr ⟨o,e _ _ h⟩)
 .exact .inr h
def Runs(K:qg)(H:Hp)(rs:List Run):Prop:=∀r∈rs,SqT K H r.p (runT r)
def Runs.same(x:Runs K H rs)(e:Same H H'):Runs K H' rs:=λr hr=>zka e (x r hr)
def Runs.at_{K:qg}{H:Hp}{rs:List Run}(x:Runs K H rs){i:Nat}{v:V}(h:(rs.map runV)[i]?=some v):∃r,rs[i]?=some r/\v=.ref r.p/\SqT K H r.p (runT r):=by
 rw[YAo]at h;cases e:rs[i]? with
 |none=>rw[e]at h;cases h
 |some r=>
  rw[e]at h;exact⟨r,rfl,(Option.some.inj h).symm,x r (YAz e)⟩
def zan(h:H l=none):Same H (upd H l o):=λa _ e=>by rw[zaf (zae e h)];exact e
def zlZ(h:H l=none)(q:SqL K H a xs):SqL K (upd H l o) a xs:=(zan h).seq q
def znL{α β:Type}(f:α->β){xs:List α}{i:Nat}{x:α}(h:xs[i]?=some x):(xs.take (i+1)).map f=(xs.take i).map f++[f x]:=by
 rw[YDH,h,YAy];rfl
def zkF(x:Int)(hs:List Int):inV (.int x) (hs.map V.int)=hs.contains x:=by
 unfold inV;rw[List.any_map]
 induction hs with
 |nil=>rfl
 |cons y r ih=>
  rw[YCx,List.contains_cons,ih];congr 1;show eqV (.int y) (.int x)=(x==y);show decide (y=x)=(x==y);by_cases e:y=x
  .subst e;simp
  .have:¬ x=y:=λz=>e z.symm
   simp[e,this]
def ziQ(hs:List Int):(hs.map V.int).all zhe=true:=by
 rw[List.all_map,YCl];intro x _;rfl
def noif{Y:St}{H:Hp}{A B:Hp->Prop}(h:A H):znv Y H (λb H4=>if b=true then A H4 else B H4):=by
 show(if (true:Bool)=true then A H else B H);rw[if_pos rfl];exact h
def zgf(hts:List Int)(r:Run):Bool:=decide (hts.getD r.oW.toNat 0-hts.getD r.one.toNat 0=r.rise)
def zay(n:Nat)(rs:List Run):Prop:=∀r∈rs,0<=r.one/\r.one<n/\0<=r.oW/\r.oW<n
def zob(a b:Int):decide (V.int a=V.int b)=decide (a=b):=by
 by_cases e:a=b
 .subst e;simp
 .have:¬ V.int a=V.int b:=λz=>e (V.int.inj z)
  rw[YAN e,YAN this]
structure Txt2(mg:Str->Option Value):Prop where
 all:mg "all"=none
 isinstance:mg "isinstance"=none
 tuple:mg "tuple"=none
 bool:mg "bool"=none
 int:mg "int"=none
 str:mg "str"=none
 sorted:mg "sorted"=none
 set:mg "set"=none
def zkV{K:qg}{a h l:Addr}{rs:List Run}{hts:List Int}{H:Hp}{Q:VK}(ha:SqL K H a (rs.map runV))(R:Runs K H rs)(hh:SqL K H h (hts.map V.int))(V0:zay hts.length rs)(hz:rs.length<=1000)(hl:H l=none)
  (q:Q (.ref l) (upd H l (.lst ((rs.map (zgf hts)).map V.bl)))) :
  zif (gTup K 4 (ze4 (zcY 0) (ze4 (zcY 1) (ze4 (zcY 2) (ze4 (zcY 3) gNil))))) znv
   (tOp rEq (tOp (rI0 λi j=>.int (i-j)) (tOp (rIxL K) (tVar 4) (tVar 1)) (tOp (rIxL K) (tVar 4) (tVar 0))) (tVar 2)) [none,none,none,none,some (.ref h)] l (Itl K a) H Q:=by
 refine zic (ys:=rs.map runV) (λi xs H2=>H2=upd H l (.lst xs)/\xs=((rs.take i).map (zgf hts)).map V.bl/\i<=rs.length) ⟨rfl,rfl,YAC _⟩ ?_ ?_ ?_
 .rintro i xs H2 hi ⟨rfl,hx,_⟩;exact⟨zlZ hl ha,zac⟩
 .rintro i x xs H2 hx ⟨rfl,hxs,hi⟩;obtain⟨r,hr,rfl,ht⟩:=R.at_ hx;have hm:=V0 r (YAz hr);have htt:SqT K (upd H l (.lst xs)) r.p (runT r):=zka (zan hl) ht;have hil:i<rs.length:=(YAh.mp hr).1;refine⟨r.p,_,rfl,htt,rfl,_,_,rfl,_,_,rfl,_,_,rfl,_,_,rfl,rfl,?_⟩;refine noif ?_;refine⟨_,rfl,_,rfl,h,_,_,_,rfl,rfl,zlZ hl hh,zdS hm.2.2.1 hm.2.2.2,_,rfl,_,rfl,h,_,_,_,rfl,rfl,zlZ hl hh,zdS hm.1 hm.2.1,_,_,rfl,rfl,_,rfl,rfl,zac,?_,?_,?_,?_⟩
  .rw[hxs,YAc,YAc,YA8,YAO];omega
  .rw[zpN]
  .rw[znL (zgf hts) hr,YAy,<-hxs,zob];rfl
  .omega
 .rintro xs H2 ⟨rfl,hxs,_⟩;rw[YAc,YBJ]at hxs;rw[hxs];exact q
def zi9(K:qg):Sp:=λvs H Q _=>∃(a h:Addr)(rs:List Run)(hts:List Int),vs=[.ref a,.ref h]/\SqL K H a (rs.map runV)/\Runs K H rs/\SqL K H h (hts.map V.int)/\zay hts.length rs/\rs.length<=1000 /\
 ∀l o,H l=none->Q (.bl ((rs.map (zgf hts)).all id)) (upd H l o)
def zg4:(["one","other","rise","hand","heights"]:List Str).Nodup:=by decide +kernel
def tMid(t:TS):TS:=λD Y H=>∃qf:St->Hp->Prop,t {D with nx:=qf} Y H/\∀ Y' H',qf Y' H'->D.nx Y' H'
def zrb(h:PS X st t):PS X st (tMid t):=by
 intro O s Y H D I hw;obtain⟨qf,h1,h2⟩:=hw;refine thn (h O s Y H _ I h1) λf s' q=>?_;cases f with
 |next=>obtain⟨Y',H',I',q'⟩:=q;exact⟨Y',H',I',h2 _ _ q'⟩
 |brk=>exact q
 |cont=>exact q
 |ret u=>exact q
def zp6{zs:List Int}{i:Nat}{x:V}(h:(zs.map V.int)[i]?=some x):∃z,zs[i]?=some z/\x=.int z:=by
 rw[YAo]at h;cases e:zs[i]? with
 |none=>rw[e]at h;cases h
 |some z=>rw[e]at h;exact⟨z,rfl,(Option.some.inj h).symm⟩
def zrG{n:Nat}{i:Int}(h0:0<=i)(h1:i<n):ixN n i=some i.toNat:=by unfold ixN;rw[if_pos h0,if_pos h1]
def znT{zs:List Int}{i:Nat}{z:Int}:(zs.map V.int).set i (.int z)=(zs.set i z).map V.int:=by rw[List.map_set]
def zmY(H:Hp):Same H H:=λ_ _ e=>e
def zck(e:Same H H')(h:SQ tp K H a xs):SQ tp K H' a xs:=by
 cases tp
 .exact e.seq h
 .rcases h with h|h
  .rcases h with h|⟨o,h⟩
   .exact .inl (.inl (e _ _ h))
   .exact .inl (.inr ⟨o,e _ _ h⟩)
  .exact .inr h
def zcn(r:Run):Int×Int×Int×Int:=(r.one,r.oW,r.rise,r.hand)
def zbq(r:Run)(qd:Int):Option (Int×Int):=if qd=r.one then some (r.oW,r.rise)else if qd=r.oW then some (r.one,-r.rise)else none
def runAt(rs:List Run)(i:Int):Run:=rs.getD i.toNat ⟨0,0,0,0,0⟩
def walkF(rs:List Run):Int->Int->List Int->Option (Int×Int)
 |qd,h,[]=>some (qd,h)
 |qd,h,n::rest=>if 0<=n/\n<rs.length then(match zbq (runAt rs n) qd with|some (e,d)=>walkF rs e (h+d) rest|none=>none)else none
def zdL(h0:0<=i)(h1:i<rs.length):rs[i.toNat]?=some (runAt rs i)/\atI (rs.map runV) i=some (.ref (runAt rs i).p)/\runAt rs i∈rs:=by
 have hn:i.toNat<rs.length:=by omega
 have e:rs[i.toNat]?=some (runAt rs i):=by unfold runAt;rw[YAe hn];simp[List.getD,YAe hn]
 refine⟨e,?_,YAz e⟩;have q:=zdJ (xs:=rs.map runV) (j:=i.toNat) (v:=.ref (runAt rs i).p) (by rw[YAo,e];rfl)
 rwa[YBw h0]at q
theorem zhs:∀{qd h:Int}{line:List Int}{e:Int×Int},walkF rs qd h line=some e->∀z∈line,0<=z/\z<rs.length
 |_,_,[],_,_,z,hz=>by cases hz
 |qd,h,n::rest,e,q,z,hz=>by
  unfold walkF at q;by_cases hn:0<=n/\n<(rs.length:Int)
  .rw[if_pos hn]at q;rcases YAn.mp hz with rfl|hz
   .exact hn
   .cases es:zbq (runAt rs n) qd with
    |none=>rw[es]at q;cases q
    |some p=>rw[es]at q;exact zhs q z hz
  .rw[if_neg hn]at q;cases q
def zpj{line:List Int}{i:Nat}{z:Int}(h:line[i]?=some z):line.drop i=z::line.drop (i+1):=by
 obtain⟨h1,h2⟩:=YAh.mp h;rw[YAL h1,h2]
def zeb{rs:List Run}{qd h z e d:Int}{rest:List Int}(h0:0<=z)(h1:z<rs.length)(hs:zbq (runAt rs z) qd=some (e,d)):walkF rs qd h (z::rest)=walkF rs e (h+d) rest:=by
 show(if 0<=z/\z<(rs.length:Int)then _ else _)=_;rw[if_pos ⟨h0,h1⟩,hs]
def nb2[Decidable c](h:¬ (!decide c)=true):c:=by simpa using h
inductive Conn(rs:List Run):Int->Int->Prop
 |refl (i:Int):Conn rs i i
 |go {i j k:Int} (r:Run) (c:Conn rs i j) (m:r∈rs) (e:(r.one=j/\r.oW=k)\/(r.oW=j/\r.one=k)):Conn rs i k
def Conn.trans(x:Conn rs i j)(y:Conn rs j k):Conn rs i k:=by
 induction y with
 |refl=>exact x
 |go r c m e ih=>exact .go r ih m e
def Conn.edge(m:r∈rs):Conn rs r.one r.oW:=.go r (.refl _) m (.inl ⟨rfl,rfl⟩)
def Conn.edge'(m:r∈rs):Conn rs r.oW r.one:=.go r (.refl _) m (.inr ⟨rfl,rfl⟩)
def Conn.symm(x:Conn rs i j):Conn rs j i:=by
 induction x with
 |refl=>exact .refl _
 |go r c m e ih=>
  rcases e with⟨rfl,rfl⟩|⟨rfl,rfl⟩
  .exact(Conn.edge' m).trans ih
  .exact(Conn.edge m).trans ih
def Conn.mono(x:Conn rs i j)(h:∀r∈rs,∃q∈qs,q.one=r.one/\q.oW=r.oW):Conn qs i j:=by
 induction x with
 |refl=>exact .refl _
 |go r c m e ih=>
  obtain⟨q,hq,e1,e2⟩:=h r m;rcases e with⟨rfl,rfl⟩|⟨rfl,rfl⟩
  .exact .go q ih hq (.inl ⟨e1,e2⟩)
  .exact .go q ih hq (.inr ⟨e2,e1⟩)
def Conn.sub(x:Conn rs i j)(h:∀r∈rs,r∈qs):Conn qs i j:=x.mono λr m=>⟨r,h r m,rfl,rfl⟩
def Conn.inM(V0:zay n rs)(x:Conn rs i j)(h:0<=i/\i<n):0<=j/\j<n:=by
 induction x with
 |refl=>exact h
 |go r c m e ih=>
  obtain⟨m1,m2,m3,m4⟩:=V0 r m;rcases e with⟨rfl,rfl⟩|⟨rfl,rfl⟩
  .exact⟨m3,m4⟩
  .exact⟨m1,m2⟩
def gI(xs:List Int)(i:Int):Int:=xs.getD i.toNat 0
def zha(n:Nat)(rs:List Run)(lab:List Int):Prop:=∀i j:Int,0<=i->i<n->0<=j->j<n->(gI lab i=gI lab j↔Conn rs i j)
def HtOk(rs:List Run)(hts:List Int):Prop:=∀r∈rs,gI hts r.oW-gI hts r.one=r.rise
def zgl(rs:List Run):Prop:=∀f:Int->Int,¬ ∀r∈rs,f r.oW-f r.one=r.rise
def zna{rs:List Run}{f g:Int->Int}(hf:∀r∈rs,f r.oW-f r.one=r.rise)(hg:∀r∈rs,g r.oW-g r.one=r.rise){i j:Int}(x:Conn rs i j):f j-f i=g j-g i:=by
 induction x with
 |refl=>omega
 |go r c m e ih=>
  have h1:=hf r m;have h2:=hg r m;rcases e with⟨rfl,rfl⟩|⟨rfl,rfl⟩<;>omega
def zog{done rest:List Run}{n:Nat}{lab hts:List Int}{r:Run}(V0:0<=r.one/\r.one<n/\0<=r.oW/\r.oW<n)(hl:zha n done lab)(hh:HtOk done hts)(e:gI lab r.one=gI lab r.oW)(hb:gI hts r.one+r.rise-gI hts r.oW≠0):zgl (done++r::rest):=λf hf=>by
 have c:=(hl r.one r.oW V0.1 V0.2.1 V0.2.2.1 V0.2.2.2).mp e;have h1:=zna (f:=f) (g:=gI hts) (λq hq=>hf q (YAx _ hq)) hh c;have h2:=hf r (YAl _ YAi);omega
def znX{done:List Run}{n:Nat}{lab hts:List Int}{r:Run}(V0:0<=r.one/\r.one<n/\0<=r.oW/\r.oW<n)(hl:zha n done lab)(hh:HtOk done hts)(e:gI lab r.one=gI lab r.oW)(hb:gI hts r.one+r.rise-gI hts r.oW=0):zha n (done++[r]) lab/\HtOk (done++[r]) hts:=by
 have c:=(hl r.one r.oW V0.1 V0.2.1 V0.2.2.1 V0.2.2.2).mp e;refine⟨λi j a b d e'=>⟨λh=>((hl i j a b d e').mp h).sub λq hq=>YAx _ hq,λh=>(hl i j a b d e').mpr ?_⟩,λq hq=>?_⟩
 .clear e' d
  induction h with
  |refl=>exact .refl _
  |go q c' m e2 ih=>
   rcases YAk.mp m with m|m
   .exact .go q ih m e2
   .rw[YAg.mp m]at e2;rcases e2 with⟨rfl,rfl⟩|⟨rfl,rfl⟩
    .exact ih.trans c
    .exact ih.trans c.symm
 .rcases YAk.mp hq with m|m
  .exact hh q m
  .rw[YAg.mp m];omega
def znK{done:List Run}{n:Nat}{lab hts lab' hts':List Int}{r:Run}(VD:zay n done)(V0:0<=r.one/\r.one<n/\0<=r.oW/\r.oW<n)(hl:zha n done lab)(hh:HtOk done hts)(ne:gI lab r.one≠gI lab r.oW)
  (h1:∀i:Int,0<=i->i<n->gI lab' i=if gI lab i=gI lab r.oW then gI lab r.one else gI lab i) (h2:∀i:Int,0<=i->i<n->gI hts' i=if gI lab i=gI lab r.oW then gI hts i+(gI hts r.one+r.rise-gI hts r.oW)else gI hts i) :
  zha n (done++[r]) lab'/\HtOk (done++[r]) hts':=by
 have up:∀{i j},Conn done i j->Conn (done++[r]) i j:=λh=>h.sub λq hq=>YAx _ hq;have er:Conn (done++[r]) r.one r.oW:=Conn.edge (YAl _ YAi);have V1:zay n (done++[r]):=λq hq=>by
  rcases YAk.mp hq with m|m
  .exact VD q m
  .rw[YAg.mp m];exact V0
 refine⟨λi j a b c d=>⟨λh=>?_,λh=>?_⟩,λq hq=>?_⟩
 .rw[h1 i a b,h1 j c d]at h;by_cases ci:gI lab i=gI lab r.oW
  .by_cases cj:gI lab j=gI lab r.oW
   .exact up ((hl i j a b c d).mp (ci.trans cj.symm))
   .rw[if_pos ci,if_neg cj]at h;exact((up ((hl i r.oW a b V0.2.2.1 V0.2.2.2).mp ci)).trans er.symm).trans (up ((hl r.one j V0.1 V0.2.1 c d).mp h))
  .by_cases cj:gI lab j=gI lab r.oW
   .rw[if_neg ci,if_pos cj]at h;exact((up ((hl i r.one a b V0.1 V0.2.1).mp h)).trans er).trans (up ((hl r.oW j V0.2.2.1 V0.2.2.2 c d).mp cj.symm))
   .rw[if_neg ci,if_neg cj]at h;exact up ((hl i j a b c d).mp h)
 .have key:∀k,Conn (done++[r]) i k->gI lab' i=gI lab' k:=λk hk=>by
   induction hk with
   |refl=>rfl
   |go q c' m e2 ih=>
    rw[ih]
    rename_i j' k'
    have bj:=c'.inM V1 ⟨a,b⟩;have bk:=(Conn.go q c' m e2).inM V1 ⟨a,b⟩;rcases YAk.mp m with m|m
    .have ee:gI lab j'=gI lab k':=(hl j' k' bj.1 bj.2 bk.1 bk.2).mpr (.go q (.refl _) m e2);rw[h1 _ bj.1 bj.2,h1 _ bk.1 bk.2,ee]
    .rw[YAg.mp m]at e2;have eo:gI lab' r.oW=gI lab r.one:=by rw[h1 _ V0.2.2.1 V0.2.2.2,if_pos rfl]
     have eo1:gI lab' r.one=gI lab r.one:=by rw[h1 _ V0.1 V0.2.1,if_neg ne]
     rcases e2 with⟨rfl,rfl⟩|⟨rfl,rfl⟩
     .rw[eo,eo1]
     .rw[eo,eo1]
  exact key j h
 .rcases YAk.mp hq with m|m
  .obtain⟨b1,b2,b3,b4⟩:=VD q m;have ee:gI lab q.one=gI lab q.oW:=(hl _ _ b1 b2 b3 b4).mpr (Conn.edge m)
   have:=hh q m
   rw[h2 _ b1 b2,h2 _ b3 b4,ee];by_cases cc:gI lab q.oW=gI lab r.oW
   .rw[if_pos cc,if_pos cc];omega
   .rw[if_neg cc,if_neg cc];exact this
  .rw[YAg.mp m,h2 _ V0.1 V0.2.1,h2 _ V0.2.2.1 V0.2.2.2,if_neg ne,if_pos rfl];omega
def zhW(n:Nat):zha n [] ((List.range n).map Int.ofNat)/\HtOk [] (List.replicate n 0):=by
 refine⟨λi j a b c d=>?_,λr h=>by cases h⟩;have e:∀k:Int,0<=k->k<n->gI ((List.range n).map Int.ofNat) k=k:=λk h0 h1=>by
  have hk:k.toNat<n:=by omega
  unfold gI;simp[List.getD,hk];omega
 rw[e i a b,e j c d];refine⟨λh=>h▸.refl _,λh=>?_⟩;cases h with
 |refl=>rfl
 |go r c m e=>cases m
def zcd{α:Type}{xs:List α}{i:Nat}{x:α}(h:xs[i]?=some x):xs.take (i+1)=xs.take i++[x]:=by rw[YDH,h];rfl
def zrm{i:Nat}{v:V}{Y:St}{H:Hp}{A B:St->Hp->Prop}(h:A (Y.set i (some v)) H):zcY i v Y H (λY2 H3=>znv Y2 H3 λb H4=>if b=true then A Y2 H4 else B Y2 H4):=by
 show(if (true:Bool)=true then A (List.set Y i (some v)) H else B (List.set Y i (some v)) H);rw[if_pos rfl];exact h
def zgz{xs:List Int}{j:Nat}{v i:Int}(hj:j<xs.length)(h0:0<=i):gI (xs.set j v) i=if i=(j:Int)then v else gI xs i:=by
 unfold gI;by_cases e:i=(j:Int)
 .rw[if_pos e,e,YAE,YAs,YAI hj];rfl
 .rw[if_neg e,YAs,YAD (by omega),<-YAs]
def zra{zs:List Int}{i:Int}(h0:0<=i)(h1:i<zs.length):atI (zs.map V.int) i=some (.int (gI zs i)):=zdS h0 h1
theorem zjS(v:V):∀n:Nat,(List.replicate n [v]).flatten=List.replicate n v
 |0=>rfl
 |n+1=>by rw[YAV,YAV,YBj,zjS v n];rfl
structure Tri where
 p:Addr
 n:Int
 e:Int
 d:Int
def triV(t:Tri):V:=.ref t.p
def triT(t:Tri):List V:=[.int t.n,.int t.e,.int t.d]
structure Steps(H:Hp)(ls:Addr)(ad:List Addr)(cs:Nat->List Tri):Prop where
 top:H ls=some (.lst (ad.map V.ref))
 row:∀(m:Nat) a,ad[m]?=some a->H a=some (.lst ((cs m).map triV))
 tri:∀(m:Nat) t,m<ad.length->t∈cs m->H t.p=some (.tup (triT t))
 nod:ad.Nodup
 out:ls∉ad
def Steps.same(x:Steps H ls ad cs)(S:Same H H'):Steps H' ls ad cs:=
 ⟨S _ _ x.top,λm a h=>S _ _ (x.row m a h),λm t h h'=>S _ _ (x.tri m t h h'),x.nod,x.out⟩
def zi7(rs:List Run)(hs:List Int)(k:Nat)(m:Nat)(t:Tri):Prop:=0<=t.n/\t.n<k/\∃r,rs[t.n.toNat]?=some r/\hs.contains r.hand=false/\((r.one=m/\t.e=r.oW/\t.d=r.rise)\/(r.oW=m/\t.e=r.one/\t.d=-r.rise))
def triC(t:Tri):Int×Int×Int:=(t.n,t.e,t.d)
noncomputable def stepsF(rs:List Run)(hs:List Int):Nat->Nat->List (Int×Int×Int)
 |0,_=>[]
 |k+1,m=>stepsF rs hs k m++(match rs[k]? with
  |none=>[]
  |some r=>if hs.contains r.hand=true then []else(if m=r.one.toNat then [((k:Int),r.oW,r.rise)]else [])++(if m=r.oW.toNat then [((k:Int),r.one,-r.rise)]else []))
structure StepsOk(rs:List Run)(hs:List Int)(k:Nat)(cs:Nat->List Tri):Prop where
 sound:∀m t,t∈cs m->zi7 rs hs k m t
 full:∀(i:Nat) r,i<k->rs[i]?=some r->hs.contains r.hand=false->(∃t∈cs r.one.toNat,t.e=r.oW)/\∃t∈cs r.oW.toNat,t.e=r.one
 few:∀m,(cs m).length<=2*k
 cont:∀m,(cs m).map triC=stepsF rs hs k m
def addC(cs:Nat->List Tri)(m:Nat)(t:Tri):Nat->List Tri:=λk=>if k=m then cs m++[t]else cs k
def mem_addC:u∈addC cs m t k↔u∈cs k\/(k=m/\u=t):=by
 unfold addC;by_cases e:k=m
 .subst e;rw[if_pos rfl,YAk,YAg];simp
 .rw[if_neg e];simp[e]
def zj4{ad:List Addr}(h:ad.Nodup){i j:Nat}{x:Addr}(h1:ad[i]?=some x)(h2:ad[j]?=some x):i=j:=by
 obtain⟨a1,e1⟩:=YAh.mp h1;obtain⟨a2,e2⟩:=YAh.mp h2;rcases Nat.lt_trichotomy i j with q|q|q
 .exact absurd (e1.trans e2.symm) (YA4.mp h i j a1 a2 q)
 .exact q
 .exact absurd (e2.trans e1.symm) (YA4.mp h j i a2 a1 q)
def Steps.push{H:Hp}{ls:Addr}{ad:List Addr}{cs:Nat->List Tri}(x:Steps H ls ad cs){m:Nat}{a:Addr}(hm:ad[m]?=some a){t:Addr}(ht:H t=none){n e d:Int} :
  Steps (upd (upd H t (.tup [.int n,.int e,.int d])) a (.lst ((cs m).map triV++[.ref t]))) ls ad (addC cs m ⟨t,n,e,d⟩):=by
 have ha:=x.row m a hm;have nat:a≠t:=zae ha ht;have hmem:a∈ad:=YAz hm;have nls:ls≠a:=λz=>x.out (z▸hmem);refine⟨?_,λk b hb=>?_,λk u hk hu=>?_,x.nod,x.out⟩
 .rw[zaf nls,zaf (zae x.top ht)];exact x.top
 .by_cases ek:k=m
  .subst ek;rw[hm]at hb;cases hb;rw[zac];unfold addC;rw[if_pos rfl,YAy];rfl
  .have nb:b≠a:=λz=>ek (zj4 x.nod hb (by rw[z];exact hm));rw[zaf nb,zaf (zae (x.row k b hb) ht)];unfold addC;rw[if_neg ek];exact x.row k b hb
 .rcases mem_addC.mp hu with q|⟨rfl,rfl⟩
  .have hq:=x.tri k u hk q;have n1:u.p≠a:=λz=>by rw[z,ha]at hq;cases hq
   rw[zaf n1,zaf (zae hq ht)];exact hq
  .show upd _ a _ t=_;rw[zaf nat.symm,zac];rfl
def StepsOk.up(x:StepsOk rs hs k cs)(hr:rs[k]?=some r)(h:hs.contains r.hand=true):StepsOk rs hs (k+1) cs:=
 ⟨λm t ht=>let⟨a,b,c⟩:=x.sound m t ht;⟨a,by omega,c⟩,λi q hi hq hc=>by
  by_cases e:i=k
  .subst e;rw[hr]at hq;cases hq;rw[h]at hc;cases hc
  .exact x.full i q (by omega) hq hc,λm=>by have:=x.few m;omega,λm=>by
  show _=stepsF rs hs k m++_;rw[x.cont m,hr];simp only[h,YCX,YAR]⟩
def StepsOk.add(x:StepsOk rs hs k cs)(hr:rs[k]?=some r)(h:hs.contains r.hand=false)(h1:0<=r.one)(h2:0<=r.oW) :
  StepsOk rs hs (k+1) (addC (addC cs r.one.toNat ⟨t,k,r.oW,r.rise⟩) r.oW.toNat ⟨u,k,r.one,-r.rise⟩):=by
 refine⟨λm q hq=>?_,λi q hi hq hc=>?_,λm=>?_,λm=>?_⟩
 .rcases mem_addC.mp hq with hq|⟨rfl,rfl⟩
  .rcases mem_addC.mp hq with hq|⟨rfl,rfl⟩
   .obtain⟨a,b,c⟩:=x.sound m q hq;exact⟨a,by omega,c⟩
   .exact⟨by show(0:Int)<=(k:Int);omega,by show(k:Int)<((k+1:Nat):Int);omega,r,by show rs[((k:Int)).toNat]?=_;rw[YAE];exact hr,h,.inl ⟨by omega,rfl,rfl⟩⟩
  .exact⟨by show(0:Int)<=(k:Int);omega,by show(k:Int)<((k+1:Nat):Int);omega,r,by show rs[((k:Int)).toNat]?=_;rw[YAE];exact hr,h,.inr ⟨by omega,rfl,rfl⟩⟩
 .by_cases e:i=k
  .subst e;rw[hr]at hq;cases hq;exact⟨⟨_,mem_addC.mpr (.inl (mem_addC.mpr (.inr ⟨rfl,rfl⟩))),rfl⟩,⟨_,mem_addC.mpr (.inr ⟨rfl,rfl⟩),rfl⟩⟩
  .obtain⟨⟨a,a1,a2⟩,b,b1,b2⟩:=x.full i q (by omega) hq hc;exact⟨⟨a,mem_addC.mpr (.inl (mem_addC.mpr (.inl a1))),a2⟩,⟨b,mem_addC.mpr (.inl (mem_addC.mpr (.inl b1))),b2⟩⟩
 .have:=x.few m
  unfold addC;split
  .rename_i e1
   rw[YAq];split
   .rename_i e2;subst e1;rw[<-e2]at *;rw[YAq];simp;omega
   .subst e1;simp;omega
  .split
   .rename_i e2;subst e2;rw[YAq];simp;omega
   .omega
 .show _=stepsF rs hs k m++_;rw[hr];simp only[h,YA0,YB6];unfold addC;by_cases c2:m=r.oW.toNat
  .subst c2;rw[if_pos rfl,if_pos rfl];by_cases c1:r.oW.toNat=r.one.toNat
   .rw[if_pos c1,if_pos c1,YAy,YAy,<-c1,x.cont,YAB];rfl
   .rw[if_neg c1,if_neg c1,YAy,x.cont];rfl
  .rw[if_neg c2,if_neg c2,YAR];by_cases c1:m=r.one.toNat
   .subst c1;rw[if_pos rfl,if_pos rfl,YAy,x.cont];rfl
   .rw[if_neg c1,if_neg c1,x.cont,YAR]
noncomputable def zhM(K:qg):Sp:=λvs H Q _=>∃(n:Nat)(a s:Addr)(rs:List Run)(hs:List Int),vs=[.int n,.ref a,.ref s]/\SqL K H a (rs.map runV)/\Runs K H rs/\zay n rs/\SqL K H s (hs.map V.int)/\n<=1000/\rs.length<=1000 /\
 ∀(ls:Addr)(ad:List Addr)(cs:Nat->List Tri) H',Same H H'->ad.length=n->Steps H' ls ad cs->StepsOk rs hs rs.length cs->(∀x∈ad,H x=none)->H ls=none->Q (.ref ls) H'
abbrev Nst:List Str:=["size","runs","struck","steps","number","one","other","rise","hand"]
def zp4:(["mark"]:List Str).Nodup:=by decide +kernel
structure Nd where
 m:Int
 t:Addr
 h:Int
 lt:Addr
 line:List Int
def ndK(x:Nd):Key×V:=(Sum.inl x.m,.ref x.t)
def zaw(ns:List Nd):List Int:=ns.map Nd.m
structure TreeOk(rs:List Run)(hs:List Int)(start:Int)(n:Nat)(ns:List Nd):Prop where
 nod:(zaw ns).Nodup
 inm:∀x∈ns,0<=x.m/\x.m<n
 walk:∀x∈ns,walkF rs start 0 x.line=some (x.m,x.h)
 runs:∀x∈ns,∀z∈x.line,0<=z/\z<(rs.length:Int)/\hs.contains (runAt rs z).hand=false/\(runAt rs z).one∈zaw ns/\(runAt rs z).oW∈zaw ns
 uniq:∀x∈ns,∀y∈ns,∀(i j:Nat) z,x.line[i]?=some z->y.line[j]?=some z->x.line.take (i+1)=y.line.take (j+1)
 start:start∈zaw ns
 few:∀x∈ns,x.line.length<ns.length
 keep:∀x∈ns,∀z∈x.line,∃u∈ns,∃v∈ns,u.m=(runAt rs z).one/\v.m=(runAt rs z).oW/\v.h-u.h=(runAt rs z).rise
theorem zgs:∀{qd h:Int}{line:List Int}{e t z:Int},walkF rs qd h line=some (e,t)->walkF rs qd h (line++[z])=walkF rs e t [z]
 |qd,h,[],e,t,z,q=>by
  have:(qd,h)=(e,t):=Option.some.inj q
  injection this with a b
  subst a b;rfl
 |qd,h,n::rest,e,t,z,q=>by
  rw[YDS];show(if 0<=n/\n<(rs.length:Int)then _ else _)=_;have q':(if 0<=n/\n<(rs.length:Int)then(match zbq (runAt rs n) qd with|some (e,d)=>walkF rs e (h+d) rest|none=>none)else none)=some (e,t):=q;by_cases c:0<=n/\n<(rs.length:Int)
  .rw[if_pos c]at q' ⊢;cases hs:zbq (runAt rs n) qd with
   |none=>rw[hs]at q';cases q'
   |some ed=>rw[hs]at q';exact zgs q'
  .rw[if_neg c]at q';cases q'
def mem_keys:k∈zaw ns↔∃x∈ns,x.m=k:=by unfold zaw;exact YAF
def zb9(ns:List Nd)(x:Nd):zaw (ns++[x])=zaw ns++[x.m]:=by unfold zaw;rw[YAy];rfl
def TreeOk.add{rs:List Run}{hs:List Int}{start:Int}{n:Nat}{ns:List Nd}(X:TreeOk rs hs start n ns)(VM:zay n rs){p:Nd}(hp:p∈ns){t:Tri}(hg:zi7 rs hs rs.length p.m.toNat t)(hn:t.e∉zaw ns){tt lt:Addr} :
  TreeOk rs hs start n (ns++[⟨t.e,tt,p.h+t.d,lt,p.line++[t.n]⟩]):=by
 obtain⟨g0,g1,r,hr,hc,hg⟩:=hg;have pm:=X.inm p hp;have era:runAt rs t.n=r:=by
  have:=(zdL g0 g1).1
  rw[hr]at this;exact(Option.some.inj this).symm
 have hmr:r∈rs:=YAz hr;have Vr:=VM r hmr;have epm:((p.m.toNat:Nat):Int)=p.m:=by omega
 rw[epm]at hg;have pk:p.m∈zaw ns:=mem_keys.mpr ⟨p,hp,rfl⟩;have hstep:zbq (runAt rs t.n) p.m=some (t.e,t.d):=by
  rw[era];unfold zbq;rcases hg with⟨a,b,c⟩|⟨a,b,c⟩
  .rw[if_pos a.symm,b,c]
  .by_cases q:p.m=r.one
   .exact absurd (by rw[b,<-q];exact pk) hn
   .rw[if_neg q,if_pos a.symm,b,c]
 have ends:(r.one∈zaw ns++[t.e])/\r.oW∈zaw ns++[t.e]:=by
  rcases hg with⟨a,b,c⟩|⟨a,b,c⟩
  .exact⟨YAx _ (a▸pk),YAl _ (by rw[b];exact YAi)⟩
  .exact⟨YAl _ (by rw[b];exact YAi),YAx _ (a▸pk)⟩
 have hfresh:∀x∈ns,∀(i:Nat),x.line[i]?≠some t.n:=λx hx i hz=>by
  obtain⟨_,_,_,k1,k2⟩:=X.runs x hx t.n (YAz hz);rw[era]at k1 k2;rcases hg with⟨a,b,c⟩|⟨a,b,c⟩
  .exact hn (b▸k2)
  .exact hn (b▸k1)
 have few:=X.few p hp;refine⟨?_,λx hx=>?_,λx hx=>?_,λx hx z hz=>?_,λx hx y hy i j z hi hj=>?_,?_,λx hx=>?_,λx hx z hz=>?_⟩
 .rw[zb9];exact zgX X.nod hn
 .rcases YAk.mp hx with q|q
  .exact X.inm x q
  .rw[YAg.mp q];rcases hg with⟨a,b,c⟩|⟨a,b,c⟩
   .show 0<=t.e/\t.e<n;rw[b];exact Vr.2.2
   .show 0<=t.e/\t.e<n;rw[b];exact⟨Vr.1,Vr.2.1⟩
 .rcases YAk.mp hx with q|q
  .exact X.walk x q
  .rw[YAg.mp q];show walkF rs start 0 (p.line++[t.n])=some (t.e,p.h+t.d);rw[zgs (X.walk p hp),zeb g0 g1 hstep];rfl
 .rw[zb9];have old:∀x∈ns,∀z∈x.line,0<=z/\z<(rs.length:Int)/\hs.contains (runAt rs z).hand=false/\(runAt rs z).one∈zaw ns++[t.e]/\(runAt rs z).oW∈zaw ns++[t.e]:=λx q z hz=>by
   obtain⟨a,b,c,d,e⟩:=X.runs x q z hz;exact⟨a,b,c,YAx _ d,YAx _ e⟩
  rcases YAk.mp hx with q|q
  .exact old x q z hz
  .rw[YAg.mp q]at hz;rcases YAk.mp hz with hz|hz
   .exact old p hp z hz
   .rw[YAg.mp hz,era];exact⟨g0,g1,hc,ends.1,ends.2⟩
 .have look:∀(i:Nat) z,(p.line++[t.n])[i]?=some z->(i<p.line.length/\p.line[i]?=some z/\(p.line++[t.n]).take (i+1)=p.line.take (i+1))\/(i=p.line.length/\z=t.n):=λi z hz=>by
   by_cases c:i<p.line.length
   .rw[YBO c]at hz;exact .inl ⟨c,hz,by rw[List.take_append_of_le_length (by omega)]⟩
   .have hi:=(YAh.mp hz).1;rw[YAq]at hi;have hi':i<p.line.length+1:=hi;have ei:i=p.line.length:=by omega
    subst ei;rw[YBq (YAj _),Nat.sub_self]at hz;exact .inr ⟨rfl,(Option.some.inj hz).symm⟩
  rcases YAk.mp hx with qx|qx<;>rcases YAk.mp hy with qy|qy
  .exact X.uniq x qx y qy i j z hi hj
  .rw[YAg.mp qy]at hj ⊢;rcases look j z hj with⟨c,h1,h2⟩|⟨c,h1⟩
   .show _=(p.line++[t.n]).take (j+1);rw[h2];exact X.uniq x qx p hp i j z hi h1
   .exact absurd (h1▸hi) (hfresh x qx i)
  .rw[YAg.mp qx]at hi ⊢;rcases look i z hi with⟨c,h1,h2⟩|⟨c,h1⟩
   .show(p.line++[t.n]).take (i+1)=_;rw[h2];exact X.uniq p hp y qy i j z h1 hj
   .exact absurd (h1▸hj) (hfresh y qy j)
  .rw[YAg.mp qx]at hi ⊢;rw[YAg.mp qy]at hj ⊢;show(p.line++[t.n]).take (i+1)=(p.line++[t.n]).take (j+1);rcases look i z hi with⟨c,h1,h2⟩|⟨c,h1⟩<;>rcases look j z hj with⟨c',h1',h2'⟩|⟨c',h1'⟩
   .rw[h2,h2'];exact X.uniq p hp p hp i j z h1 h1'
   .exact absurd (h1'▸h1) (hfresh p hp i)
   .exact absurd (h1▸h1') (hfresh p hp j)
   .rw[c,c']
 .rw[zb9];exact YAx _ X.start
 .rw[YAq];show x.line.length<ns.length+1;rcases YAk.mp hx with q|q
  .have:=X.few x q;omega
  .rw[YAg.mp q];show(p.line++[t.n]).length<_;rw[YAq];show p.line.length+1<_;omega
 .have old:∀x∈ns,∀z∈x.line,∃u∈ns++[⟨t.e,tt,p.h+t.d,lt,p.line++[t.n]⟩],∃v∈ns++[⟨t.e,tt,p.h+t.d,lt,p.line++[t.n]⟩],u.m=(runAt rs z).one/\v.m=(runAt rs z).oW/\v.h-u.h=(runAt rs z).rise:=λx q z hz=>by
   obtain⟨u,hu,v,hv,e⟩:=X.keep x q z hz;exact⟨u,YAx _ hu,v,YAx _ hv,e⟩
  rcases YAk.mp hx with q|q
  .exact old x q z hz
  .rw[YAg.mp q]at hz;rcases YAk.mp hz with hz|hz
   .exact old p hp z hz
   .rw[YAg.mp hz,era];rcases hg with⟨a,b,c⟩|⟨a,b,c⟩
    .exact⟨p,YAx _ hp,_,YAl _ YAi,a.symm,b,by show p.h+t.d-p.h=r.rise;omega⟩
    .exact⟨_,YAl _ YAi,p,YAx _ hp,b,a.symm,by show p.h-(p.h+t.d)=r.rise;omega⟩
def TreeOk.len{rs:List Run}{hs:List Int}{start:Int}{n:Nat}{ns:List Nd}(X:TreeOk rs hs start n ns):ns.length<=n:=by
 have h:=zaX (xs:=(List.range n).map Int.ofNat) X.nod λk hk=>by
  obtain⟨x,hx,rfl⟩:=mem_keys.mp hk
  have:=X.inm x hx
  refine YAF.mpr ⟨x.m.toNat,YBg.mpr (by omega),?_⟩;show((x.m.toNat:Nat):Int)=x.m;omega
 unfold zaw at h
 simpa using h
def Closed(cs:Nat->List Tri)(ns:List Nd)(m:Int):Prop:=∀t∈cs m.toNat,t.e∈zaw ns
def Closed.snoc(h:Closed cs ns m):Closed cs (ns++[x]) m:=λt ht=>by rw[zb9];exact YAx _ (h t ht)
def usable(hs:List Int)(rs:List Run):List Run:=rs.filter λr=>!hs.contains r.hand
def zm1{rs:List Run}{hs:List Int}{start:Int}{n:Nat}{ns:List Nd}{cs:Nat->List Tri}(VM:zay n rs)(X:TreeOk rs hs start n ns)(So:StepsOk rs hs rs.length cs)(hc:∀x∈ns,Closed cs ns x.m){j:Int}(c:Conn (usable hs rs) start j):j∈zaw ns:=by
 induction c with
 |refl=>exact X.start
 |go r c m e ih=>
  obtain⟨x,hx,ex⟩:=mem_keys.mp ih;obtain⟨mr,mc⟩:=YBa.mp m;have mc':hs.contains r.hand=false:=by simpa using mc
  obtain⟨i,hi⟩:=YBT mr;obtain⟨⟨t1,a1,a2⟩,t2,b1,b2⟩:=So.full i r (YAh.mp hi).1 hi mc';have cl:=hc x hx;rcases e with⟨rfl,rfl⟩|⟨rfl,rfl⟩
  .rw[<-a2];exact cl t1 (by rw[ex];exact a1)
  .rw[<-b2];exact cl t2 (by rw[ex];exact b1)
theorem zgN :∀{qd h:Int}{line:List Int}{e t:Int},walkF rs qd h line=some (e,t)->(∀z∈line,hs.contains (runAt rs z).hand=false)->Conn (usable hs rs) qd e
 |qd,h,[],e,t,q,_=>by
  have:(qd,h)=(e,t):=Option.some.inj q
  injection this with a b
  subst a;exact .refl _
 |qd,h,n::rest,e,t,q,hu=>by
  have hin:=zhs q n YAi;have q':(if 0<=n/\n<(rs.length:Int)then(match zbq (runAt rs n) qd with|some (e,d)=>walkF rs e (h+d) rest|none=>none)else none)=some (e,t):=q;rw[if_pos hin]at q';have mr:=(zdL hin.1 hin.2).2.2;have mu:runAt rs n∈usable hs rs:=YBa.mpr ⟨mr,by rw[hu n YAi];rfl⟩;cases hs':zbq (runAt rs n) qd with
  |none=>rw[hs']at q';cases q'
  |some ed=>
   rw[hs']at q';have ih:=zgN q' λz hz=>hu z (YAp _ hz);refine Conn.trans ?_ ih;unfold zbq at hs';by_cases c1:qd=(runAt rs n).one
   .rw[if_pos c1]at hs';cases hs';exact .go _ (.refl _) mu (.inl ⟨c1.symm,rfl⟩)
   .rw[if_neg c1]at hs';by_cases c2:qd=(runAt rs n).oW
    .rw[if_pos c2]at hs';cases hs';exact .go _ (.refl _) mu (.inr ⟨c2.symm,rfl⟩)
    .rw[if_neg c2]at hs';cases hs'
def zmg{rs:List Run}{hs:List Int}{start:Int}{n:Nat}{ns:List Nd}{cs:Nat->List Tri}(VM:zay n rs)(X:TreeOk rs hs start n ns)(So:StepsOk rs hs rs.length cs)(hc:∀x∈ns,Closed cs ns x.m)(j:Int):j∈zaw ns↔Conn (usable hs rs) start j:=by
 refine⟨λh=>?_,zm1 VM X So hc⟩;obtain⟨x,hx,rfl⟩:=mem_keys.mp h;exact zgN (X.walk x hx) λz hz=>(X.runs x hx z hz).2.2.1
structure TreeH(K:qg)(H:Hp)(dt:Addr)(ns:List Nd):Prop where
 dict:H dt=some (.dK (ns.map ndK))
 node:∀x∈ns,H x.t=some (.tup [.int x.h,.ref x.lt])/\SqT K H x.lt (x.line.map V.int)
def TreeH.same(X:TreeH K H dt ns)(S:Same H H'):TreeH K H' dt ns:=
 ⟨S _ _ X.dict,λx hx=>⟨S _ _ (X.node x hx).1,zck (tp:=true) S (X.node x hx).2⟩⟩
def zoB:HO->Prop
 |.tup _=>False
 |.frz _ _=>False
 |_=>True
def zex(h:SqT K H a xs)(hd:H d=some o)(hn:zoB o):SqT K (upd H d o') a xs:=by
 rcases h with(h|⟨ob,h⟩)|h
 .have:a≠d:=λz=>by rw[z,hd]at h;cases h;exact hn
  exact .inl (.inl (by rw[zaf this];exact h))
 .have:a≠d:=λz=>by rw[z,hd]at h;cases h;exact hn
  exact .inl (.inr ⟨ob,by rw[zaf this];exact h⟩)
 .exact .inr h
def zer(h:H a=some (.tup xs))(hd:H d=some o)(hn:zoB o):upd H d o' a=some (.tup xs):=by
 have:a≠d:=λz=>by rw[z,hd]at h;cases h;exact hn
 rw[zaf this];exact h
theorem TreeH.upd(X:TreeH K H dt ns)(hd:H d=some o)(hn:zoB o)(ne:dt≠d):TreeH K (L2.upd H d o') dt ns:=
 ⟨by rw[zaf ne];exact X.dict,λx hx=>⟨zer (X.node x hx).1 hd hn,zex (X.node x hx).2 hd hn⟩⟩
def valV_none:valV (ns.map ndK) (Sum.inl k)=none↔k∉zaw ns:=by
 constructor
 .intro h hk;obtain⟨x,hx,rfl⟩:=mem_keys.mp hk;exact zoC h (YAF.mpr ⟨ndK x,YAQ hx,rfl⟩)
 .intro h;cases e:valV (ns.map ndK) (Sum.inl k)with
  |none=>rfl
  |some v=>
   obtain⟨y,hy,ey⟩:=YAF.mp (zmS e);obtain⟨x,hx,rfl⟩:=YAF.mp hy;exact absurd (mem_keys.mpr ⟨x,hx,Sum.inl.inj ey⟩) h
def zfm(hn:(zaw ns).Nodup)(hx:x∈ns):valV (ns.map ndK) (Sum.inl x.m)=some (.ref x.t):=by
 induction ns with
 |nil=>cases hx
 |cons y ns ih=>
  unfold zaw at hn;rw[YAb,YBl]at hn;rw[YAb];rcases YAn.mp hx with rfl|q
  .exact zfh (p:=ndK x) rfl
  .have:¬ (ndK y).1=Sum.inl x.m:=λz=>hn.1 (by rw[show y.m=x.m from Sum.inl.inj z];exact YAQ q)
   rw[zfc this];exact ih hn.2 q
structure TI(K:qg)(H0:Hp)(rs:List Run)(hs:List Int)(start:Int)(n:Nat)(dt ln lf:Addr)(nw:List Int)(c0:Nat)(H:Hp)(ns:List Nd)(fr:List Int):Prop where
 same:Same H0 H
 th:TreeH K H dt ns
 tok:TreeOk rs hs start n ns
 hln:H ln=some (.lst (nw.map V.int))
 hlf:H lf=some (.lst (fr.map V.int))
 frk:∀z∈fr,z∈zaw ns
 nwk:∀z∈nw,z∈zaw ns
 cnt:ns.length=c0+fr.length
def TI.grow{K:qg}{H0:Hp}{rs:List Run}{hs:List Int}{start:Int}{n:Nat}{dt ln lf:Addr}{nw:List Int}{c0:Nat}{H H':Hp}{ns:List Nd}{fr:List Int}(X:TI K H0 rs hs start n dt ln lf nw c0 H ns fr)(S:Same H H'):TI K H0 rs hs start n dt ln lf nw c0 H' ns fr:=
 ⟨X.same.trans S,X.th.same S,X.tok,S _ _ X.hln,S _ _ X.hlf,X.frk,X.nwk,X.cnt⟩
theorem TI.add{K:qg}{H0:Hp}{rs:List Run}{hs:List Int}{start:Int}{n:Nat}{dt ln lf:Addr}{nw:List Int}{c0:Nat}{H:Hp}{ns:List Nd}{fr:List Int}(X:TI K H0 rs hs start n dt ln lf nw c0 H ns fr)(VM:zay n rs)(fd:H0 dt=none)(fl:H0 lf=none)(nll:ln≠lf)
  {p:Nd} (hp:p∈ns) {t:Tri} (hg:zi7 rs hs rs.length p.m.toNat t) (hn:t.e∉zaw ns) {tt lt:Addr} (htt:H tt=some (.tup [.int (p.h+t.d),.ref lt])) (hlt:SqT K H lt ((p.line++[t.n]).map V.int)) :
  TI K H0 rs hs start n dt ln lf nw c0 (upd (upd H dt (.dK (putK (ns.map ndK) (Sum.inl t.e) (.ref tt)))) lf (.lst (fr.map V.int++[.int t.e]))) (ns++[⟨t.e,tt,p.h+t.d,lt,p.line++[t.n]⟩]) (fr++[t.e]):=by
 have ndl:dt≠lf:=λz=>by have:=X.th.dict;rw[z,X.hlf]at this;cases this
 have nln:ln≠dt:=λz=>by have:=X.hln;rw[z,X.th.dict]at this;cases this
 have ep:putK (ns.map ndK) (Sum.inl t.e) (.ref tt)=(ns++[(⟨t.e,tt,p.h+t.d,lt,p.line++[t.n]⟩:Nd)]).map ndK:=by
  rw[zkv _ (valV_none.mpr hn),YAy];rfl
 have hlf1:upd H dt (.dK (putK (ns.map ndK) (Sum.inl t.e) (.ref tt))) lf=some (.lst (fr.map V.int)):=by rw[zaf ndl.symm];exact X.hlf
 refine⟨λc o e=>?_,⟨?_,λx hx=>?_⟩,X.tok.add VM hp hg hn,?_,?_,λz hz=>?_,λz hz=>?_,?_⟩
 .rw[zaf (zae e fl),zaf (zae e fd)];exact X.same c o e
 .rw[zaf ndl,zac,ep]
 .have hh:H x.t=some (.tup [.int x.h,.ref x.lt])/\SqT K H x.lt (x.line.map V.int):=by
   rcases YAk.mp hx with q|q
   .exact X.th.node x q
   .rw[YAg.mp q];exact⟨htt,hlt⟩
  exact⟨zer (zer hh.1 X.th.dict trivial) hlf1 trivial,zex (zex hh.2 X.th.dict trivial) hlf1 trivial⟩
 .rw[zaf nll,zaf nln];exact X.hln
 .rw[zac,YAy];rfl
 .rw[zb9];rcases YAk.mp hz with q|q
  .exact YAx _ (X.frk z q)
  .exact YAl _ (by rw[YAg.mp q];exact YAi)
 .rw[zb9];exact YAx _ (X.nwk z hz)
 .rw[YAq,YAq,X.cnt];show _+1=_+(_+1);omega
abbrev PN:=Int×Int×List Int
def zbu(x:Nd):PN:=(x.m,x.h,x.line)
def zbN(tr:List PN)(m:Int):PN:=(tr.find? λp=>decide (p.1=m)).getD (0,0,[])
def ex1(p:PN)(st:List PN×List Int)(t:Int×Int×Int):List PN×List Int:=if t.2.1∈st.1.map (·.1)then st else(st.1++[(t.2.1,p.2.1+t.2.2,p.2.2++[t.1])],st.2++[t.2.1])
def exM(S:Nat->List (Int×Int×Int))(st:List PN×List Int)(m:Int):List PN×List Int:=(S m.toNat).foldl (ex1 (zbN st.1 m)) st
def exL(S:Nat->List (Int×Int×Int))(tr:List PN)(nw:List Int):List PN×List Int:=nw.foldl (exM S) (tr,[])
def itT(S:Nat->List (Int×Int×Int))(start:Int):Nat->List PN×List Int
 |0=>([(start,0,[])],[start])
 |k+1=>exL S (itT S start k).1 (itT S start k).2
def TreeIs(S:Nat->List (Int×Int×Int))(start:Int)(tr:List PN):Prop:=∃k,itT S start k=(tr,[])
theorem zhV{S:Nat->List (Int×Int×Int)}{start:Int}{k:Nat}{tr:List PN}(h:itT S start k=(tr,[])):∀j,itT S start (k+j)=(tr,[])
 |0=>h
 |j+1=>by
  show exL S (itT S start (k+j)).1 (itT S start (k+j)).2=_;rw[zhV h j];rfl
def TreeIs.uniq{S:Nat->List (Int×Int×Int)}{start:Int}{a b:List PN}(x:TreeIs S start a)(y:TreeIs S start b):a=b:=by
 obtain⟨i,hi⟩:=x;obtain⟨j,hj⟩:=y;have h1:=zhV hi j;have h2:=zhV hj i;rw[Nat.add_comm]at h2;rw[h1]at h2;exact(Prod.mk.inj h2).1
def zeI{α β:Type}(f:β->α->β)(s:β){xs:List α}{j:Nat}{x:α}(h:xs[j]?=some x):(xs.take (j+1)).foldl f s=f ((xs.take j).foldl f s) x:=by
 rw[zcd h,List.foldl_append];rfl
def zb7(hn:(zaw ns).Nodup)(hx:x∈ns):zbN (ns.map zbu) x.m=zbu x:=by
 unfold zbN
 induction ns with
 |nil=>cases hx
 |cons y ns ih=>
  unfold zaw at hn;rw[YAb,YBl]at hn;rw[YAb,YB1];rcases YAn.mp hx with rfl|q
  .simp[zbu]
  .have:¬ (zbu y).1=x.m:=λz=>hn.1 (by rw[show y.m=x.m from z];exact YAQ q)
   rw[show decide ((zbu y).1=x.m)=false from YAN this];exact ih hn.2 q
def zim(ns:List Nd):(ns.map zbu).map (·.1)=zaw ns:=by unfold zaw;rw[YAK];rfl
noncomputable def zjO(K:qg):Sp:=λvs H Q _=>∃(start:Int)(ls:Addr)(n:Nat)(ad:List Addr)(cs:Nat->List Tri)(rs:List Run)(hs:List Int),vs=[.int start,.ref ls]/\0<=start/\start<n/\Steps H ls ad cs/\ad.length=n/\StepsOk rs hs rs.length cs/\zay n rs/\n<=1000/\rs.length<=1000 /\
 ∀(dt:Addr)(ns:List Nd) H',Same H H'->H dt=none->TreeH K H' dt ns->TreeOk rs hs start n ns->(∀j,j∈zaw ns↔Conn (usable hs rs) start j)->TreeIs (stepsF rs hs rs.length) start (ns.map zbu)->Q (.ref dt) H'
abbrev Ntr:List Str:=["start","steps","tree","newest","fresh","mark","height","line","number","end","rise"]
noncomputable def SL(K:qg)(H:Hp)(n:Nat)(rs:List Run)(hs:List Int)(one oW:Int)(v:V):Prop:=
 ∃ns:List Nd,TreeOk rs hs one n ns/\TreeIs (stepsF rs hs rs.length) one (ns.map zbu)/\(∀j,j∈zaw ns↔Conn (usable hs rs) one j)/\((v=.non/\oW∉zaw ns)\/∃x∈ns,x.m=oW/\v=.ref x.lt/\SqT K H x.lt (x.line.map V.int))
def zjE(hn:(zaw ns).Nodup)(hx:x∈ns)(e:x.m=k):zbu x=zbN (ns.map zbu) k:=by rw[<-e,zb7 hn hx]
theorem zkc(S:Nat->List (Int×Int×Int))(start:Int):∀k,∃rest,(itT S start k).1=(start,0,[])::rest
 |0=>⟨[],rfl⟩
 |k+1=>by
  have one:∀(p:PN)(ts:List (Int×Int×Int))(st:List PN×List Int),(∃rest,st.1=(start,0,[])::rest)->∃rest,(ts.foldl (ex1 p) st).1=(start,0,[])::rest:=λp ts=>by
   induction ts with
   |nil=>intro st h;exact h
   |cons t ts ih=>
    intro st h;rw[YDa];refine ih _ ?_;unfold ex1;split
    .exact h
    .obtain⟨rest,e⟩:=h;exact⟨rest++_,by show st.1++_=_;rw[e];rfl⟩
  have two:∀(nw:List Int)(st:List PN×List Int),(∃rest,st.1=(start,0,[])::rest)->∃rest,(nw.foldl (exM S) st).1=(start,0,[])::rest:=λnw=>by
   induction nw with
   |nil=>intro st h;exact h
   |cons m nw ih=>
    intro st h;rw[YDa];exact ih _ (one _ _ _ h)
  exact two _ _ (zkc S start k)
def TreeOk.lineNodup{rs:List Run}{hs:List Int}{start:Int}{n:Nat}{ns:List Nd}(X:TreeOk rs hs start n ns){x:Nd}(hx:x∈ns):x.line.Nodup:=by
 refine YA4.mpr λi j hi hj hij e=>?_;have h:=X.uniq x hx x hx i j x.line[i] (YAe hi) (by rw[e];exact YAe hj)
 have:=congrArg List.length h
 rw[YA8,YA8]at this;omega
noncomputable def zk3(K:qg):Sp:=λvs H Q _=>∃(n:Nat)(a s:Addr)(rs:List Run)(hs:List Int)(one oW:Int),vs=[.int n,.ref a,.ref s,.int one,.int oW]/\SqL K H a (rs.map runV)/\Runs K H rs/\zay n rs/\SqL K H s (hs.map V.int)/\0<=one/\one<n/\n<=1000/\rs.length<=1000 /\
 ∀v H',Same H H'->SL K H' n rs hs one oW v->Q v H'
structure TR where
 d:Addr
 st:Int
 ns:List Nd
def trV(t:TR):V:=.ref t.d
structure TreeAt(K:qg)(H:Hp)(n:Nat)(rs:List Run)(hs:List Int)(t:TR):Prop where
 th:TreeH K H t.d t.ns
 tok:TreeOk rs hs t.st n t.ns
 keys:∀j,j∈zaw t.ns↔Conn (usable hs rs) t.st j
 is:TreeIs (stepsF rs hs rs.length) t.st (t.ns.map zbu)
 b0:0<=t.st
 b1:t.st<n
def Firsts(k:Nat)(rs:List Run)(sts:List Int):Prop:=sts.Pairwise (·<·)/\∀m,m∈sts↔(0<=m/\m<k/\∀j,0<=j->j<m->¬ Conn rs j m)
theorem TreeAt.same(x:TreeAt K H n rs hs t)(S:Same H H'):TreeAt K H' n rs hs t:=⟨x.th.same S,x.tok,x.keys,x.is,x.b0,x.b1⟩
theorem TreeAt.upd(x:TreeAt K H n rs hs t)(hd:H d=some o)(hn:zoB o)(ne:t.d≠d):TreeAt K (L2.upd H d o') n rs hs t:=⟨x.th.upd hd hn ne,x.tok,x.keys,x.is,x.b0,x.b1⟩
def Firsts.no(x:Firsts k rs sts)(h:∃m:Int,0<=m/\m<k/\Conn rs m k):Firsts (k+1) rs sts:=by
 refine⟨x.1,λm=>(x.2 m).trans ⟨λ⟨a,b,c⟩=>⟨a,by omega,c⟩,λ⟨a,b,c⟩=>⟨a,?_,c⟩⟩⟩;by_cases e:m=k
 .subst e;obtain⟨q,q0,q1,qc⟩:=h;exact absurd qc (c q q0 q1)
 .omega
def Firsts.yes(x:Firsts k rs sts)(h:¬ ∃m:Int,0<=m/\m<k/\Conn rs m k):Firsts (k+1) rs (sts++[(k:Int)]):=by
 refine⟨?_,λm=>?_⟩
 .rw[YBS];refine⟨x.1,by simp,λa ha b hb=>?_⟩
  have:=(x.2 a).mp ha
  rw[YAg.mp hb];exact this.2.1
 .rw[YAk,YAg,x.2 m];constructor
  .rintro(⟨a,b,c⟩|rfl)
   .exact⟨a,by omega,c⟩
   .exact⟨by omega,by omega,λj j0 j1 c=>h ⟨j,j0,j1,c⟩⟩
  .rintro⟨a,b,c⟩;by_cases e:m=k
   .exact .inr e
   .exact .inl ⟨a,by omega,c⟩
noncomputable def zdx(K:qg):Sp:=λvs H Q _=>∃(n:Nat)(a s:Addr)(rs:List Run)(hs:List Int),vs=[.int n,.ref a,.ref s]/\SqL K H a (rs.map runV)/\Runs K H rs/\zay n rs/\SqL K H s (hs.map V.int)/\n<=1000/\rs.length<=1000 /\
 ∀(lt:Addr)(ts:List TR) H',Same H H'->H lt=none->H' lt=some (.lst (ts.map trV))->(∀t∈ts,TreeAt K H' n rs hs t)->Firsts n (usable hs rs) (ts.map TR.st)->ts.length<=n->(∀t∈ts,H t.d=none)->(ts.map TR.d).Nodup->Q (.ref lt) H'
def zcu(rs:List Run):usable [] rs=rs:=by unfold usable;exact YDj.mpr λr _=>rfl
theorem zhJ{rs:List Run}{f:Int->Int}(hf:∀r∈rs,f r.oW-f r.one=r.rise):∀{qd h:Int}{line:List Int}{e t:Int},walkF rs qd h line=some (e,t)->t-h=f e-f qd
 |qd,h,[],e,t,q=>by
  have:(qd,h)=(e,t):=Option.some.inj q
  injection this with a b
  subst a b;omega
 |qd,h,n::rest,e,t,q=>by
  have hin:=zhs q n YAi;have q':(if 0<=n/\n<(rs.length:Int)then(match zbq (runAt rs n) qd with|some (e,d)=>walkF rs e (h+d) rest|none=>none)else none)=some (e,t):=q;rw[if_pos hin]at q';have hr:=hf _ (zdL hin.1 hin.2).2.2;cases hs':zbq (runAt rs n) qd with
  |none=>rw[hs']at q';cases q'
  |some ed=>
   rw[hs']at q';have ih:=zhJ hf q';unfold zbq at hs';by_cases c1:qd=(runAt rs n).one
   .rw[if_pos c1]at hs';cases hs';rw[c1];show t-h=_
    have:t-(h+(runAt rs n).rise)=f e-f (runAt rs n).oW:=ih
    omega
   .rw[if_neg c1]at hs';by_cases c2:qd=(runAt rs n).oW
    .rw[if_pos c2]at hs';cases hs';rw[c2]
     have:t-(h+-(runAt rs n).rise)=f e-f (runAt rs n).one:=ih
     omega
    .rw[if_neg c2]at hs';cases hs'
def zlN(X:TreeAt K H n rs hs t)(hx:x∈t.ns)(e:x.m=t.st):x.h=0:=by
 obtain⟨k,hk⟩:=X.is;obtain⟨rest,hr⟩:=zkc (stepsF rs hs rs.length) t.st k;rw[hk]at hr;have hr':t.ns.map zbu=(t.st,0,[])::rest:=hr;have e1:=zjE X.tok.nod hx e;rw[hr']at e1;have e2:zbN ((t.st,0,[])::rest) t.st=(t.st,0,[]):=by unfold zbN;rw[YB1];simp
 rw[e2]at e1;unfold zbu at e1;injection e1 with _ e1
 exact(Prod.mk.inj e1).1
def zks :∀(i:Nat)(j:Int),(i:Int)<k->Conn rs i j->∃m:Int,0<=m/\m<=i/\Conn rs m j/\∀q,0<=q->q<m->¬ Conn rs q m:=by
 intro i
 induction i using Nat.strongRecOn with
 |_ i ih=>
  intro j hi hc;by_cases h:∃q:Nat,q<i/\Conn rs q i
  .obtain⟨q,hq,qc⟩:=h;obtain⟨m,m0,m1,mc,mf⟩:=ih q hq j (by omega) (qc.trans hc);exact⟨m,m0,by omega,mc,mf⟩
  .refine⟨i,by omega,by omega,hc,λq q0 q1 qc=>h ⟨q.toNat,by omega,?_⟩⟩;rw[YBw q0];exact qc
def zdI{K:qg}{H:Hp}{n:Nat}{rs:List Run}{hs:List Int}{ts:List TR}(ht:∀t∈ts,TreeAt K H n rs hs t)(hF:Firsts n (usable hs rs) (ts.map TR.st)){i:Int}(h0:0<=i)(h1:i<n):∃t∈ts,∃x∈t.ns,x.m=i:=by
 have hi:((i.toNat:Nat):Int)=i:=by omega
 obtain⟨m,m0,m1,mc,mf⟩:=zks (rs:=usable hs rs) (k:=n) i.toNat i (by omega) (by rw[hi];exact .refl _);have hm:=(hF.2 m).mpr ⟨m0,by omega,mf⟩;obtain⟨t,htm,e⟩:=YAF.mp hm;have hk:=((ht t htm).keys i).mpr (by rw[e];exact mc);obtain⟨x,hx,ex⟩:=mem_keys.mp hk;exact⟨t,htm,x,hx,ex⟩
def zmo{K:qg}{H:Hp}{n:Nat}{rs:List Run}{hs:List Int}{ts:List TR}(ht:∀t∈ts,TreeAt K H n rs hs t)(hF:Firsts n (usable hs rs) (ts.map TR.st)){t u:TR}(a:t∈ts)(b:u∈ts){x y:Nd}(hx:x∈t.ns)(hy:y∈u.ns)(e:x.m=y.m):x.h=y.h:=by
 have T:=ht t a;have U:=ht u b;have c1:=(T.keys x.m).mp (mem_keys.mpr ⟨x,hx,rfl⟩);have c2:=(U.keys y.m).mp (mem_keys.mpr ⟨y,hy,rfl⟩);rw[e]at c1;have c:=c1.trans c2.symm;have f1:=(hF.2 t.st).mp (YAQ a);have f2:=(hF.2 u.st).mp (YAQ b);have es:t.st=u.st:=by
  rcases Int.lt_trichotomy t.st u.st with q|q|q
  .exact absurd c (f2.2.2 _ f1.1 q)
  .exact q
  .exact absurd c.symm (f1.2.2 _ f2.1 q)
 have ei:=T.is;rw[es]at ei;have en:=ei.uniq U.is;have e1:zbu x=zbu y:=by rw[zjE T.tok.nod hx e,zjE U.tok.nod hy rfl,en]
 unfold zbu at e1;injection e1 with _ e1
 exact(Prod.mk.inj e1).1
def zeO(n:Nat)(rs:List Run)(hts:List Int):Prop:=hts.length=n/\HtOk rs hts/\∀m:Int,0<=m->m<n->(∀j,0<=j->j<m->¬ Conn rs j m)->gI hts m=0
noncomputable def zqI(K:qg):Sp:=λvs H Q _=>∃(n:Nat)(a:Addr)(rs:List Run),vs=[.int n,.ref a]/\SqL K H a (rs.map runV)/\Runs K H rs/\zay n rs/\n<=1000/\rs.length<=1000 /\
 (∀H',Same H H'->zgl rs->Q .non H')/\∀(l:Addr)(hts:List Int) H',Same H H'->H l=none->H' l=some (.lst (hts.map V.int))->zeO n rs hts->Q (.ref l) H'
def holds_iff :(rs.map (zgf hts)).all id=true↔HtOk rs hts:=by
 rw[YCl];constructor
 .intro h r hr
  have:=h _ (YAQ hr)
  exact YA7 this
 .intro h b hb;obtain⟨r,hr,rfl⟩:=YAF.mp hb;exact YAH (h r hr)
structure GR where
 a:Addr
 st:Int
 ms:List Int
def grV(g:GR):V:=.ref g.a
def zpJ(n:Nat)(rs:List Run)(g:GR):Prop:=g.ms.Pairwise (·<·)/\∀j,j∈g.ms↔0<=j/\j<n/\Conn rs g.st j
structure GrpsAt(H:Hp)(l:Addr)(n:Nat)(rs:List Run)(gs:List GR):Prop where
 lst:H l=some (.lst (gs.map grV))
 rows:∀g∈gs,H g.a=some (.lst (g.ms.map V.int))/\zpJ n rs g
 firsts:Firsts n rs (gs.map GR.st)
def zor(K:qg):Sp:=λvs H Q _=>∃(n:Nat)(a:Addr)(rs:List Run),vs=[.int n,.ref a]/\SqL K H a (rs.map runV)/\Runs K H rs/\zay n rs/\n<=60/\rs.length<=1000 /\
 ∀(l:Addr)(gs:List GR) H',Same H H'->H l=none->GrpsAt H' l n rs gs->(∀g∈gs,H g.a=none)->Q (.ref l) H'
def zoz:(["tree"]:List Str).Nodup:=by decide +kernel
def comm:List Int->List Int->Nat
 |a::as,b::bs=>if a=b then comm as bs+1 else 0
 |_,_=>0
theorem zjp:∀{A B:List Int}{k:Nat},k<=A.length->k<=B.length->A.take k=B.take k->(k=A.length\/k=B.length\/A[k]?≠B[k]?)->k=comm A B
 |[],B,k,h1,_,_,_=>by
  have:k=0:=by simpa using h1
  subst this;cases B<;>rfl
 |a::as,[],k,_,h2,_,_=>by
  have:k=0:=by simpa using h2
  subst this;rfl
 |a::as,b::bs,0,_,_,_,h=>by
  have:a≠b:=by
   rcases h with h|h|h
   .simp at h
   .simp at h
   .intro z;exact h (by simp[z])
  unfold comm;rw[if_neg this]
 |a::as,b::bs,k+1,h1,h2,h3,h=>by
  rw[YB2,YB2]at h3;injection h3 with e1 e2
  unfold comm;rw[if_pos e1,<-zjp (k:=k) (by simpa using h1) (by simpa using h2) e2 (by simpa using h)]
theorem zd6:∀(A B:List Int),comm A B<=A.length/\comm A B<=B.length/\A.take (comm A B)=B.take (comm A B)/\(∀a b,A[comm A B]?=some a->B[comm A B]?=some b->a≠b)
 |[],B=>by cases B<;>simp[comm]
 |a::as,[]=>by simp[comm]
 |a::as,b::bs=>by
  unfold comm;by_cases e:a=b
  .rw[if_pos e];obtain⟨h1,h2,h3,h4⟩:=zd6 as bs;refine⟨by simpa using h1,by simpa using h2,by rw[YB2,YB2,e,h3],λx y hx hy=>h4 x y (by simpa using hx) (by simpa using hy)⟩
  .rw[if_neg e];exact⟨YAC _,YAC _,rfl,λx y hx hy=>by simp at hx hy;rw[<-hx,<-hy];exact e⟩
def zbf(A B:List Int):List Int:=(A.drop (comm A B)).reverse++B.drop (comm A B)
theorem zfv:∀{qd h:Int}{l1 l2:List Int}{e t:Int},walkF rs qd h l1=some (e,t)->walkF rs qd h (l1++l2)=walkF rs e t l2
 |qd,h,[],l2,e,t,q=>by
  have:(qd,h)=(e,t):=Option.some.inj q
  injection this with a b
  subst a b;rfl
 |qd,h,n::rest,l2,e,t,q=>by
  rw[YDS];show(if 0<=n/\n<(rs.length:Int)then _ else _)=_;have q':(if 0<=n/\n<(rs.length:Int)then(match zbq (runAt rs n) qd with|some (e,d)=>walkF rs e (h+d) rest|none=>none)else none)=some (e,t):=q;by_cases c:0<=n/\n<(rs.length:Int)
  .rw[if_pos c]at q' ⊢;cases hs:zbq (runAt rs n) qd with
   |none=>rw[hs]at q';cases q'
   |some ed=>rw[hs]at q';exact zfv q'
  .rw[if_neg c]at q';cases q'
theorem zfN:∀{l1:List Int}{qd h:Int}{l2:List Int}{r:Int×Int},walkF rs qd h (l1++l2)=some r->∃e t,walkF rs qd h l1=some (e,t)/\walkF rs e t l2=some r
 |[],qd,h,l2,r,q=>⟨qd,h,rfl,q⟩
 |n::rest,qd,h,l2,r,q=>by
  rw[YDS]at q;have q':(if 0<=n/\n<(rs.length:Int)then(match zbq (runAt rs n) qd with|some (e,d)=>walkF rs e (h+d) (rest++l2)|none=>none)else none)=some r:=q;by_cases c:0<=n/\n<(rs.length:Int)
  .rw[if_pos c]at q';cases hs:zbq (runAt rs n) qd with
   |none=>rw[hs]at q';cases q'
   |some ed=>
    rw[hs]at q';obtain⟨e,t,h1,h2⟩:=zfN q';exact⟨e,t,by rw[zeb c.1 c.2 (show zbq (runAt rs n) qd=some (ed.1,ed.2)from hs)];exact h1,h2⟩
  .rw[if_neg c]at q';cases q'
theorem zfk(d:Int):∀{l:List Int}{qd h e t:Int},walkF rs qd h l=some (e,t)->walkF rs qd (h+d) l=some (e,t+d)
 |[],qd,h,e,t,q=>by
  have:(qd,h)=(e,t):=Option.some.inj q
  injection this with a b
  subst a b;rfl
 |n::rest,qd,h,e,t,q=>by
  have q':(if 0<=n/\n<(rs.length:Int)then(match zbq (runAt rs n) qd with|some (e,d)=>walkF rs e (h+d) rest|none=>none)else none)=some (e,t):=q;by_cases c:0<=n/\n<(rs.length:Int)
  .rw[if_pos c]at q';cases hs:zbq (runAt rs n) qd with
   |none=>rw[hs]at q';cases q'
   |some ed=>
    rw[hs]at q';rw[zeb c.1 c.2 (show zbq (runAt rs n) qd=some (ed.1,ed.2)from hs),show h+d+ed.2=h+ed.2+d by omega];exact zfk d q'
  .rw[if_neg c]at q';cases q'
def zkX(hu:r.one≠r.oW)(h:zbq r qd=some (e,d)):zbq r e=some (qd,-d):=by
 unfold zbq at h ⊢;by_cases c:qd=r.one
 .rw[if_pos c]at h;injection h with h;injection h with h1 h2
  rw[<-h1,<-h2,if_neg (Ne.symm hu),if_pos rfl,c]
 .rw[if_neg c]at h;by_cases c2:qd=r.oW
  .rw[if_pos c2]at h;injection h with h;injection h with h1 h2
   rw[<-h1,<-h2,if_pos rfl,c2,Int.neg_neg]
  .rw[if_neg c2]at h;cases h
theorem ziD(hu:∀r∈rs,r.one≠r.oW):∀{l:List Int}{qd h e t:Int},walkF rs qd h l=some (e,t)->walkF rs e t l.reverse=some (qd,h)
 |[],qd,h,e,t,q=>by
  have:(qd,h)=(e,t):=Option.some.inj q
  injection this with a b
  subst a b;rfl
 |n::rest,qd,h,e,t,q=>by
  have q':(if 0<=n/\n<(rs.length:Int)then(match zbq (runAt rs n) qd with|some (e,d)=>walkF rs e (h+d) rest|none=>none)else none)=some (e,t):=q;by_cases c:0<=n/\n<(rs.length:Int)
  .rw[if_pos c]at q';cases hs:zbq (runAt rs n) qd with
   |none=>rw[hs]at q';cases q'
   |some ed=>
    rw[hs]at q';rw[YDF,zfv (ziD hu q'),zeb c.1 c.2 (zkX (hu _ (zdL c.1 c.2).2.2) (show zbq (runAt rs n) qd=some (ed.1,ed.2)from hs))];show some (qd,h+ed.2+-ed.2)=_;rw[show h+ed.2+-ed.2=h by omega]
  .rw[if_neg c]at q';cases q'
def zjd{rs:List Run}(hu:∀r∈rs,r.one≠r.oW){start:Int}{A B:List Int}{a ha b hb:Int}(h1:walkF rs start 0 A=some (a,ha))(h2:walkF rs start 0 B=some (b,hb)):walkF rs a ha (zbf A B)=some (b,hb):=by
 obtain⟨_,_,e,_⟩:=zd6 A B;rw[<-YBb (comm A B) A]at h1;rw[<-YBb (comm A B) B]at h2;obtain⟨p,hp,q1,q2⟩:=zfN h1;obtain⟨p',hp',q3,q4⟩:=zfN h2;rw[<-e,q1]at q3;injection q3 with q3;injection q3 with z1 z2
 subst z1 z2;unfold zbf;rw[zfv (ziD hu q2)];exact q4
def zgM(h:z∈zbf A B):z∈A\/z∈B:=by
 unfold zbf at h;rcases YAk.mp h with h|h
 .exact .inl (YCB (YDQ.mp h))
 .exact .inr (YCB h)
def zgy(A B:List Int):(zbf A B).length<=A.length+B.length:=by
 unfold zbf;rw[YAq,YCH,YBf,YBf];omega
def TreeOk.acrossNodup{rs:List Run}{hs:List Int}{start:Int}{n:Nat}{ns:List Nd}(X:TreeOk rs hs start n ns){x y:Nd}(hx:x∈ns)(hy:y∈ns):(zbf x.line y.line).Nodup:=by
 obtain⟨c1,c2,c3,c4⟩:=zd6 x.line y.line;unfold zbf;rw[YCz];refine⟨List.pairwise_reverse.mpr (((X.lineNodup hx).sublist (YDI _ _)).imp λh=>Ne.symm h),(X.lineNodup hy).sublist (YDI _ _),λa ha b hb e=>?_⟩;subst e;obtain⟨i,hi⟩:=YBT (YDQ.mp ha);obtain⟨j,hj⟩:=YBT hb;rw[YDq]at hi hj;have h:=X.uniq x hx y hy _ _ a hi hj;have li:=(YAh.mp hi).1;have lj:=(YAh.mp hj).1;have hl:=congrArg List.length h;rw[YA8,YA8]at hl;have ij:i=j:=by omega
 subst ij;have p1:x.line[comm x.line y.line]?=some (x.line[comm x.line y.line]'(by omega)):=YAe (by omega);have p2:y.line[comm x.line y.line]?=some (y.line[comm x.line y.line]'(by omega)):=YAe (by omega);refine c4 _ _ p1 p2 ?_;have q1:(x.line.take (comm x.line y.line+i+1))[comm x.line y.line]?=(y.line.take (comm x.line y.line+i+1))[comm x.line y.line]?:=by rw[h]
 rw[YCc (by omega),YCc (by omega),p1,p2]at q1;exact Option.some.inj q1
def zhx(K:qg):Sp:=λvs H Q _=>∃(a b:Addr)(A B:List Int),vs=[.ref a,.ref b]/\SqT K H a (A.map V.int)/\SqT K H b (B.map V.int)/\A.length<=100/\B.length<=100/\∀p H',Same H H'->SqT K H' p ((zbf A B).map V.int)->Q (.ref p) H'
def zke{A:List Int}{k:Nat}(h:k<=A.length):cutV (A.map V.int) (some (k:Int)) none=(A.drop k).map V.int:=by
 unfold cutV;rw[HT.sIx_nat,HT.sIx_none,YAc,YD5 h,List.map_drop];exact YAT (by simp)
def zmn{A B:List Int}{k:Nat}(h:A.take k=B.take k)(ha:k<A.length)(hb:k<B.length)(e:gI A k=gI B k):A.take (k+1)=B.take (k+1):=by
 have g:∀L:List Int,k<L.length->L.take (k+1)=L.take k++[gI L k]:=λL hl=>by
  rw[YDH,YAe hl];unfold gI;rw[YAE,YAs,YAe hl];rfl
 rw[g A ha,g B hb,h,e]
def ringF(cs:List PN)(hs:List Int):Nat->List Run->Option (Int×List Int)
 |_,[]=>none
 |i,r::rest=>if hs.contains r.hand=false/\(zbN cs r.oW).2.1-(zbN cs r.one).2.1≠r.rise then some (r.one,(i:Int)::zbf (zbN cs r.oW).2.2 (zbN cs r.one).2.2)else ringF cs hs (i+1) rest
def zeG{cs:List PN}{hs:List Int}{i:Nat}{r:Run}{rest:List Run}:ringF cs hs i (r::rest)=if hs.contains r.hand=false/\(zbN cs r.oW).2.1-(zbN cs r.one).2.1≠r.rise then some (r.one,(i:Int)::zbf (zbN cs r.oW).2.2 (zbN cs r.one).2.2)else ringF cs hs (i+1) rest:=rfl
theorem zgu :∀{l:List Run}{i:Nat}{m:Int}{line:List Int},ringF cs hs i l=some (m,line)->∃(j:Nat)(r:Run),l[j]?=some r/\hs.contains r.hand=false/\(zbN cs r.oW).2.1-(zbN cs r.one).2.1≠r.rise/\m=r.one/\line=((i+j:Nat):Int)::zbf (zbN cs r.oW).2.2 (zbN cs r.one).2.2
 |[],i,m,line,h=>by cases h
 |r::rest,i,m,line,h=>by
  unfold ringF at h;by_cases c:hs.contains r.hand=false/\(zbN cs r.oW).2.1-(zbN cs r.one).2.1≠r.rise
  .rw[if_pos c]at h;injection h with h;injection h with h1 h2
   exact⟨0,r,rfl,c.1,c.2,h1.symm,h2.symm⟩
  .rw[if_neg c]at h;obtain⟨j,r',a1,a2,a3,a4,a5⟩:=zgu h;refine⟨j+1,r',by simpa using a1,a2,a3,a4,?_⟩;rw[a5,show i+1+j=i+(j+1) by omega]
theorem zgL :∀{l:List Run}{i:Nat},ringF cs hs i l=none->∀r∈l,hs.contains r.hand=false->(zbN cs r.oW).2.1-(zbN cs r.one).2.1=r.rise
 |[],i,h,r,hr,_=>by cases hr
 |q::rest,i,h,r,hr,hc=>by
  unfold ringF at h;by_cases c:hs.contains q.hand=false/\(zbN cs q.oW).2.1-(zbN cs q.one).2.1≠q.rise
  .rw[if_pos c]at h;cases h
  .rw[if_neg c]at h;rcases YAn.mp hr with rfl|hr
   .by_cases e:(zbN cs r.oW).2.1-(zbN cs r.one).2.1=r.rise
    .exact e
    .exact absurd ⟨hc,e⟩ c
   .exact zgL h r hr hc
def zbr(ts:List TR):List Nd:=ts.flatMap TR.ns
def zpY(K:qg)(H:Hp)(r:Option (Int×List Int))(v:V):Prop:=match r with
 |none=>v=.non
 |some ml=>∃p lt,v=.ref p/\H p=some (.tup [.int ml.1,.ref lt])/\SqT K H lt (ml.2.map V.int)
structure Reach(K:qg)(H:Hp)(n:Nat)(rs:List Run)(hs:List Int)(ts:List TR):Prop where
 trees:∀t∈ts,TreeAt K H n rs hs t
 firsts:Firsts n (usable hs rs) (ts.map TR.st)
 nod:(zaw (zbr ts)).Nodup
theorem Reach.same(x:Reach K H n rs hs ts)(S:Same H H'):Reach K H' n rs hs ts:=⟨λt ht=>(x.trees t ht).same S,x.firsts,x.nod⟩
def mem_reach:x∈zbr ts↔∃t∈ts,x∈t.ns:=YCp
def zje{K:qg}{H:Hp}{n:Nat}{rs:List Run}{hs:List Int}{ts:List TR}(ht:∀t∈ts,TreeAt K H n rs hs t)(hF:Firsts n (usable hs rs) (ts.map TR.st)){i j:Nat}{t u:TR}(hi:ts[i]?=some t)(hj:ts[j]?=some u)(ij:i<j){k:Int}(h1:k∈zaw t.ns)(h2:k∈zaw u.ns):False:=by
 have c1:=((ht t (YAz hi)).keys k).mp h1;have c2:=((ht u (YAz hj)).keys k).mp h2;have li:=(YAh.mp hi).1;have lj:=(YAh.mp hj).1;have lt:=YA4.mp hF.1 i j (by rw[YAc];exact li) (by rw[YAc];exact lj) ij;rw[YCE,YCE,(YAh.mp hi).2,(YAh.mp hj).2]at lt;have hu:=(hF.2 u.st).mp (YAQ (YAz hj));exact hu.2.2 t.st (ht t (YAz hi)).b0 lt (c1.trans c2.symm)
noncomputable def zrL(K:qg):Sp:=λvs H Q _=>∃(n:Nat)(a s:Addr)(rs:List Run)(hs:List Int),vs=[.int n,.ref a,.ref s]/\SqL K H a (rs.map runV)/\Runs K H rs/\zay n rs/\SqL K H s (hs.map V.int)/\n<=40/\rs.length<=1000 /\
 ∀(v:V)(ts:List TR) H',Same H H'->Reach K H' n rs hs ts->zpY K H' (ringF ((zbr ts).map zbu) hs 0 rs) v->Q v H'
abbrev Nr:List Str:=["size","runs","struck","reached","tree","number","one","other","rise","hand","low","to_one","high","to_other"]
def zio(hn:(zaw ns).Nodup)(hx:x∈ns)(hu:u∈ns)(e:x.m=u.m):x.h=u.h:=by
 have a:=zb7 hn hx;have b:=zb7 hn hu;rw[e,b]at a;unfold zbu at a;injection a with _ a
 exact(Prod.mk.inj a).1.symm
def zp9{K:qg}{H:Hp}{n:Nat}{rs:List Run}{hs:List Int}{ts:List TR}(X:Reach K H n rs hs ts)(VM:zay n rs)(hn:n<=40)(hu:∀r∈rs,r.one≠r.oW){m:Int}{line:List Int}(h:ringF ((zbr ts).map zbu) hs 0 rs=some (m,line)) :
  0<=m/\m<n/\line≠[]/\line.length<=90/\line.Nodup/\(∀z∈line,0<=z/\z<(rs.length:Int)/\hs.contains (runAt rs z).hand=false)/\∃t,walkF rs m 0 line=some (m,t)/\t≠0:=by
 obtain⟨j,r,hr,hc,hd,rfl,rfl⟩:=zgu h;rw[Nat.zero_add];have hrm:=YAz hr;have V0:=VM r hrm;have hjl:j<rs.length:=(YAh.mp hr).1;have era:runAt rs (j:Int)=r:=by
  have:=(zdL (rs:=rs) (i:=(j:Int)) (by omega) (by omega)).1
  rw[YAE,hr]at this;exact(Option.some.inj this).symm
 have hus:r∈usable hs rs:=by unfold usable;exact YBa.mpr ⟨hrm,by rw[hc];rfl⟩
 obtain⟨t,ht,x,hx,ex⟩:=zdI X.trees X.firsts V0.1 V0.2.1;have Tt:=X.trees t ht;have ho:r.oW∈zaw t.ns:=(Tt.keys _).mpr (((Tt.keys _).mp (mem_keys.mpr ⟨x,hx,ex⟩)).trans (Conn.edge hus));obtain⟨y,hy,ey⟩:=mem_keys.mp ho;have lx:=zb7 X.nod (mem_reach.mpr ⟨t,ht,hx⟩);have ly:=zb7 X.nod (mem_reach.mpr ⟨t,ht,hy⟩);rw[ex]at lx;rw[ey]at ly;rw[lx,ly]at hd ⊢;have hd':y.h-x.h≠r.rise:=hd;show 0<=r.one/\r.one<(n:Int)/\(j:Int)::zbf y.line x.line≠[]/\((j:Int)::zbf y.line x.line).length<=90/\((j:Int)::zbf y.line x.line).Nodup/\(∀z∈(j:Int)::zbf y.line x.line,_)/\∃t,walkF rs r.one 0 ((j:Int)::zbf y.line x.line)=some (r.one,t)/\t≠0;have few1:=Tt.tok.few x hx;have few2:=Tt.tok.few y hy;have tl:=Tt.tok.len;have al:=zgy y.line x.line;have nokeep:∀q:Nd,q∈t.ns->(j:Int)∉q.line:=λq hq hz=>by
  obtain⟨u,hu1,v,hv1,e1,e2,e3⟩:=Tt.tok.keep q hq _ hz;rw[era]at e1 e2 e3;have h1:=zio Tt.tok.nod hx hu1 (ex.trans e1.symm);have h2:=zio Tt.tok.nod hy hv1 (ey.trans e2.symm);omega
 refine⟨V0.1,V0.2.1,List.cons_ne_nil _ _,by rw[YAS];omega,YBl.mpr ⟨λhz=>?_,Tt.tok.acrossNodup hy hx⟩,λz hz=>?_,?_⟩
 .rcases zgM hz with q|q
  .exact nokeep y hy q
  .exact nokeep x hx q
 .rcases YAn.mp hz with rfl|hz
  .rw[era];exact⟨by omega,by omega,hc⟩
  .rcases zgM hz with q|q
   .obtain⟨a,b,c,_⟩:=Tt.tok.runs y hy z q;exact⟨a,b,c⟩
   .obtain⟨a,b,c,_⟩:=Tt.tok.runs x hx z q;exact⟨a,b,c⟩
 .have st:zbq (runAt rs (j:Int)) r.one=some (r.oW,r.rise):=by rw[era];unfold zbq;rw[if_pos rfl]
  have w1:=zjd hu (Tt.tok.walk y hy) (Tt.tok.walk x hx);rw[ey,ex]at w1;have w2:=zfk (r.rise-y.h) w1;refine⟨x.h+(r.rise-y.h),?_,by omega⟩;rw[zeb (by omega) (by omega) st,show(0:Int)+r.rise=y.h+(r.rise-y.h) by omega];exact w2
end Fen
namespace Fd
open PySem L2
def zaT(h:F ds P)(k:∀d,P d->Q d):up F ds Q:=⟨P,h,k⟩
def zpx(t:Tg)(C:WT)(E:WE)(Mc:Env)(x:D)(o:Option D):Prop:=∀(qe:D->Prop)(N:Prop),(match o with|some d=>qe d|none=>N)->gD t x Mc λM2=>C M2 λb=>if b=true then E M2 qe else N
theorem zcP{α:Type}(emb:α->D)(g:α->Option D):∀(xs:List α)(acc:List D),(∀x∈xs,zpx t C E Mc (emb x) (g x))->Q (acc++xs.filterMap g)->zbw t C E Mc Q (xs.map emb) acc
 |[],acc,_,q=>by simpa[zbw]using q
 |x::xs,acc,h,q=>by
  show gD t (emb x) Mc λM2=>C M2 λb=>if b=true then E M2 λd=>zbw t C E Mc Q (xs.map emb) (acc++[d])else zbw t C E Mc Q (xs.map emb) acc;refine h x YAi _ _ ?_;cases e:g x with
  |none=>
   refine zcP emb g xs acc (λy hy=>h y (YAp _ hy)) ?_;rw[YA1,e]at q;exact q
  |some d=>
   refine zcP emb g xs (acc++[d]) (λy hy=>h y (YAp _ hy)) ?_;rw[YA1,e]at q;rw[YAB];exact q
theorem zdN{α β:Type}(emb:α->D)(out:β->D)(R:α->β->Prop):∀(xs:List α)(ys:List β),(∀x∈xs,∀qe:D->Prop,(∀y,R x y->qe (out y))->gD t (emb x) Mc λM2=>C M2 λb=>b=true/\E M2 qe) ->
  zdF C->(∀zs:List β,zs.length=xs.length->(∀z∈zs,∃x∈xs,R x z)->Q ((ys++zs).map out))->zbw t C E Mc Q (xs.map emb) (ys.map out)
 |[],ys,_,_,q=>by simpa[zbw]using q [] rfl (λz h=>by cases h)
 |x::xs,ys,h,mC,q=>by
  show gD t (emb x) Mc λM2=>C M2 λb=>if b=true then E M2 λd=>zbw t C E Mc Q (xs.map emb) (ys.map out++[d])else zbw t C E Mc Q (xs.map emb) (ys.map out);refine zbo t (emb x) Mc (λM2 z=>mC M2 _ _ (λb z=>?_) z) (h x YAi (λd=>zbw t C E Mc Q (xs.map emb) (ys.map out++[d])) λy hy=>?_)
  .rw[z.1,if_pos rfl];exact z.2
  .have:=zdN (t:=t) (C:=C) (E:=E) (Mc:=Mc) (Q:=Q) emb out R xs (ys++[y]) (λx' hx'=>h x' (YAp _ hx')) mC (λzs hl hz=>by
    have:=q (y::zs) (by simp[hl]) (λz hz'=>by
     rcases YAn.mp hz' with e|e
     .exact⟨x,YAi,e▸hy⟩
     .obtain⟨x',h1,h2⟩:=hz z e;exact⟨x',YAp _ h1,h2⟩)
    simpa using this)
   simpa using this
def zed:zdF noIf:=λM Q Q' k q=>k _ q
theorem zaS(I:List D->Env->Prop)
  (hs:∀x rest M (E':En),(∀ M,I rest M->E'.nx M)->(∀ M,I rest M->E'.ct M)->(∀d,E.rt d->E'.rt d)->(∀ M,E.nx M->E'.bk M)->I (x::rest) M->gD t x M λM'=>B E' M') (hd:∀ M,I [] M->E.nx M) :
  ∀(xs:List D)(M:Env),I xs M->zbt t B E xs M
 |[],M,h=>hd M h
 |x::xs,M,h=>hs x xs M {nx:=zbt t B E xs,ct:=zbt t B E xs,bk:=E.nx,rt:=E.rt} (zaS I hs hd xs) (zaS I hs hd xs) (λd z=>z) (λM z=>z) h
theorem zfx(P:D->Prop)(I:List D->Env->Prop)
  (hs:∀x rest M (E':En),P x->(∀ M,I rest M->E'.nx M)->(∀ M,I rest M->E'.ct M)->(∀d,E.rt d->E'.rt d)->(∀ M,E.nx M->E'.bk M)->I (x::rest) M->gD t x M λM'=>B E' M') (hd:∀ M,I [] M->E.nx M) :
  ∀(xs:List D)(M:Env),(∀d∈xs,P d)->I xs M->zbt t B E xs M
 |[],M,_,h=>hd M h
 |x::xs,M,hp,h=>hs x xs M {nx:=zbt t B E xs,ct:=zbt t B E xs,bk:=E.nx,rt:=E.rt} (hp x YAi) (λM=>zfx P I hs hd xs M λd hd=>hp d (YAp _ hd)) (λM=>zfx P I hs hd xs M λd hd=>hp d (YAp _ hd)) (λd z=>z) (λM z=>z) h
theorem zfP{α:Type}(emb:α->D)(g:α->Option Int):∀(xs:List α)(acc:List Int),(∀x∈xs,zpx t C E Mc (emb x) ((g x).map D.int))->(∀ns:List Int,(∀k,k∈ns↔k∈acc\/k∈xs.filterMap g)->Q ns)->zcZ t C E Mc Q (xs.map emb) acc
 |[],acc,_,q=>by simpa[zcZ]using q acc (λk=>by simp)
 |x::xs,acc,h,q=>by
  show gD t (emb x) Mc λM2=>C M2 λb=>if b=true then E M2 λd=>intD d λk=>zcZ t C E Mc Q (xs.map emb) (k::acc)else zcZ t C E Mc Q (xs.map emb) acc;refine h x YAi _ _ ?_;cases e:g x with
  |none=>
   refine zfP emb g xs acc (λy hy=>h y (YAp _ hy)) λns hn=>q ns λk=>?_;rw[YA1,e];exact hn k
  |some d=>
   refine zfP emb g xs (d::acc) (λy hy=>h y (YAp _ hy)) λns hn=>q ns λk=>?_;rw[YA1,e,hn k,YAn,YAn];constructor
   .rintro((h|h)|h)
    .exact .inr (.inl h)
    .exact .inl h
    .exact .inr (.inr h)
   .rintro(h|h|h)
    .exact .inl (.inr h)
    .exact .inl (.inl h)
    .exact .inr h
def zap(i:Int):D.old (.int i)=.int i:=by unfold D.old;rfl
def za3(a:Bool)(ns:List Int):D.old (.lst a (ns.map D.int))=.lst false (ns.map D.int):=by
 unfold D.old;congr 1;rw[YAK];exact YBN λi _=>zap i
def znm(ns:List Int):D.old (.tup (ns.map D.int))=.tup (ns.map D.int):=by
 unfold D.old;congr 1;rw[YAK];exact YBN λi _=>zap i
abbrev Rn:=Fen.Run
def runD(r:Fen.Run):D:=.tup [.int r.one,.int r.oW,.int r.rise,.int r.hand]
def zpL(r:Rn):(runD r).old=runD r:=by unfold runD;simp[D.old]
def zaP(a:Bool)(rs:List Rn):D.old (.lst a (rs.map runD))=.lst false (rs.map runD):=by
 unfold D.old;congr 1;rw[YAK];exact YBN λr _=>zpL r
theorem zcM(x:Int):∀hs:List Int,inB (.int x) (hs.map D.int)=hs.contains x
 |[]=>rfl
 |y::hs=>by
  have:=zcM x hs
  unfold inB at this ⊢;rw[YAb,zb4,YCx,this,List.contains_cons];congr 1;show(y==x)=(x==y);exact Bool.beq_comm
theorem zfa:∀hs:List Int,zd0 (hs.map D.int)=true
 |[]=>rfl
 |y::hs=>by rw[YAb,zd0,zfa hs];rfl
theorem zfi:∀hs:List Int,PyData.depthAll (zb4 (hs.map D.int))=0
 |[]=>rfl
 |y::hs=>by rw[YAb,zb4,PyData.depthAll,zfi hs];rfl
def zcA(x:Int)(hs:List Int):inOk (.int x) (hs.map D.int):=⟨rfl,zfa hs,by rw[zfi];exact YAU (Nat.min_le_left _ _) (by decide)⟩
def za4(x y:Int):eqOk (.int x) (.int y):=⟨rfl,rfl,by show min 0 0<=50;decide⟩
def zcm(x y:Int):eqB (.int x) (.int y)=decide (x=y):=by
 show(x==y)=_;by_cases h:x=y<;>simp[h]
def zbC(x y:Bool):eqOk (.bl x) (.bl y):=⟨rfl,rfl,by show min 0 0<=50;decide⟩
def zry(x y:Bool):eqB (.bl x) (.bl y)=(x==y):=rfl
def zrd{x:Int}{hs:List Int}{n:Bool}{Q:D->Prop}(q:Q (.bl (hs.contains x))):inD false (.int x) (.lst n (hs.map D.int)) Q:=⟨zcA _ _,by
 have:(if false=true then !inB (.int x) (hs.map D.int)else inB (.int x) (hs.map D.int))=hs.contains x:=zcM x hs
 rw[this];exact q⟩
def zrs(q:Q (.bl (decide (x=y)))):eqD (.int x) (.int y) Q:=⟨za4 _ _,by rw[zcm];exact q⟩
def zaC(rs:List Rn)(hs:List Int):List Rn:=rs.filter λr=>!hs.contains r.hand
def zaj(rs:List Rn):List Int:=zbP (rs.map Fen.Run.hand)
def gI(hs:List Int)(i:Int):Int:=hs.getD i.toNat 0
def zgf(hts:List Int)(r:Rn):Bool:=decide (gI hts r.oW-gI hts r.one=r.rise)
def InM(n:Int)(rs:List Rn):Prop:=∀r∈rs,0<=r.one/\r.one<n/\0<=r.oW/\r.oW<n
def zmm(h:∀k,k∈xs↔k∈ys):zbP xs=zbP ys:=znl (zb2 _) (zb2 _) λk=>((zbp xs k).trans (h k)).trans (zbp ys k).symm
def zcj(a:Bool)(rs:List Rn)(hl:rs.length<64):za6 [.lst a (rs.map runD)] (·=.lst true ((zaj rs).map D.int)):=by
 unfold za6 fnW zaM;rw[YAb,zaP];refine⟨by simpa using hl,zfP runD (λr=>some r.hand) rs [] (λr hr qe N y=>⟨rfl,y⟩) λns hn=>?_⟩;show D.lst true ((zbP ns).map D.int)=_;rw[zaj,zmm (ys:=rs.map Fen.Run.hand)];intro k;rw[hn k,List.filterMap_eq_map']
 simp
def zfd(a b:Bool)(rs:List Rn)(hs:List Int)(hl:rs.length<=1000):zdf [.lst a (rs.map runD),.lst b (hs.map D.int)] (·=.lst true ((zaC rs hs).map runD)):=by
 unfold zdf fnW zaM;rw[YAb,YAb,zaP,za3];refine⟨by simp;omega,zcP runD (λr=>if hs.contains r.hand then none else some (runD r)) rs [] (λr hr qe N y=>⟨rfl,zcA _ _,?_⟩) ?_⟩
 .show if (if true=true then !inB (.int r.hand) (hs.map D.int)else _)=true then _ else _;rw[if_pos rfl,zcM];revert y;cases hs.contains r.hand with
  |true=>exact λy=>y
  |false=>exact λy=>⟨by show 4<=100000;decide,y⟩
 .show D.lst true _=_;congr 1;unfold zaC;rw[YBs]
  induction rs with
  |nil=>rfl
  |cons r rs ih=>
   rw[YA1,YBo];cases hs.contains r.hand with
   |true=>exact ih (by simp at hl;omega)
   |false=>simp only[Bool.not_false,YCX,YAb,YA0,YB6];rw[ih (by simp at hl;omega)]
def zdS{hs:List Int}{i:Int}(h0:0<=i)(h1:i<hs.length):atI (hs.map D.int) i=some (.int (gI hs i)):=by
 unfold atI ixN gI;have hn:i.toNat<hs.length:=by omega
 rw[if_pos h0,YAc,if_pos h1,YDT,YAo,YAe hn,YAs,YAe hn];rfl
def zb1{hs:List Int}{i:Int}{Q:D->Prop}(h0:0<=i)(h1:i<hs.length)(q:Q (.int (gI hs i))):itD (hs.map D.int) (.int i) Q:=by
 show(match atI (hs.map D.int) i with|some d=>Q d|none=>False);rw[zdS h0 h1];exact q
def zrg{α:Type}(f:α->Bool)(xs:List α):(xs.map λx=>D.bl (f x))=(xs.map f).map D.bl:=by rw[YAK];rfl
def zdj{α:Type}{f:α->Bool}{xs:List α}{n:Bool}{Q:D->Prop}(q:Q (.bl (xs.all f))):allF [.lst n (xs.map λx=>D.bl (f x))] Q:=
 ⟨xs.map f,zrg f xs,by rw[List.all_map];exact q⟩
def zgb{α β:Type}(f:α->β)(xs:List α):xs.filterMap (λx=>some (f x))=xs.map f:=by rw[List.filterMap_eq_map']
def zaW{α:Type}(emb:α->D)(g:α->D)(xs:List α)(h:∀x∈xs,zpx t C E Mc (emb x) (some (g x)))(q:Q (xs.map g)):zbw t C E Mc Q (xs.map emb) []:=
 zcP emb (λx=>some (g x)) xs [] h (by rw[zgb];exact q)
def zg2:List Int->Bool
 |x::y::r=>decide (x<y)&&zg2 (y::r)
 |_=>true
theorem zek:∀ns:List Int,zg2 ns=true↔ns.Pairwise (·<·)
 |[]=>by simp[zg2]
 |[x]=>by simp[zg2]
 |x::y::r=>by
  rw[zg2,YAJ,zek (y::r),YCy,YBh (a:=x)];constructor
  .rintro⟨h1,h2⟩;refine⟨λk hk=>?_,h2⟩;rcases YAn.mp hk with e|e
   .rw[e];exact h1
   .exact YD3 h1 ((YBh.mp h2).1 k e)
  .rintro⟨h1,h2⟩;exact⟨h1 y YAi,h2⟩
def zmA{α:Type}{xs:List α}{k:Nat}:cutD xs (some (k:Int)) none=xs.drop k:=by
 unfold cutD;rw[HT.sIx_nat,HT.sIx_none];by_cases h:k<=xs.length
 .rw[YD5 h];exact YAT (by simp)
 .rw[Nat.min_eq_right (by omega),YBR,List.drop_eq_nil_of_le (by omega)];simp
def zmi{α:Type}{xs:List α}{k:Nat}:cutD xs none (some (k:Int))=xs.take k:=by
 unfold cutD;rw[HT.sIx_nat,HT.sIx_none,YCQ,Nat.sub_zero];by_cases h:k<=xs.length
 .rw[YD5 h]
 .rw[Nat.min_eq_right (by omega),YBJ,YAT (by omega)]
def zhI(size:Int)(rs:List Rn)(many:Int)(fs hs:List Int):Bool:=
 decide ((fs.length:Int)<=many)&&zg2 fs&&fs.all (λh=>(zaj rs).contains h)&&decide ((hs.length:Int)=size)&&(zaC rs fs).all (zgf hs)
def zct(rs:List Rn)(hs:List Int):(zaC rs hs).length<=rs.length:=YCU ..
def zkz(h:InM n rs)(hs:List Int):InM n (zaC rs hs):=λr hr=>h r (YBa.mp hr).1
def ze9(x y:D):D.old (.tup [x,y])=.tup [x.old,y.old]:=by rw[D.old];rfl
def zjl:D.old .box=.box:=by rw[D.old]
def zaE(h0:0<m)(h1:m<2^64)(k:∀x:Int,0<=x->x<m->Q (.int x)):up zah [.box,.int m] Q:=⟨Q,⟨⟨h0,h1⟩,k⟩,λd z=>z⟩
def zd9(m:Int)(n:Nat):rngL m (n+1)=.int m::rngL (m+1) n:=by
 unfold rngL;rw[List.range_succ_eq_map,YAb,YAK];congr 1
 .simp
 .refine YBN λk _=>?_;simp only[Function.comp_apply,Nat.succ_eq_add_one];congr 1;omega
def zhl(n:Nat):rngL 0 n=(List.range n).map λ(k:Nat)=>D.int (k:Int):=by
 unfold rngL;refine YBN λk _=>?_;simp
def zbb(m:Int)(n:Nat):(rngL m n).length=n:=by unfold rngL;simp
def zia:zby [.box] (λd=>∃x:Int,d=.int x/\0<=x):=by
 unfold zby fnW zaM;rw[YAb,zjl];refine⟨rfl,zaE (by decide) (by decide) λx x0 x1=>?_⟩;refine⟨za4 _ _,ite2 (λh=>?_) (λh=>?_)⟩
 .exact⟨rfl,zaE (by decide) (by decide) λy y0 y1=>⟨y,rfl,y0⟩⟩
 refine⟨za4 _ _,ite2 (λh=>?_) (λh=>?_)⟩
 .exact⟨rfl,zaE (by decide) (by decide) λy y0 y1=>⟨y,rfl,y0⟩⟩
 refine⟨⟨by decide,by decide⟩,?_⟩;refine zaS (λ_ M=>∃(z:Int)(s:Sl),M=[.val .box,.val (.int x),.val (.int z),s]/\0<=z) ?_ ?_ _ _ ⟨0,.un,rfl,Int.le_refl _⟩
 .rintro k rest M E' hn hc hr hb ⟨z,s,rfl,z0⟩;refine⟨.inr ⟨by decide,by decide⟩,rfl,zaE (by decide) (by decide) λy y0 y1=>hn _ ⟨z*1000000+y,.val k,rfl,by omega⟩⟩
 .rintro M ⟨z,s,rfl,z0⟩;exact⟨z,rfl,z0⟩
def zgd(r:Int):za5 [.box,.int r] (λd=>∃x:Int,d=.int x):=by
 unfold za5 fnW zaM;rw[YAb,YAb,zjl,zap];refine⟨rfl,zaE (by decide) (by decide) λx x0 x1=>⟨rfl,zaT zia λd ⟨y,hd,y0⟩=>?_⟩⟩;subst hd;refine⟨rfl,zaT zia λd ⟨z,hd,z0⟩=>?_⟩;subst hd;refine⟨by show 5<=100000;decide,rfl,zaE (by decide) (by decide) λw w0 w1=>?_⟩;exact zb1 (hs:=[1,-1,1+x,y,-z]) w0 w1 ⟨_,rfl⟩
def zd3(a b:Bool)(rs:List Rn)(hs:List Int)(hl:rs.length<=1000):zbj [.lst a (rs.map runD),.lst b (hs.map D.int)] (·=.lst true ((zaC rs hs).map runD)):=by
 unfold zbj fnW zaM;rw[YAb,YAb,zaP,za3];refine⟨by simp;omega,zcP runD (λr=>if hs.contains r.hand then none else some (runD r)) rs [] (λr hr qe N y=>⟨zcA _ _,?_⟩) ?_⟩
 .show if (if true=true then !inB (.int r.hand) (hs.map D.int)else _)=true then _ else _;rw[if_pos rfl,zcM];revert y;cases hs.contains r.hand with
  |true=>exact λy=>y
  |false=>exact λy=>y
 .show D.lst true _=_;congr 1;unfold zaC;rw[YBs]
  induction rs with
  |nil=>rfl
  |cons r rs ih=>
   rw[YA1,YBo];cases hs.contains r.hand with
   |true=>exact ih (by simp at hl;omega)
   |false=>simp only[Bool.not_false,YCX,YAb,YA0,YB6];rw[ih (by simp at hl;omega)]
def zdr(a:Bool)(rs:List Rn)(hl:rs.length<64):za9 [.lst a (rs.map runD)] (·=.lst true ((zaj rs).map D.int)):=by
 unfold za9 fnW zaM;rw[YAb,zaP];refine⟨by simp;omega,zaW runD (λr=>.int r.hand) rs (λr hr qe N y=>y) ?_⟩;exact⟨rs.map Fen.Run.hand,by rw[YAK];rfl,by simpa using hl,rfl⟩
def zbY(a:Bool)(ns:List Int)(k:Int)(hl:ns.length<=1000):zaU [.lst a (ns.map D.int),.int k] (·=.bl (decide ((ns.length:Int)=k))):=by
 unfold zaU fnW zaM;rw[YAb,YAb,za3,zap];refine⟨za4 _ _,?_⟩;show if (!eqB (.int ((ns.map D.int).length:Int)) (.int k))=true then _ else _;rw[zcm,YAc];cases decide ((ns.length:Int)=k)with
 |false=>rfl
 |true=>
  refine⟨by simp;omega,zaW D.int (λ_=>.bl true) ns (λr hr qe N y=>y) ?_⟩;exact zdj (f:=λ_=>true) (xs:=ns) (n:=true) (by show D.bl _=_;congr 1;simp)
mutual
def za0:D->Nat->Bool
 |.non,_=>true
 |.bl _,_=>true
 |.int _,_=>true
 |.str x,_=>PyData.canLay0 (.str x)
 |.box,_=>false
 |.tup xs,n+1=>decide (xs.length<=1000)&&zcb xs n
 |.lst _ xs,n+1=>decide (xs.length<=1000)&&zcb xs n
 |.tup _,0=>false
 |.lst _ _,0=>false
def zcb:List D->Nat->Bool
 |[],_=>true
 |x::xs,n=>za0 x n&&zcb xs n
end
theorem zdA:∀{xs:List D}{n:Nat}{x:D},zcb xs n=true->x∈xs->za0 x n=true
 |y::ys,n,x,h,hx=>by
  rw[zcb,YAJ]at h;rcases YAn.mp hx with e|e
  .rw[e];exact h.1
  .exact zdA h.2 e
theorem zfK:∀xs:List D,zipL xs xs=xs.map λx=>.tup [x,x]
 |[]=>rfl
 |x::xs=>by rw[zipL,zfK xs];rfl
mutual
theorem zm2:∀d:D,d.old.old=d.old
 |.non=>by simp[D.old]
 |.bl _=>by simp[D.old]
 |.int _=>by simp[D.old]
 |.str _=>by simp[D.old]
 |.box=>by simp[D.old]
 |.tup xs=>by rw[D.old,D.old,YAK];congr 1;exact zhS xs
 |.lst _ xs=>by rw[D.old,D.old,YAK];congr 1;exact zhS xs
theorem zhS:∀xs:List D,xs.map (D.old∘D.old)=xs.map D.old
 |[]=>rfl
 |x::xs=>by rw[YAb,YAb,zhS xs,Function.comp_apply,zm2 x]
end
mutual
theorem zgT:∀(d:D)(n:Nat),za0 d.old n=za0 d n
 |.non,_=>by rw[D.old]
 |.bl _,_=>by rw[D.old]
 |.int _,_=>by rw[D.old]
 |.str _,_=>by rw[D.old]
 |.box,_=>by rw[D.old]
 |.tup xs,n+1=>by rw[D.old,za0,za0,YAc,zdH xs n]
 |.lst _ xs,n+1=>by rw[D.old,za0,za0,YAc,zdH xs n]
 |.tup xs,0=>by rw[D.old,za0,za0]
 |.lst _ xs,0=>by rw[D.old,za0,za0]
theorem zdH:∀(xs:List D)(n:Nat),zcb (xs.map D.old) n=zcb xs n
 |[],_=>rfl
 |x::xs,n=>by rw[YAb,zcb,zcb,zgT x n,zdH xs n]
end
def lay_sc:∀{d:D}{n:Nat},za0 d n=true->(∀xs,d≠.tup xs)->(∀b xs,d≠.lst b xs)->layD d=true
 |.non,_,_,_,_=>rfl
 |.bl _,_,_,_,_=>rfl
 |.int _,_,_,_,_=>rfl
 |.str x,_,h,_,_=>by rw[za0]at h;rw[layD];exact h
 |.box,_,h,_,_=>by rw[za0]at h;cases h
 |.tup xs,_,_,h,_=>absurd rfl (h xs)
 |.lst b xs,_,_,_,h=>absurd rfl (h b xs)
theorem zf8:∀(n:Nat)(d e:D),d.old=e.old->za0 d n=true->zbi (n+1) [d,e] (·=.bl true)
 |n,d,e,he,h=>by
  have ho:=h;rw[<-zgT]at ho;unfold zbi fnW zaM;rw[YAb,YAb,<-he];have hoo:d.old.old=d.old:=zm2 d;revert ho hoo;generalize d.old=x;intro ho hoo;cases x with
  |non=>rfl
  |bl b=>exact⟨zbC _ _,zbC _ _,zbC _ _,⟨rfl,rfl,by show min 0 0<=50;decide⟩,by show D.bl (b==b)=_;simp⟩
  |int i=>exact⟨zbC _ _,zbC _ _,zbC _ _,za4 _ _,by show D.bl (i==i)=_;simp⟩
  |str z=>exact⟨zbC _ _,zbC _ _,zbC _ _,⟨lay_sc ho (λ_ h=>by cases h) (λ_ _ h=>by cases h),lay_sc ho (λ_ h=>by cases h) (λ_ _ h=>by cases h),by show min 0 0<=50;decide⟩,by show D.bl (z==z)=_;simp⟩
  |box=>rw[za0]at ho;cases ho
  |tup xs=>
   cases n with
   |zero=>rw[za0]at ho;cases ho
   |succ n=>
    rw[za0,YAJ]at ho;have hl:=YA7 ho.1;refine⟨zbC _ _,zbC _ _,za4 _ _,?_⟩;show blD (.bl (eqB (.int (xs.length:Int)) (.int (xs.length:Int)))) _;rw[zcm,YAH rfl];show _/\zbw _ _ _ _ _ (zipL xs xs) [];rw[zfK];refine⟨by rw[YAc];omega,zaW (λx=>.tup [x,x]) (λ_=>.bl true) xs (λx hx qe N y=>⟨rfl,rfl,zaT (zf8 n x x rfl (zdA ho.2 hx)) λd hd=>by subst hd;exact y⟩) ?_⟩;exact zdj (f:=λ_=>true) (xs:=xs) (n:=true) (by show D.bl _=_;congr 1;simp)
  |lst b xs=>
   cases n with
   |zero=>rw[za0]at ho;cases ho
   |succ n=>
    rw[za0,YAJ]at ho;have hl:=YA7 ho.1;refine⟨zbC _ _,zbC _ _,za4 _ _,?_⟩;show blD (.bl (eqB (.int (xs.length:Int)) (.int (xs.length:Int)))) _;rw[zcm,YAH rfl];show _/\zbw _ _ _ _ _ (zipL xs xs) [];rw[zfK];refine⟨by rw[YAc];omega,zaW (λx=>.tup [x,x]) (λ_=>.bl true) xs (λx hx qe N y=>⟨rfl,rfl,zaT (zf8 n x x rfl (zdA ho.2 hx)) λd hd=>by subst hd;exact y⟩) ?_⟩;exact zdj (f:=λ_=>true) (xs:=xs) (n:=true) (by show D.bl _=_;congr 1;simp)
structure Wd(mm mh mr size:Int)(rs:List Rn)(hts fs:List Int):Prop where
 s1:1<=size
 s2:size<=mm
 few:(rs.length:Int)<=mr
 marks:InM size rs
 apart:∀r∈rs,r.one≠r.oW
 hand:∀r∈rs,0<=r.hand/\r.hand<10
 names:∃nm:List Int,(nm.length:Int)<=mh/\∀r∈rs,r.hand∈nm
 hl:(hts.length:Int)=size
 h0:∀h∈hts,0<=h
 up:fs.Pairwise (·<·)
 fl:fs.length<=3
 fr:∀h∈fs,0<=h/\h<10
 truth:∀r∈rs,r.hand∉fs->r.rise=gI hts r.oW-gI hts r.one
theorem zel:∀ns:List Int,(zbP ns).length<=ns.length
 |[]=>YAj _
 |x::xs=>by
  have h:=zel xs;unfold zbP
  have:∀ys:List Int,(insU x ys).length<=ys.length+1:=λys=>by
   induction ys with
   |nil=>simp[insU]
   |cons y ys ih=>
    unfold insU;split
    .simp
    .split
     .simp
     .simp;exact ih
  have:=this (zbP xs)
  simp;omega
def zlC(h0:0<=i)(h1:i<hs.length):gI hs i∈hs:=by
 unfold gI;have hn:i.toNat<hs.length:=by omega
 rw[YAs,YAe hn];exact YDP hn
def zl9(mm mh mr:Int)(a1:1<=mm)(a2:mm<=12)(b1:1<=mh)(b2:mh<=10)(c1:0<=mr)(c2:mr<=40) :
  zbz [.box,.int mm,.int mh,.int mr] (λd=>∃size rs hts fs,d=.tup [.int size,.lst true (rs.map runD),.lst true (hts.map D.int),.lst true (fs.map D.int)]/\Wd mm mh mr size rs hts fs):=by
 unfold zbz fnW zaM;rw[YAb,YAb,YAb,YAb,zjl,zap,zap,zap];refine⟨rfl,zaE (by omega) (by omega) λx x0 x1=>?_⟩;refine⟨rfl,zaE (by omega) (by omega) λy y0 y1=>?_⟩;refine⟨⟨by decide,by decide,by decide⟩,by show 3<=100000;decide,rfl,zaE (by decide) (by decide) λz z0 z1=>?_⟩;refine zb1 (hs:=[4,1000,10^12]) z0 z1 ?_;have hw:0<gI [4,1000,10^12] z/\gI [4,1000,10^12] z<2^64:=by
  have:=zlC (hs:=[4,1000,10^12]) z0 z1
  simp only[YAn,YAP,YBU]at this;rcases this with e|e|e<;>rw[e]<;>decide
 generalize gI [4,1000,10^12] z=wide at hw;refine⟨⟨by omega,by omega⟩,by rw[zbb];omega,?_⟩;rw[zhl];refine zdN (λ(k:Nat)=>D.int (k:Int)) D.int (λ_ h=>0<=h) _ [] (λk hk qe hy=>⟨rfl,rfl,zaE hw.1 hw.2 λh h0 h1=>hy h h0⟩) zed λhts hhl hh0=>?_;rw[YBz]at hhl;rw[YBs];refine⟨⟨by omega,by omega⟩,by rw[zbb];omega,?_⟩;rw[zhl];refine zdN (λ(k:Nat)=>D.int (k:Int)) D.int (λk h=>k<10/\0<=h/\h<10\/10<=k) _ [] (λk hk qe hy=>⟨rfl,rfl,zaE (by decide) (by decide) λh h0 h1=>⟨za4 _ _,ite2 (λ_=>?_) (λ_=>?_)⟩⟩) zed λnms hnl hn0=>?_
 .refine⟨.inl ⟨by decide,by decide⟩,by decide,hy _ ?_⟩;by_cases hk10:k<10
  .exact .inl ⟨hk10,by omega,by omega⟩
  .exact .inr (by omega)
 .refine hy _ ?_;by_cases hk10:k<10
  .exact .inl ⟨hk10,by omega,by omega⟩
  .exact .inr (by omega)
 rw[YBz]at hnl;rw[YBs];have hnm:∀h∈nms,0<=h/\h<10:=λh hh=>by
  obtain⟨k,hk,q⟩:=hn0 h hh;have hk:=YBg.mp hk;rcases q with q|q
  .exact q.2
  .omega
 refine⟨rfl,zaE (by decide) (by decide) λu u0 u1=>⟨⟨by omega,by omega⟩,by rw[zbb];omega,?_⟩⟩;rw[zhl];refine zdN (λ(k:Nat)=>D.int (k:Int)) D.int (λ_ h=>h∈nms) _ [] (λk hk qe hy=>⟨rfl,rfl,zaE (by omega) (by omega) λh h0 h1=>zb1 (hs:=nms) h0 (by omega) (hy _ (zlC h0 (by omega)))⟩) zed λfns hfl hf0=>?_;rw[YBz]at hfl;rw[YBs];refine⟨fns,rfl,by omega,?_⟩;have hf1:∀h∈zbP fns,h∈nms:=λh hh=>by
  obtain⟨k,_,q⟩:=hf0 h ((zbp fns h).mp hh);exact q
 have hfl3:(zbP fns).length<=3:=YAU (zel fns) (by omega);have hup:=zb2 fns;generalize hfs:zbP fns=fs at hf1 hfl3 hup;refine⟨rfl,zaE (by decide) (by decide) λbad bad0 bad1=>?_⟩;refine⟨by show 0<=100000;decide,rfl,zaE (by omega) (by omega) λv v0 v1=>?_⟩;have hrun:∀(b:Bool),CMul v (if b then 1 else 0):=λb=>.inl ⟨by omega,by omega⟩;refine⟨hrun _,⟨by split<;>omega,by split<;>omega⟩,?_⟩;refine zaS (λrest M=>∃(rs:List Rn)(s12 s13 s14 s15 s16:Sl),M=[.val .box,.val (.int mm),.val (.int mh),.val (.int mr),.val (.int (1+x)),.val (.int (1+y)),.val (.int wide),.val (.lst true (hts.map D.int)),.val (.lst true (nms.map D.int)),.val (.lst true (fs.map D.int)),.val (.int (1+bad)),.own (rs.map runD),s12,s13,s14,s15,s16] /\
  (rs.length:Int)+rest.length<=mr/\(rest=[]\/1<1+x)/\InM (1+x) rs/\(∀r∈rs,r.one≠r.oW)/\(∀r∈rs,r.hand∈nms)/\∀r∈rs,r.hand∉fs->r.rise=gI hts r.oW-gI hts r.one) ?_ ?_ _ _ ?_
 .rintro k rest M E' hn hc hr hb ⟨rs,s12,s13,s14,s15,s16,rfl,hlen,hx,hin,hap,hnms,htr⟩;have hx:1<1+x:=hx.elim (λz=>by cases z) id;refine⟨rfl,zaE (by omega) (by omega) λone o0 o1=>?_⟩;refine⟨rfl,zaE (by omega) (by omega) λst t0 t1=>⟨by omega,?_⟩⟩;have q0:0<=(one+1+st) % (1+x):=YB3 _ (by omega);have q1:(one+1+st) % (1+x)<1+x:=YBH _ (by omega);have qne:one≠(one+1+st) % (1+x):=λe=>by
   have e1:=Int.emod_emod_of_dvd (one+1+st) (Int.dvd_refl (1+x));by_cases hlt:one+1+st<1+x
   .rw[Int.emod_eq_of_lt (by omega) hlt]at e;omega
   .have:(one+1+st) % (1+x)=one+1+st-(1+x):=by
     rw[<-Int.sub_emod_right,Int.emod_eq_of_lt (by omega) (by omega)]
    omega
  generalize (one+1+st) % (1+x)=oW at q0 q1 qne;refine⟨rfl,zaE (by omega) (by omega) λhi h0 h1=>zb1 (hs:=nms) h0 (by omega) ?_⟩;have hm:=zlC (hs:=nms) h0 (by omega);generalize gI nms hi=hand at hm;refine zb1 (hs:=hts) q0 (by omega) (zb1 (hs:=hts) o0 (by omega) ?_);have app:∀(rise:Int)(s16:Sl),(hand∉fs->rise=gI hts oW-gI hts one)->s16=.val (.int rise)->appW 11 (tupW (zab (vW 13) (zab (vW 14) (zab (vW 16) (zab (vW 15) nilA))))) E' [.val .box,.val (.int mm),.val (.int mh),.val (.int mr),.val (.int (1+x)),.val (.int (1+y)),.val (.int wide),.val (.lst true (hts.map D.int)),.val (.lst true (nms.map D.int)),.val (.lst true (fs.map D.int)),.val (.int (1+bad)),.own (rs.map runD),.val k,.val (.int one),.val (.int oW),.val (.int hand),s16]:=by
   intro rise s16 hrise hs16;subst hs16;have hl:rs.length<100000:=by omega
   refine⟨by show 4<=100000;decide,by simpa using hl,hn _ ⟨rs++[⟨0,one,oW,rise,hand⟩],_,_,_,_,_,by rw[YAy];rfl,?_,.inr hx,?_,?_,?_,?_⟩⟩
   .rw[YAS]at hlen;rw[YAq];simp;omega
   .intro r hr;rcases YAk.mp hr with e|e
    .exact hin r e
    .rw[YAg.mp e];exact⟨o0,o1,q0,q1⟩
   .intro r hr;rcases YAk.mp hr with e|e
    .exact hap r e
    .rw[YAg.mp e];exact qne
   .intro r hr;rcases YAk.mp hr with e|e
    .exact hnms r e
    .rw[YAg.mp e];exact hm
   .intro r hr;rcases YAk.mp hr with e|e
    .exact htr r e
    .rw[YAg.mp e];exact hrise
  refine⟨zcA _ _,?_⟩;show if (if false=true then !inB (.int hand) (fs.map D.int)else inB (.int hand) (fs.map D.int))=true then _ else _;rw[show(if false=true then !inB (.int hand) (fs.map D.int)else inB (.int hand) (fs.map D.int))=fs.contains hand from zcM _ _];cases hc:fs.contains hand with
  |false=>exact app _ _ (λ_=>rfl) rfl
  |true=>
   have hmem:hand∈fs:=by simpa using hc
   refine⟨rfl,zaE (by decide) (by decide) λdr d0 d1=>ite2 (λ_=>?_) (λ_=>?_)⟩
   .refine⟨rfl,zaT (zgd _) λd ⟨rise,hd⟩=>?_⟩;subst hd;exact app rise _ (λz=>absurd hmem z) rfl
   .exact app _ _ (λz=>absurd hmem z) rfl
 .rintro M ⟨rs,s12,s13,s14,s15,s16,rfl,hlen,hx,hin,hap,hnms,htr⟩;refine⟨by show 4<=100000;decide,1+x,rs,hts,fs,rfl,by omega,by omega,by simpa using hlen,hin,hap,λr hr=>hnm _ (hnms r hr),⟨nms,by omega,hnms⟩,by omega,λh hh=>?_,hup,hfl3,λh hh=>hnm h (hf1 h hh),htr⟩;obtain⟨_,_,q⟩:=hh0 h hh;exact q
 .refine⟨[],.un,.un,.un,.un,.un,by rw[<-hfs];rfl,?_,?_,(λr h=>by cases h),(λr h=>by cases h),(λr h=>by cases h),(λr h=>by cases h)⟩
  .rw[zbb];show((0:Nat):Int)+_<=_;split<;>omega
  .by_cases h:(1:Int)<1+x
   .exact .inr h
   .left;rw[if_neg (by simpa using h)];simp[rngL]
end Fd
namespace Fen
open PySem L2
def Er(rs qs:List Run):Prop:=rs.map zcn=qs.map zcn
theorem Er.symm(h:Er rs qs):Er qs rs:=Eq.symm h
def Er.len(h:Er rs qs):rs.length=qs.length:=by have:=congrArg List.length h;simpa using this
def zbO(h:zcn r=zcn q):r.one=q.one/\r.oW=q.oW/\r.rise=q.rise/\r.hand=q.hand:=by
 unfold zcn at h;simp only[Prod.mk.injEq]at h;exact h
def Er.mem(h:Er rs qs)(hr:r∈rs):∃q∈qs,zcn q=zcn r:=by
 have:zcn r∈qs.map zcn:=by rw[<-h];exact YAQ hr
 obtain⟨q,hq,e⟩:=YAF.mp this;exact⟨q,hq,e⟩
def Er.get{rs qs:List Run}(h:Er rs qs){i:Nat}{r:Run}(hr:rs[i]?=some r):∃q,qs[i]?=some q/\zcn q=zcn r:=by
 have e:(qs.map zcn)[i]?=some (zcn r):=by rw[<-h,YAo,hr];rfl
 rw[YAo]at e;cases z:qs[i]? with
 |none=>rw[z]at e;cases e
 |some q=>rw[z]at e;exact⟨q,rfl,Option.some.inj e⟩
def Er.conn(h:Er rs qs)(c:Conn rs i j):Conn qs i j:=by
 induction c with
 |refl=>exact .refl _
 |go r c m e ih=>
  obtain⟨q,hq,eq⟩:=h.mem m;obtain⟨e1,e2,_,_⟩:=zbO eq;exact .go q ih hq (by rw[e1,e2];exact e)
def Er.conn_iff(h:Er rs qs)(i j:Int):Conn rs i j↔Conn qs i j:=⟨h.conn,h.symm.conn⟩
def Er.htOk(h:Er rs qs)(x:HtOk rs hts):HtOk qs hts:=λq hq=>by
 obtain⟨r,hr,e⟩:=h.symm.mem hq;obtain⟨e1,e2,e3,_⟩:=zbO e
 have:=x r hr
 rw[e1,e2,e3]at this;exact this
def Er.noHts(h:Er rs qs)(x:zgl rs):zgl qs:=λf hf=>x f λr hr=>by
 obtain⟨q,hq,e⟩:=h.mem hr;obtain⟨e1,e2,e3,_⟩:=zbO e;rw[<-e1,<-e2,<-e3];exact hf q hq
def Er.inMarks(h:Er rs qs)(x:zay n rs):zay n qs:=λq hq=>by
 obtain⟨r,hr,e⟩:=h.symm.mem hq;obtain⟨e1,e2,_,_⟩:=zbO e;rw[<-e1,<-e2];exact x r hr
def Er.flatOk(h:Er rs qs)(x:zeO n rs hts):zeO n qs hts:=
 ⟨x.1,h.htOk x.2.1,λm m0 m1 k=>x.2.2 m m0 m1 λj j0 j1 c=>k j j0 j1 (h.conn c)⟩
def Er.cons{r q:Run}{rs qs:List Run}(h:Er (r::rs) (q::qs)):zcn r=zcn q/\Er rs qs:=by
 unfold Er at h;rw[YAb,YAb]at h;injection h with h1 h2
 exact⟨h1,h2⟩
theorem Er.usable:∀{rs qs:List Run}(hs:List Int),Er rs qs->Er (usable hs rs) (usable hs qs)
 |[],[],_,_=>rfl
 |[],_::_,_,h=>by cases h
 |_::_,[],_,h=>by cases h
 |r::rs,q::qs,hs,h=>by
  obtain⟨h1,h2⟩:=h.cons;have ih:=Er.usable hs h2;unfold Fen.usable at ih ⊢;obtain⟨_,_,_,e⟩:=zbO h1;rw[YBo,YBo,e];split
  .unfold Er;rw[YAb,YAb,h1,ih]
  .exact ih
theorem Er.runAt{rs qs:List Run}(h:Er rs qs)(i:Int):zcn (Fen.runAt rs i)=zcn (Fen.runAt qs i):=by
 unfold Fen.runAt;rw[YAs,YAs];cases e:rs[i.toNat]? with
 |none=>
  have:qs[i.toNat]?=none:=by
   rw[YB8]at e ⊢;rw[<-h.len];exact e
  rw[this]
 |some r=>
  obtain⟨q,e2,eq⟩:=h.get e;rw[e2];exact eq.symm
def zld(h:zcn r=zcn q)(m:Int):zbq r m=zbq q m:=by
 obtain⟨e1,e2,e3,_⟩:=zbO h;unfold zbq;rw[e1,e2,e3]
theorem Er.walkF(h:Er rs qs):∀(qd t:Int)(l:List Int),Fen.walkF rs qd t l=Fen.walkF qs qd t l
 |_,_,[]=>rfl
 |qd,t,n::rest=>by
  unfold Fen.walkF;rw[h.len,zld (h.runAt n) qd];split
  .split
   .exact h.walkF _ _ rest
   .rfl
  .rfl
theorem Er.stepsF{rs qs:List Run}(h:Er rs qs)(hs:List Int):∀(k m:Nat),Fen.stepsF rs hs k m=Fen.stepsF qs hs k m
 |0,_=>rfl
 |k+1,m=>by
  unfold Fen.stepsF;rw[h.stepsF hs k m];cases e:rs[k]? with
  |none=>
   have:qs[k]?=none:=by rw[YB8]at e ⊢;rw[<-h.len];exact e
   rw[this]
  |some r=>
   obtain⟨q,e2,eq⟩:=h.get e;obtain⟨e1,e3,e4,e5⟩:=zbO eq;rw[e2];simp only[e1,e3,e4,e5]
def Er.treeOk{rs qs:List Run}(h:Er rs qs){hs:List Int}{start:Int}{n:Nat}{ns:List Nd}(x:TreeOk rs hs start n ns):TreeOk qs hs start n ns where
 nod:=x.nod
 inm:=x.inm
 walk:=λy hy=>by rw[<-h.walkF];exact x.walk y hy
 runs:=λy hy z hz=>by
  obtain⟨a,b,c,d,e⟩:=x.runs y hy z hz;obtain⟨e1,e2,_,e4⟩:=zbO (h.runAt z);rw[<-e4,<-e1,<-e2,<-h.len];exact⟨a,b,c,d,e⟩
 uniq:=x.uniq
 start:=x.start
 few:=x.few
 keep:=λy hy z hz=>by
  obtain⟨u,hu,v,hv,a,b,c⟩:=x.keep y hy z hz;obtain⟨e1,e2,e3,_⟩:=zbO (h.runAt z);exact⟨u,hu,v,hv,by rw[<-e1];exact a,by rw[<-e2];exact b,by rw[<-e3];exact c⟩
def Er.firsts(h:Er rs qs)(x:Firsts n rs sts):Firsts n qs sts:=
 ⟨x.1,λm=>(x.2 m).trans ⟨λ⟨a,b,c⟩=>⟨a,b,λj j0 j1 z=>c j j0 j1 (h.symm.conn z)⟩,λ⟨a,b,c⟩=>⟨a,b,λj j0 j1 z=>c j j0 j1 (h.conn z)⟩⟩⟩
theorem Er.ringF :∀{rs qs:List Run}(i:Nat),Er rs qs->Fen.ringF cs hs i rs=Fen.ringF cs hs i qs
 |[],[],_,_=>rfl
 |[],_::_,_,h=>by cases h
 |_::_,[],_,h=>by cases h
 |r::rs,q::qs,i,h=>by
  obtain⟨h1,h2⟩:=h.cons;obtain⟨e1,e2,e3,e4⟩:=zbO h1;rw[zeG,zeG,e1,e2,e3,e4,Er.ringF (i+1) h2]
def Er.treeAt(h:Er rs qs)(x:TreeAt K H n rs hs t):TreeAt K H n qs hs t where
 th:=x.th
 tok:=h.treeOk x.tok
 keys:=λj=>(x.keys j).trans ((h.usable hs).conn_iff _ _)
 is:=by
  have e:Fen.stepsF rs hs rs.length=Fen.stepsF qs hs qs.length:=by
   funext m;rw[h.stepsF hs,h.len]
  rw[<-e];exact x.is
 b0:=x.b0
 b1:=x.b1
def Er.reach(h:Er rs qs)(x:Reach K H n rs hs ts):Reach K H n qs hs ts:=
 ⟨λt ht=>h.treeAt (x.trees t ht),(h.usable hs).firsts x.firsts,x.nod⟩
def LineIs(n:Nat)(rs:List Run)(hs:List Int)(one oW:Int)(o:Option (List Int)):Prop:=
 ∃ns:List Nd,TreeOk rs hs one n ns/\TreeIs (stepsF rs hs rs.length) one (ns.map zbu)/\(∀j,j∈zaw ns↔Conn (usable hs rs) one j)/\((o=none/\oW∉zaw ns)\/∃x∈ns,x.m=oW/\o=some x.line)
def LineIs.none_iff(h:LineIs n rs hs one oW o):o=none↔¬ Conn (usable hs rs) one oW:=by
 obtain⟨ns,a,b,c,d⟩:=h;rcases d with⟨rfl,k⟩|⟨x,hx,ex,rfl⟩
 .exact⟨λ_ z=>k ((c oW).mpr z),λ_=>rfl⟩
 .refine⟨(λz=>by cases z),λz=>absurd ((c oW).mp (ex▸YAQ hx)) z⟩
theorem LineIs.some(h:LineIs n rs hs one oW (some l)) :
  (∃t,walkF rs one 0 l=some (oW,t))/\l.Nodup/\(∀z∈l,0<=z/\z<(rs.length:Int)/\hs.contains (runAt rs z).hand=false)/\l.length<=n:=by
 obtain⟨ns,a,b,c,d⟩:=h;rcases d with⟨e,_⟩|⟨x,hx,ex,e⟩
 .cases e
 .cases e;refine⟨⟨x.h,by rw[<-ex];exact a.walk x hx⟩,a.lineNodup hx,λz hz=>let⟨p,q,r,_⟩:=a.runs x hx z hz;⟨p,q,r⟩,?_⟩;have l1:=a.few x hx;have l2:ns.length<=n:=by
   have hk:(zaw ns).length=ns.length:=by unfold zaw;simp
   have hin:∀k∈zaw ns,0<=k/\k<n:=λk hk=>by
    obtain⟨y,hy,e⟩:=YAF.mp hk;rw[<-e];exact a.inm y hy
   have hd:∀k∈zaw ns,k∈(List.range n).map Int.ofNat:=λk hk=>by
    obtain⟨k0,k1⟩:=hin k hk;refine YAF.mpr ⟨k.toNat,YBg.mpr (by omega),?_⟩;show((k.toNat:Nat):Int)=k;omega
   have:=zaX (ks:=zaw ns) (xs:=(List.range n).map Int.ofNat) a.nod hd
   rw[YAc,YBz]at this;omega
  omega
def RingIs(n:Nat)(rs:List Run)(hs:List Int)(o:Option (Int×List Int)):Prop:=∃K H ts,Reach K H n rs hs ts/\o=ringF ((zbr ts).map zbu) hs 0 rs
theorem RingIs.some(h:RingIs n rs hs (some (m,line)))(VM:zay n rs)(hn:n<=40)(hu:∀r∈rs,r.one≠r.oW) :
  0<=m/\m<n/\line≠[]/\line.length<=90/\line.Nodup/\(∀z∈line,0<=z/\z<(rs.length:Int)/\hs.contains (runAt rs z).hand=false)/\∃t,walkF rs m 0 line=some (m,t)/\t≠0:=by
 obtain⟨K,H,ts,a,e⟩:=h;exact zp9 a VM hn hu e.symm
def Er.ringIs(h:Er rs qs)(x:RingIs n rs hs o):RingIs n qs hs o:=by
 obtain⟨K,H,ts,a,rfl⟩:=x;exact⟨K,H,ts,h.reach a,Er.ringF 0 h⟩
def Er.lineIs(h:Er rs qs)(x:LineIs n rs hs one oW o):LineIs n qs hs one oW o:=by
 obtain⟨ns,a,b,c,d⟩:=x;have e:Fen.stepsF rs hs rs.length=Fen.stepsF qs hs qs.length:=by
  funext m;rw[h.stepsF hs,h.len]
 exact⟨ns,h.treeOk a,e▸b,λj=>(c j).trans ((h.usable hs).conn_iff _ _),d⟩
def zko(n:Nat)(rs:List Run)(gs:List (List Int)):Prop:=∃ds:List GR,(∀g∈ds,zpJ n rs g)/\Firsts n rs (ds.map GR.st)/\gs=ds.map GR.ms
def Er.grpsIs(h:Er rs qs)(x:zko n rs gs):zko n qs gs:=by
 obtain⟨ds,a,b,c⟩:=x;exact⟨ds,λg hg=>⟨(a g hg).1,λj=>((a g hg).2 j).trans ⟨λ⟨p,q,r⟩=>⟨p,q,h.conn r⟩,λ⟨p,q,r⟩=>⟨p,q,h.symm.conn r⟩⟩⟩,h.firsts b,c⟩
end Fen
namespace Fd
open PySem L2
def zo9:Option (List Int)->D
 |none=>.non
 |some l=>.tup (l.map D.int)
def zrp:Option (Int×List Int)->D
 |none=>.non
 |some ml=>.tup [.int ml.1,.tup (ml.2.map D.int)]
def zbv:Fn:=λds Q=>∃(n:Nat)(a b:Bool)(rs:List Rn)(hs:List Int)(one oW:Int),ds=[.int n,.lst a (rs.map runD),.lst b (hs.map D.int),.int one,.int oW]/\Fen.zay n rs/\0<=one/\one<n/\n<=1000/\rs.length<=1000/\∀o,Fen.LineIs n rs hs one oW o->Q (zo9 o)
def zcQ:Fn:=λds Q=>∃(n:Nat)(a b:Bool)(rs:List Rn)(hs:List Int),ds=[.int n,.lst a (rs.map runD),.lst b (hs.map D.int)]/\Fen.zay n rs/\n<=40/\rs.length<=1000/\∀o,Fen.RingIs n rs hs o->Q (zrp o)
def zeR:Fn:=λds Q=>∃(n:Nat)(a:Bool)(rs:List Rn),ds=[.int n,.lst a (rs.map runD)]/\Fen.zay n rs/\n<=1000/\rs.length<=1000/\(Fen.zgl rs->Q .non)/\∀hts,Fen.zeO n rs hts->Q (.lst true (hts.map D.int))
def zfb:Fn:=λds Q=>∃(n:Nat)(a:Bool)(rs:List Rn),ds=[.int n,.lst a (rs.map runD)]/\Fen.zay n rs/\n<=60/\rs.length<=1000/\∀gs,Fen.zko n rs gs->Q (.lst true (gs.map λg=>.lst true (g.map D.int)))
theorem zc0 :∀{rs:List Rn}{vs:List V},Reps c G (rs.map runD) vs->∃rs':List Rn,vs=rs'.map Fen.runV/\Fen.Runs c.K G rs'/\Fen.Er rs' rs
 |[],vs,h=>by cases h;exact⟨[],rfl,(λr hr=>by cases hr),rfl⟩
 |r::rs,vs,⟨v,ws,e,h1,h2⟩=>by
  obtain⟨rs',e1,e2,e3⟩:=zc0 h2;obtain⟨a,us,ea,ha,hu⟩:=h1;obtain⟨u1,u2,eu,i1,j1⟩:=hu;obtain⟨u3,u4,eu2,i2,j2⟩:=j1;obtain⟨u5,u6,eu3,i3,j3⟩:=j2;obtain⟨u7,u8,eu4,i4,j4⟩:=j3;cases i1;cases i2;cases i3;cases i4;cases j4;subst eu4 eu3 eu2 eu;refine⟨{r with p:=a}::rs',?_,?_,?_⟩
  .rw[e,ea,e1];rfl
  .intro q hq;rcases YAn.mp hq with rfl|hq
   .exact ha
   .exact e2 q hq
  .show List.map _ _=List.map _ _;rw[YAb,YAb,show rs'.map Fen.zcn=rs.map Fen.zcn from e3];rfl
def zeY(G H':Hp)(nl:Addr->Prop)[DecidablePred nl]:Hp:=λa=>match G a with
 |some o=>some o
 |none=>if nl a then H' a else match H' a with
  |some (.tup xs)=>some (.tup xs)
  |some (.frz o b)=>some (.frz o b)
  |_=>none
def zdi[DecidablePred nl](gh:Same G H)(bx:BoxD β H G)(S:Same H H')(hn:∀a,nl a->H a=none):Stp β H G H' (zeY G H' nl)where
 bc:=λcc p r d h=>⟨p,r,d,S _ _ h⟩
 gg:=λa o e=>by unfold zeY;rw[e]
 gh:=λa o e=>by
  unfold zeY at e;cases z:G a with
  |some u=>rw[z]at e;cases e;exact S _ _ (gh _ _ z)
  |none=>
   rw[z]at e;simp only at e;split at e
   .exact e
   .split at e
    .cases e;assumption
    .cases e;assumption
    .cases e
 fr:=λa o _ e=>S a o e
 nw:=λa e=>by
  unfold zeY at e;cases z:G a with
  |some u=>exact .inl (λw=>by cases w)
  |none=>
   rw[z]at e;simp only at e;refine .inr ?_;split at e
   .exact .inl (hn a (by assumption))
   .cases y:H a with
    |none=>exact .inl rfl
    |some o=>
     have:=S a o y
     rw[this]at e;refine .inr ⟨o,rfl,?_⟩;cases o<;>first|trivial|exact(e rfl)
 bx:=by
  obtain⟨cc,p,r,d,ns,h,a,b,c,f,g,i⟩:=bx.ex;refine⟨⟨cc,p,r,d,ns,S _ _ h,a,b,c,f,by unfold zeY;rw[g],i⟩,?_⟩;unfold zeY;rw[bx.still];simp only;rw[if_neg (λz=>by rw[hn _ z]at h;cases h),S _ _ h];rfl
 b0:=λz=>by obtain⟨o,h⟩:=bx.at;rw[z]at h;cases h
def zfT[DecidablePred nl](gh:Same G H')(h:SqT K H' a vs):SqT K (zeY G H' nl) a vs:=by
 rcases h with h|h
 .rcases h with h|⟨o,h⟩
  .refine .inl (.inl ?_);unfold zeY;cases z:G a with
   |some u=>simp only;rw[<-h,gh _ _ z]
   |none=>simp only;rw[h];split<;>rfl
  .refine .inl (.inr ⟨o,?_⟩);unfold zeY;cases z:G a with
   |some u=>simp only;rw[<-h,gh _ _ z]
   |none=>simp only;rw[h];split<;>rfl
 .exact .inr h
def zf0[DecidablePred nl](gh:Same G H')(hn:nl a)(h:H' a=some o):zeY G H' nl a=some o:=by
 unfold zeY;cases z:G a with
 |some u=>simp only;rw[<-h,gh _ _ z]
 |none=>simp only;rw[if_pos hn,h]
def zeE(h:Rep c G (.lst n xs) v):∃a vs,v=.ref a/\G a=some (.lst vs)/\Reps c G xs vs:=by
 obtain⟨a,vs,h1,h2,_,h3⟩:=h;exact⟨a,vs,h1,h2,h3⟩
def zi0{c:Bk}{G:Hp}{a:Addr}{ns:List Int}(h:SqT c.K G a (ns.map V.int)):Rep c G (.tup (ns.map D.int)) (.ref a):=⟨a,_,rfl,h,reps_ints.mpr rfl⟩
def zfC:Fn:=fnW 5 ((retW (isNW (zas 5 zbv (zab (vW 0) (zab (vW 1) (zab (vW 2) (zab (vW 3) (zab (vW 4) nilA)))))))))
noncomputable def zbs:Fn:=fnW 11 ((seqW (ownW 2 (zj8 (vW 0)))
  (seqW (ownW 3 (mulL (valW (lstW (zab (kW (.int 0)) nilA))) (vW 0)))
  (seqW (forW (seqI (vW 1)) (.tp 4 (.cons (.nm 4) (.cons (.nm 5) (.cons (.nm 6) (.cons (.nm 7) .nil))))) (seqW (asgW (.nm 8) (binW subD (binW addD (ixvW 3 (vW 4)) (vW 6)) (ixvW 3 (vW 5))))
  (ifS (blW (binW eqD (ixvW 2 (vW 4)) (ixvW 2 (vW 5)))) (ifS (blW (binW neD (vW 8) (kW (.int 0)))) (retW (kW .non)) nilS) (seqW (asgW (.nm 9) (valW (lstW (zab (ixvW 2 (vW 4)) (zab (ixvW 2 (vW 5)) nilA)))))
  (forW (zew (vW 0)) (.nm 10) (ifS (blW (binW eqD (ixvW 2 (vW 10)) (ixvW 9 (kW (.int 1))))) (seqW (putW 2 (vW 10) (ixvW 9 (kW (.int 0))))
  (zfr 3 (vW 10) (vW 8))) nilS))))))
  (frzW 3 (frzW 2 (retW (tupW (zab (vW 2) (zab (vW 3) nilA))))))))))
def zbm:Fn:=fnW 2 ((retW (binW ixD (zas 2 zbs (zab (vW 0) (zab (valW (zaQ [none,none,none,none] (seqI (vW 1)) (.tp 4 (.cons (.nm 0) (.cons (.nm 1) (.cons (.nm 2) (.cons (.nm 3) .nil))))) noIf (tupW (zab (vW 0) (zab (vW 1) (zab (kW (.int 0)) (zab (vW 3) nilA))))))) nilA))) (kW (.int 0)))))
theorem zfn:∀xs ys:List Int,PyData.eqvAll (zb4 (xs.map D.int)) (zb4 (ys.map D.int))=decide (xs=ys)
 |[],[]=>rfl
 |[],_::_=>by simp[zb4,PyData.eqvAll]
 |_::_,[]=>by simp[zb4,PyData.eqvAll]
 |x::xs,y::ys=>by
  rw[YAb,YAb,zb4,zb4,PyData.eqvAll,zfn xs ys];show((x==y)&&_)=_;by_cases h:x=y<;>by_cases h2:xs=ys<;>simp[h,h2]
def znC(a b:Bool)(xs ys:List Int):eqB (.lst a (xs.map D.int)) (.lst b (ys.map D.int))=decide (xs=ys):=by
 unfold eqB toPy;rw[PyData.eqv];exact zfn xs ys
def zmV(a b:Bool)(xs ys:List Int):eqOk (.lst a (xs.map D.int)) (.lst b (ys.map D.int)):=by
 refine⟨by unfold layD;exact zfa xs,by unfold layD;exact zfa ys,?_⟩;unfold toPy PyData.depth;rw[zfi,zfi];decide
mutual
theorem zof:∀d:D,PyData.eqv (toPy d) (toPy d)=true
 |.non=>by unfold toPy;rfl
 |.bl b=>by unfold toPy;rw[PyData.eqv];simp
 |.int b=>by unfold toPy;rw[PyData.eqv];simp
 |.str b=>by unfold toPy;rw[PyData.eqv];simp
 |.box=>by unfold toPy;rfl
 |.tup xs=>by unfold toPy;rw[PyData.eqv];exact zdW xs
 |.lst _ xs=>by unfold toPy;rw[PyData.eqv];exact zdW xs
theorem zdW:∀xs:List D,PyData.eqvAll (zb4 xs) (zb4 xs)=true
 |[]=>rfl
 |x::xs=>by rw[zb4,PyData.eqvAll,zof x,zdW xs];rfl
end
def zok(r:Rn):toPy (runD r)=.tuple [.int r.one,.int r.oW,.int r.rise,.int r.hand]:=rfl
theorem zhU:∀rs:List Rn,zd0 (rs.map runD)=true
 |[]=>rfl
 |r::rs=>by rw[YAb,zd0,zhU rs];rfl
theorem zkh:∀rs:List Rn,PyData.depthAll (zb4 (rs.map runD))<=1
 |[]=>by simp[zb4,PyData.depthAll]
 |r::rs=>by
  rw[YAb,zb4,PyData.depthAll,zok]
  have:=zkh rs
  simp only[PyData.depth,PyData.depthAll];omega
def zi1(a b:Bool)(rs ss:List Rn):eqOk (.lst a (rs.map runD)) (.lst b (ss.map runD)):=by
 refine⟨by unfold layD;exact zhU rs,by unfold layD;exact zhU ss,?_⟩
 have:=zkh rs
 unfold toPy PyData.depth;omega
def zj2(a b:Bool)(rs:List Rn):eqB (.lst a (rs.map runD)) (.lst b (rs.map runD))=true:=by unfold eqB toPy;rw[PyData.eqv];exact zdW _
def zjg(fs:List Int):zg2 fs=decide (fs=zbP fs):=by
 by_cases h:fs=zbP fs
 .rw[YAH h,zek,h];exact zb2 fs
 .rw[YAN h];cases e:zg2 fs with
  |false=>rfl
  |true=>exact absurd (zqf ((zek fs).mp e) λk=>Iff.rfl) h
def zez(a b c:Bool)(size many:Int)(rs:List Rn)(fs hs:List Int)(hl:rs.length<64)(hf:fs.length<64)(hh:hs.length<=1000)(hm:InM size rs) :
  zaZ [.int size,.lst a (rs.map runD),.int many,.tup [.lst b (fs.map D.int),.lst c (hs.map D.int)]] (·=.bl (zhI size rs many fs hs)):=by
 unfold zaZ fnW zaM;rw[YAb,YAb,YAb,YAb,zaP,ze9,za3,za3,zap,zap];refine⟨za4 _ _,rfl,rfl,zaT (zbY _ fs _ (by omega)) λd hd=>?_⟩;have hd:d=.bl true:=by rw[hd,YAc,YAH rfl]
 subst hd;refine⟨rfl,zaT (zbY _ hs size hh) λd hd=>?_⟩;subst hd;cases hz:decide ((hs.length:Int)=size)with
 |false=>
  show D.bl false=_;unfold zhI;rw[hz,YEg];rfl
 |true=>
  show if decide (many<((fs.map D.int).length:Int))=true then _ else _;rw[YAc];have hz':=YA7 hz;by_cases hmn:many<(fs.length:Int)
  .rw[YAH hmn];show D.bl false=_;unfold zhI;rw[YAN (by omega)];rfl
  .rw[YAN hmn];refine⟨fs,rfl,hf,zmV _ _ _ _,?_⟩;show if (!eqB (.lst false (fs.map D.int)) (.lst true ((zbP fs).map D.int)))=true then _ else _;rw[znC,<-zjg];cases hg:zg2 fs with
   |false=>
    show D.bl false=_;unfold zhI;rw[hg,YEg];rfl
   |true=>
    refine⟨by simp;omega,zaW D.int (λh=>.bl ((zaj rs).contains h)) fs (λx hx qe N y=>⟨rfl,zaT (zdr _ rs hl) λd hd=>?_⟩) ?_⟩
    .subst hd;exact zrd y
    refine zdj (n:=true) (f:=λh=>(zaj rs).contains h) (xs:=fs) ?_;cases ha:fs.all λh=>(zaj rs).contains h with
    |false=>
     show D.bl false=_;unfold zhI;rw[ha,YEg];rfl
    |true=>
     refine⟨rfl,zaT (zd3 _ _ rs fs (by omega)) λd hd=>?_⟩;subst hd;have ll:=zct rs fs;refine⟨by simp;omega,zaW runD (λr=>.bl (zgf hs r)) _ (λr hr qe N y=>?_) ?_⟩
     .obtain⟨h1,h2,h3,h4⟩:=zkz hm fs r hr;refine zb1 h3 (by omega) (zb1 h1 (by omega) (zrs ?_));exact y
     .refine zdj (n:=true) (f:=zgf hs) (xs:=zaC rs fs) ?_;show D.bl _=_;unfold zhI;rw[hg,ha,hz,YAH (by omega)];rfl
theorem zeL{α β:Type}(p:α->Bool)(f:α->β):∀xs:List α,xs.filterMap (λx=>if p x=true then some (f x)else none)=(xs.filter p).map f
 |[]=>rfl
 |x::xs=>by
  rw[YA1,YBo,zeL p f xs];cases p x<;>rfl
def zod{hs:List Int}{i:Int}{Q:Nat->Prop}(h0:0<=i)(h1:i<hs.length)(q:Q i.toNat):ixS (hs.map D.int) (.int i) Q:=by
 show(match ixN (hs.map D.int).length i with|some m=>Q m|none=>False);unfold ixN;rw[if_pos h0,YAc,if_pos h1];exact q
def zmB(h0:0<=i)(h1:i<hs.length)(q:Q i.toNat (Fen.gI hs i)):getI (hs.map D.int) (.int i) Q:=by
 show(match (hs.map D.int)[i.toNat]? with|some (.int a)=>0<=i/\Q i.toNat a|_=>False);have hn:i.toNat<hs.length:=by omega
 have e:Fen.gI hs i=hs[i.toNat]:=by unfold Fen.gI;rw[YAs,YAe hn];rfl
 rw[YAo,YAe hn];rw[e]at q;exact⟨h0,q⟩
def zj6(hs:List Int)(m:Nat)(v:Int):(hs.map D.int).set m (.int v)=(hs.set m v).map D.int:=by rw[List.map_set]
def zaJ(h0:0<=i)(h1:i<hs.length)(q:Q (.int (Fen.gI hs i))):itD (hs.map D.int) (.int i) Q:=zb1 h0 h1 q
def zmI{i:Nat}{I A:WE}{E:En}{M:Env}{hs:List Int}{k b:Int}(h:M[i]?=some (.own (hs.map D.int)))(hI:∀Q:D->Prop,Q (.int k)->I M Q)(hA:∀Q:D->Prop,Q (.int b)->A M Q)(k0:0<=k)(k1:k<hs.length)
  (q:E.nx (M.set i (.own ((hs.set k.toNat (Fen.gI hs k+b)).map D.int)))):zfr i I A E M:=by
 unfold zfr;rw[h];refine hI _ (zmB k0 k1 (hA _ ?_));show E.nx _;rw[zj6];exact q
def ze2(a:Bool)(n:Nat)(rs:List Rn)(hn:n<=1000)(hm:Fen.zay n rs) :
  zbs [.int n,.lst a (rs.map runD)] (λd=>(d=.non/\Fen.zgl rs)\/∃lab hts:List Int,d=.tup [.lst true (lab.map D.int),.lst true (hts.map D.int)]/\lab.length=n/\hts.length=n/\Fen.zha n rs lab/\Fen.HtOk rs hts):=by
 unfold zbs fnW zaM;rw[YAb,YAb,zaP,zap];refine⟨⟨by omega,by omega⟩,by show 1<=100000;decide,⟨by omega,by omega,by show 1<=1000;decide⟩,?_⟩;have e1:((List.range (n:Int).toNat).map λ(k:Nat)=>D.int (k:Int))=((List.range n).map Int.ofNat).map D.int:=by rw[YAK,YAE];rfl
 have e2:(List.replicate (n:Int).toNat [D.int 0]).flatten=(List.replicate n (0:Int)).map D.int:=by
  rw[YAE,YDr];clear hn hm e1
  induction n with
  |zero=>rfl
  |succ n ih=>rw[YAV,YBj,ih,YAV];rfl
 refine zaS (λrest M=>∃(done oZ:List Rn)(lab hts:List Int)(s4 s5 s6 s7 s8 s9 s10:Sl),M=[.val (.int n),.val (.lst false (rs.map runD)),.own (lab.map D.int),.own (hts.map D.int),s4,s5,s6,s7,s8,s9,s10] /\
  rest=oZ.map runD/\rs=done++oZ/\lab.length=n/\hts.length=n/\Fen.zha n done lab/\Fen.HtOk done hts) ?_ ?_ _ _ ⟨[],rs,(List.range n).map Int.ofNat,List.replicate n 0,.un,.un,.un,.un,.un,.un,.un,by rw[<-e1,<-e2];rfl,rfl,rfl,by simp,by simp,(Fen.zhW n).1,(Fen.zhW n).2⟩
 .rintro x rest M E' hn' hc hr hb ⟨done,oZ,lab,hts,s4,s5,s6,s7,s8,s9,s10,rfl,er,ers,ll,lh,LO,HO⟩;cases oZ with
  |nil=>cases er
  |cons r oZ=>
   rw[YAb]at er;injection er with er1 er2
   subst er1;have V0:=hm r (by rw[ers];exact YAl _ YAi);have VD:Fen.zay n done:=λq hq=>hm q (by rw[ers];exact YAx _ hq);have esplit:rs=(done++[r])++oZ:=by rw[ers,YAB];rfl
   refine⟨rfl,zaJ V0.1 (by omega) (zaJ V0.2.2.1 (by omega) ?_)⟩;refine zaJ V0.1 (by omega) (zaJ V0.2.2.1 (by omega) ⟨za4 _ _,?_⟩);rw[zcm];by_cases hlab:Fen.gI lab r.one=Fen.gI lab r.oW
   .rw[YAH hlab];refine⟨za4 _ _,?_⟩;rw[zcm];by_cases hb0:Fen.gI hts r.one+r.rise-Fen.gI hts r.oW=0
    .rw[YAH hb0];obtain⟨a1,a2⟩:=Fen.znX V0 LO HO hlab hb0;exact hn' _ ⟨done++[r],oZ,lab,hts,_,_,_,_,_,_,_,rfl,er2,esplit,ll,lh,a1,a2⟩
    .rw[YAN hb0];refine hr _ (.inl ⟨rfl,?_⟩);rw[ers];exact Fen.zog V0 LO HO hlab hb0
   .rw[YAN hlab];refine zaJ V0.1 (by omega) (zaJ V0.2.2.1 (by omega) ⟨by show 2<=100000;decide,⟨by omega,by omega⟩,?_⟩);rw[YAE];refine zaS (λrest M=>∃(k:Nat)(lab' hts':List Int)(s10:Sl),M=[.val (.int n),.val (.lst false (rs.map runD)),.own (lab'.map D.int),.own (hts'.map D.int),.val (.int r.one),.val (.int r.oW),.val (.int r.rise),.val (.int r.hand),.val (.int (Fen.gI hts r.one+r.rise-Fen.gI hts r.oW)),.val (.lst true ([Fen.gI lab r.one,Fen.gI lab r.oW].map D.int)),s10] /\
     k<=n/\rest=rngL k (n-k)/\lab'.length=n/\hts'.length=n/\(∀i:Int,0<=i->i<n->Fen.gI lab' i=if i<k/\Fen.gI lab i=Fen.gI lab r.oW then Fen.gI lab r.one else Fen.gI lab i) /\
     ∀i:Int,0<=i->i<n->Fen.gI hts' i=if i<k/\Fen.gI lab i=Fen.gI lab r.oW then Fen.gI hts i+(Fen.gI hts r.one+r.rise-Fen.gI hts r.oW)else Fen.gI hts i) ?_ ?_ _ _ ⟨0,lab,hts,s10,rfl,by omega,rfl,ll,lh,λi i0 i1=>by rw[if_neg (by omega)],λi i0 i1=>by rw[if_neg (by omega)]⟩
    .rintro x2 rest2 M E2 hn2 hc2 hr2 hb2 ⟨k,lab',hts',s10,rfl,hk,er3,ll2,lh2,q1,q2⟩;have hk2:k<n:=by
      rcases YCV k n with h|h
      .exact h
      .rw[YCu h]at er3;cases er3
     obtain⟨m,hm2⟩:∃m,n-k=m+1:=⟨n-k-1,by omega⟩;rw[hm2,zd9]at er3;injection er3 with er4 er5
     subst er4;have er6:rest2=rngL ((k+1:Nat):Int) (n-(k+1)):=by rw[er5,show n-(k+1)=m by omega];rfl
     refine zaJ (by omega) (by omega) ⟨za4 _ _,?_⟩;rw[zcm];have qk:=q1 k (by omega) (by omega);rw[if_neg (by omega)]at qk;show if decide (Fen.gI lab' k=Fen.gI lab r.oW)=true then _ else _;by_cases hc3:Fen.gI lab k=Fen.gI lab r.oW
     .rw[YAH (qk.trans hc3)];refine zod (by omega) (by omega) ?_;dsimp only;refine zmI (hs:=hts') (k:=k) (b:=Fen.gI hts r.one+r.rise-Fen.gI hts r.oW) rfl (λQ q=>q) (λQ q=>q) (by omega) (by omega) ?_;refine hn2 _ ⟨k+1,lab'.set k (Fen.gI lab r.one),hts'.set k (Fen.gI hts' k+(Fen.gI hts r.one+r.rise-Fen.gI hts r.oW)),.val (.int k),by rw[<-zj6 lab',YAE];rfl,by omega,er6,by simpa using ll2,by simpa using lh2,λi i0 i1=>?_,λi i0 i1=>?_⟩
      .rw[Fen.zgz (by omega) i0];by_cases e:i=(k:Int)
       .rw[if_pos e,if_pos ⟨by omega,by rw[e];exact hc3⟩]
       .rw[if_neg e,q1 i i0 i1];by_cases z:i<(k:Int)/\Fen.gI lab i=Fen.gI lab r.oW
        .rw[if_pos z,if_pos ⟨by omega,z.2⟩]
        .rw[if_neg z,if_neg (λy=>z ⟨by omega,y.2⟩)]
      .rw[Fen.zgz (by omega) i0];by_cases e:i=(k:Int)
       .rw[if_pos e,if_pos ⟨by omega,by rw[e];exact hc3⟩,e,q2 k (by omega) (by omega),if_neg (by omega)]
       .rw[if_neg e,q2 i i0 i1];by_cases z:i<(k:Int)/\Fen.gI lab i=Fen.gI lab r.oW
        .rw[if_pos z,if_pos ⟨by omega,z.2⟩]
        .rw[if_neg z,if_neg (λy=>z ⟨by omega,y.2⟩)]
     .rw[YAN (λz=>hc3 (qk.symm.trans z))];refine hn2 _ ⟨k+1,lab',hts',.val (.int k),rfl,by omega,er6,ll2,lh2,λi i0 i1=>?_,λi i0 i1=>?_⟩
      .rw[q1 i i0 i1];by_cases z:i<(k:Int)/\Fen.gI lab i=Fen.gI lab r.oW
       .rw[if_pos z,if_pos ⟨by omega,z.2⟩]
       .rw[if_neg z,if_neg (λy=>z ⟨by
         have:i≠(k:Int):=λe=>hc3 (e▸y.2)
         omega,y.2⟩)]
      .rw[q2 i i0 i1];by_cases z:i<(k:Int)/\Fen.gI lab i=Fen.gI lab r.oW
       .rw[if_pos z,if_pos ⟨by omega,z.2⟩]
       .rw[if_neg z,if_neg (λy=>z ⟨by
         have:i≠(k:Int):=λe=>hc3 (e▸y.2)
         omega,y.2⟩)]
    .rintro M ⟨k,lab',hts',s10,rfl,hk,er3,ll2,lh2,q1,q2⟩;have hkn:n-k=0:=by
      have:=congrArg List.length er3
      rw[zbb]at this;simpa using this.symm
     have hkn:k=n:=by omega
     subst hkn;obtain⟨a1,a2⟩:=Fen.znK VD V0 LO HO hlab (λi i0 i1=>by
      rw[q1 i i0 i1];by_cases z:Fen.gI lab i=Fen.gI lab r.oW
      .rw[if_pos ⟨i1,z⟩,if_pos z]
      .rw[if_neg (λy=>z y.2),if_neg z]) (λi i0 i1=>by
      rw[q2 i i0 i1];by_cases z:Fen.gI lab i=Fen.gI lab r.oW
      .rw[if_pos ⟨i1,z⟩,if_pos z]
      .rw[if_neg (λy=>z y.2),if_neg z])
     exact hn' _ ⟨done++[r],oZ,lab',hts',_,_,_,_,_,_,_,rfl,er2,esplit,ll2,lh2,a1,a2⟩
 .rintro M ⟨done,oZ,lab,hts,s4,s5,s6,s7,s8,s9,s10,rfl,er,ers,ll,lh,LO,HO⟩;cases oZ with
  |cons r oZ=>cases er
  |nil=>
   rw[YAR]at ers;subst ers;exact⟨by show 2<=100000;decide,.inr ⟨lab,hts,rfl,ll,lh,LO,HO⟩⟩
def r0(r:Rn):Rn:={r with rise:=0}
def zfs(a:Bool)(n:Nat)(rs:List Rn)(hn:n<=1000)(hl:rs.length<=1000)(hm:Fen.zay n rs) :
  zbm [.int n,.lst a (rs.map runD)] (λd=>∃lab:List Int,d=.lst true (lab.map D.int)/\lab.length=n/\Fen.zha n rs lab):=by
 unfold zbm fnW zaM;rw[YAb,YAb,zaP,zap];have hm0:Fen.zay n (rs.map r0):=λr hr=>by
  obtain⟨q,hq,rfl⟩:=YAF.mp hr;exact hm q hq
 refine⟨by simp;omega,zaW runD (λr=>runD (r0 r)) rs (λr hr qe N y=>⟨rfl,by show 4<=100000;decide,y⟩) ?_⟩;rw[show(rs.map λr=>runD (r0 r))=(rs.map r0).map runD by rw[YAK];rfl];refine⟨rfl,zaT (ze2 _ n (rs.map r0) hn hm0) λd hd=>?_⟩;rcases hd with⟨rfl,no⟩|⟨lab,hts,rfl,ll,lh,LO,HO⟩
 .exact absurd (λr hr=>by obtain⟨q,hq,rfl⟩:=YAF.mp hr;rfl) (no λ_=>0)
 .refine⟨lab,rfl,ll,λi j a b c d=>(LO i j a b c d).trans ⟨λx=>x.mono λr hr=>?_,λx=>x.mono λr hr=>⟨r0 r,YAQ hr,rfl,rfl⟩⟩⟩;obtain⟨q,hq,rfl⟩:=YAF.mp hr;exact⟨q,hq,rfl,rfl⟩
def zms(a b:Bool)(n:Nat)(rs:List Rn)(hs:List Int)(one oW:Int)(hm:Fen.zay n rs)(h0:0<=one)(h1:one<n)(hn:n<=1000)(hl:rs.length<=1000) :
  zfC [.int n,.lst a (rs.map runD),.lst b (hs.map D.int),.int one,.int oW] (λd=>∃x:Bool,d=.bl x/\(x=true↔¬ Fen.Conn (Fen.usable hs rs) one oW)):=by
 unfold zfC fnW zaM;rw[YAb,YAb,YAb,YAb,YAb,zaP,za3,zap,zap,zap];refine⟨rfl,zaT (F:=zbv) (P:=λd=>∃o,d=zo9 o/\Fen.LineIs n rs hs one oW o) ⟨n,false,false,rs,hs,one,oW,rfl,hm,h0,h1,hn,hl,λo ho=>⟨o,rfl,ho⟩⟩ λd ⟨o,hd,ho⟩=>?_⟩;subst hd;refine⟨o.isNone,by cases o<;>rfl,?_⟩;rw[<-ho.none_iff];cases o<;>simp
def zeT(rs:List Rn)(hs:List Int):zaC rs hs=Fen.usable hs rs:=by
 unfold zaC Fen.usable;rfl
noncomputable def zbl:Fn:=fnW 4 ((seqW (asgW (.nm 2) (valW (lstW (zab (valW (lstW nilA)) nilA))))
  (seqW (forW (zew (vW 1)) (.nm 3) (asgW (.nm 2) (valW (zfj [none,none,some 0] (seqI (vW 2)) (.nm 0) (seqI (vW 2)) (.nm 1) (orT (notT (truW (vW 0))) (blW (binW ltD (ixvW 0 (unW negD (kW (.int 1)))) (vW 1)))) (binW addD (vW 0) (valW (lstW (zab (vW 1) nilA))))))))
  (retW (vW 2)))))
noncomputable def zbR:Fn:=fnW 7 ((seqW (asgW (.nm 3) (zas 1 za6 (zab (vW 1) nilA)))
  (seqW (ownW 4 (lstW nilA))
  (seqW (forW (zew (binW addD (cbW minF (zab (vW 2) (zab (zdp 3) nilA))) (kW (.int 1)))) (.nm 5) (forW (seqI (zas 2 zbl (zab (vW 3) (zab (vW 5) nilA)))) (.nm 6) (ifS (blW (zgj (zas 2 zeR (zab (vW 0) (zab (zas 2 zdf (zab (vW 1) (zab (vW 6) nilA))) nilA))))) (appW 4 (vW 6)) nilS)))
  (frzW 4 (retW (vW 4)))))))
noncomputable def zda:Fn:=fnW 7 ((seqW (asgW (.nm 3) (zas 1 za6 (zab (vW 1) nilA)))
  (seqW (forW (zew (binW addD (cbW minF (zab (vW 2) (zab (zdp 3) nilA))) (kW (.int 1)))) (.nm 4) (forW (seqI (zas 2 zbl (zab (vW 3) (zab (vW 4) nilA)))) (.nm 5) (seqW (asgW (.nm 6) (zas 2 zeR (zab (vW 0) (zab (zas 2 zdf (zab (vW 1) (zab (vW 5) nilA))) nilA))))
  (ifS (blW (zgj (vW 6))) (retW (tupW (zab (vW 5) (zab (vW 6) nilA)))) nilS))))
  (retW (kW .non)))))
def zbA:Fn:=fnW 2 ((retW (zas 1 za6 (zab (valW (zaQ [none,some 0] (seqI (vW 1)) (.nm 0) noIf (ixvW 1 (vW 0)))) nilA))))
noncomputable def zaB:Nat->Fn
 |0=>λ_ _=>False
 |n+1=>fnW 13 ((seqW (asgW (.nm 5) (kW (.str "ring")))
  (seqW (asgW (.nm 6) (zas 3 zcQ (zab (vW 0) (zab (vW 1) (zab (vW 3) nilA)))))
  (seqW (ifS (blW (isNW (vW 6))) (seqW (asgW (.nm 5) (kW (.str "line")))
  (seqW (asgW (.tp 2 (.cons (.nm 7) (.cons (.nm 8) .nil))) (vW 4))
  (asgW (.nm 6) (tupW (zab (vW 7) (zab (zas 5 zbv (zab (vW 0) (zab (vW 1) (zab (vW 3) (zab (vW 7) (zab (vW 8) nilA)))))) nilA)))))) nilS)
  (seqW (asgW (.tp 2 (.cons (.nm 9) (.cons (.nm 10) .nil))) (vW 6))
  (seqW (asgW (.nm 11) (ifW (blW (binW gtD (vW 2) (kW (.int 0)))) (zas 2 zbA (zab (vW 1) (zab (vW 10) nilA))) (valW (lstW nilA))))
  (seqW (asgW (.nm 12) (valW (zaQ [none,some 0,some 1,some 4,some 2,some 3] (seqI (vW 11)) (.nm 0) noIf (tupW (zab (vW 0) (zab (zas 5 (zaB n) (zab (vW 1) (zab (vW 2) (zab (binW subD (vW 4) (kW (.int 1))) (zab (binW addD (vW 5) (valW (lstW (zab (vW 0) nilA)))) (zab (vW 3) nilA)))))) nilA))))))
  (retW (tupW (zab (vW 5) (zab (vW 9) (zab (vW 10) (zab (cbW zdu (zab (vW 12) nilA)) nilA)))))))))))))
def zbh:Fn:=fnW 5 ((retW (zas 5 (zaB 6) (zab (vW 0) (zab (vW 1) (zab (vW 2) (zab (valW (lstW nilA)) (zab (tupW (zab (vW 3) (zab (vW 4) nilA))) nilA))))))))
def zbU:Fn:=fnW 3 ((seqW (ifS (blW (zgj (zas 3 zda (zab (vW 0) (zab (vW 1) (zab (vW 2) nilA)))))) (retW (kW .non)) nilS)
  (retW (zas 5 zbh (zab (vW 0) (zab (vW 1) (zab (vW 2) (zab (kW (.int 0)) (zab (kW (.int 0)) nilA)))))))))
def lsD(l:List Int):D:=.lst true (l.map D.int)
def okN(l:List Int)(h:Int):Bool:=l.isEmpty || decide (l.getLastD 0<h)
def nxt(oY l:List Int):List Int:=oY.filter (okN l)
def zaD(oY:List Int):Nat->List (List Int)
 |0=>[[]]
 |k+1=>(zaD oY k).flatMap λl=>(nxt oY l).map λh=>l++[h]
def wt(oY l:List Int):Nat:=2^(nxt oY l).length
theorem zl5:∀s:List Int,s.Pairwise (·<·)->(s.map λh=>2^(s.filter λx=>decide (h<x)).length).sum+1=2^s.length
 |[],_=>rfl
 |x::s,h=>by
  obtain⟨h1,h2⟩:=YBh.mp h;have e1:(x::s).filter (λy=>decide (x<y))=s:=by
   rw[YBo,if_neg (by simp)];exact YDj.mpr λy hy=>YAH (h1 y hy)
  have e2:s.map (λh=>2^((x::s).filter λy=>decide (h<y)).length)=s.map (λh=>2^(s.filter λy=>decide (h<y)).length):=YBN λy hy=>by
   rw[YBo,if_neg (by have:=h1 y hy;simp;omega)]
  rw[YAb,YC6,e1,e2,YAS,Nat.pow_succ]
  have:=zl5 s h2
  omega
def snocs(l:List Int):l=[]\/∃m a,l=m++[a]:=(List.eq_nil_or_concat l).imp id λ⟨m,a,e⟩=>⟨m,a,by rw[e,List.concat_eq_append]⟩
def zd4(l:List Int)(h:Int):(l++[h]).getLastD 0=h:=by simp
def zj1(l:List Int)(h x:Int):okN (l++[h]) x=decide (h<x):=by
 unfold okN;rw[zd4];simp
def znh(h1:okN l h=true)(h2:h<x):okN l x=true:=by
 unfold okN at h1 ⊢;rw[Bool.or_eq_true]at h1 ⊢;rcases h1 with e|e
 .exact .inl e
 .exact .inr (YAH (YD3 (YA7 e) h2))
def znU(hh:h∈nxt oY l):nxt oY (l++[h])=(nxt oY l).filter λx=>decide (h<x):=by
 unfold nxt;rw[List.filter_filter];refine List.filter_congr λx _=>?_;rw[zj1];have ho:=(YBa.mp hh).2;by_cases z:h<x
 .rw[YAH z,znh ho z];rfl
 .rw[YAN z];rfl
def zq3(u:oY.Pairwise (·<·))(l:List Int):(nxt oY l).Pairwise (·<·):=u.filter _
def zrx(u:oY.Pairwise (·<·))(l:List Int):(((nxt oY l).map λh=>l++[h]).map (wt oY)).sum+1=wt oY l:=by
 rw[YAK]
 have:=zl5 _ (zq3 u l)
 unfold wt;rw[<-this];congr 2;refine YBN λh hh=>?_;show 2^(nxt oY (l++[h])).length=_;rw[znU hh]
theorem zkn{α β:Type}(f:α->List β)(w:β->Nat):∀xs:List α,((xs.flatMap f).map w).sum=(xs.map λx=>((f x).map w).sum).sum
 |[]=>rfl
 |x::xs=>by rw[YCA,YAy,List.sum_append,zkn f w xs,YAb,YC6]
theorem zoM{α:Type}{f g:α->Nat}:∀{xs:List α},(∀x∈xs,f x<=g x)->(xs.map f).sum<=(xs.map g).sum
 |[],_=>YAj _
 |x::xs,h=>by
  rw[YAb,YAb,YC6,YC6];exact Nat.add_le_add (h x YAi) (zoM λy hy=>h y (YAp _ hy))
theorem zki{oY:List Int}(u:oY.Pairwise (·<·)):∀k,((zaD oY k).map (wt oY)).sum<=2^oY.length
 |0=>by
  have:nxt oY []=oY:=YDj.mpr λx _=>rfl
  show(2^(nxt oY []).length)+0<=_;rw[this];exact YAj _
 |k+1=>by
  refine YAU ?_ (zki u k);show(((zaD oY k).flatMap λl=>(nxt oY l).map λh=>l++[h]).map (wt oY)).sum<=_;rw[zkn];exact zoM (f:=λl=>(((nxt oY l).map λh=>l++[h]).map (wt oY)).sum) (g:=wt oY) λl _=>by have:=zrx u l;show _<=_;omega
theorem zgB{α:Type}{f:α->Nat}:∀{xs:List α},(∀x∈xs,1<=f x)->xs.length<=(xs.map f).sum
 |[],_=>YAj _
 |x::xs,h=>by
  rw[YAb,YC6,YAS]
  have:=h x YAi
  have:=zgB λy hy=>h y (YAp x hy)
  omega
def ziy{oY:List Int}(u:oY.Pairwise (·<·))(k:Nat):(zaD oY k).length<=2^oY.length:=
 YAU (zgB λl _=>Nat.one_le_two_pow) (zki u k)
def up_snoc :(l++[h]).Pairwise (·<·)↔l.Pairwise (·<·)/\okN l h=true:=by
 rcases snocs l with rfl|⟨m,a,rfl⟩
 .simp[okN]
 .rw[YBS,zj1,YCy];constructor
  .rintro⟨h1,_,h3⟩;exact⟨h1,h3 a (by simp) h (by simp)⟩
  .rintro⟨h1,h2⟩;refine⟨h1,List.pairwise_singleton _ _,λx hx y hy=>?_⟩;rw[YAg.mp hy];rcases YAk.mp hx with e|e
   .exact YD3 ((YBS.mp h1).2.2 x e a (by simp)) h2
   .rw[YAg.mp e];exact h2
theorem mem_lists:∀{k:Nat}{l:List Int},l∈zaD oY k↔l.length=k/\l.Pairwise (·<·)/\∀h∈l,h∈oY
 |0,l=>by
  unfold zaD;constructor
  .intro h;rw[YAg.mp h];exact⟨rfl,List.Pairwise.nil,λh z=>by cases z⟩
  .rintro⟨h,_⟩;rw[YCk.mp h];exact YAg.mpr rfl
 |k+1,l=>by
  unfold zaD;rw[YCp];constructor
  .rintro⟨m,hm,hl⟩;obtain⟨h,hh,rfl⟩:=YAF.mp hl;obtain⟨e1,e2,e3⟩:=mem_lists.mp hm;obtain⟨e4,e5⟩:=YBa.mp hh;refine⟨by simp[e1],up_snoc.mpr ⟨e2,e5⟩,λx hx=>?_⟩;rcases YAk.mp hx with e|e
   .exact e3 x e
   .rw[YAg.mp e];exact e4
  .rintro⟨e1,e2,e3⟩;rcases snocs l with rfl|⟨m,a,rfl⟩
   .cases e1
   .obtain⟨e4,e5⟩:=up_snoc.mp e2;refine⟨m,mem_lists.mpr ⟨by simpa using e1,e4,λh hh=>e3 h (YAx _ hh)⟩,YAF.mpr ⟨a,YBa.mpr ⟨e3 a (by simp),e5⟩,rfl⟩⟩
theorem zi4{α:Type}(qf:Nat)(emb:α->D)(f:α->List D):∀(xs:List α)(acc:List D),
  (∀x∈xs,∀(R:List D->Prop)(acc:List D),acc.length<=qf->R (acc++f x)->gD t (emb x) Mc λM2=>I2 M2 λys=>acc.length+ys.length<=100000/\zbw t2 C E M2 R ys acc) ->
  acc.length+(xs.flatMap f).length<=qf->Q (acc++xs.flatMap f)->zdg t I2 t2 C E Mc Q (xs.map emb) acc
 |[],acc,_,_,q=>by simpa[zdg]using q
 |x::xs,acc,h,hl,q=>by
  rw[YCA,YAq]at hl;refine h x YAi _ acc (by omega) ?_;refine zi4 qf emb f xs _ (λy hy=>h y (YAp _ hy)) (by rw[YAq];omega) ?_;rw[YCA]at q;rw[YAB];exact q
def zoa(h:l≠[])(q:Q (.int (l.getLastD 0))):itD (l.map D.int) (.int (-1)) Q:=by
 rcases snocs l with rfl|⟨m,a,rfl⟩
 .exact absurd rfl h
 rw[zd4]at q;show(match atI ((m++[a]).map D.int) (-1)with|some d=>Q d|none=>False);have e:atI ((m++[a]).map D.int) (-1)=some (.int a):=by
  unfold atI ixN;rw[if_neg (by decide),if_pos (by simp;omega),YDT,YAo]
  have:(-1+(((m++[a]).map D.int).length:Int)).toNat=m.length:=by simp;omega
  rw[this];simp
 rw[e];exact q
def zc8(a:Bool)(oY:List Int)(k:Nat)(u:oY.Pairwise (·<·))(hh:oY.length<=10)(hk:k<=1000):zbl [.lst a (oY.map D.int),.int k] (·=.lst true ((zaD oY k).map lsD)):=by
 unfold zbl fnW zaM;rw[YAb,YAb,za3,zap];refine⟨by show 0<=100000;decide,by show 1<=100000;decide,⟨by omega,by omega⟩,?_⟩;rw[YAE];refine zaS (λrest M=>∃(j:Nat)(s3:Sl),M=[.val (.lst false (oY.map D.int)),.val (.int k),.val (.lst true ((zaD oY j).map lsD)),s3]/\j+rest.length=k) ?_ ?_ _ _ ⟨0,.un,rfl,by rw[zbb];omega⟩
 .rintro x rest M E' hn hc hr hb ⟨j,s3,rfl,hj⟩;rw[YAS]at hj;have hp:2^oY.length<=1024:=YAU (YC4 (by decide) hh) (by decide);have hl:=ziy u (j+1);show zdg _ _ _ _ _ _ _ ((zaD oY j).map lsD) [];refine zi4 1024 lsD (λl=>(nxt oY l).map λh=>lsD (l++[h])) (zaD oY j) [] (λl hl R acc ha q=>?_) ?_ ?_
  .obtain⟨l1,_,_⟩:=mem_lists.mp hl;refine⟨by rw[YAc];omega,zcP D.int (λh=>if okN l h=true then some (lsD (l++[h]))else none) oY acc (λh hh' qe N y=>?_) ?_⟩
   .have yes:okN l h=true->binW addD (vW 0) (valW (lstW (zab (vW 1) nilA))) [.val (lsD l),.val (.int h),.val (.lst false (oY.map D.int))] qe:=λe=>by
     rw[if_pos e]at y;refine⟨by show 1<=100000;decide,by simp;omega,?_⟩;have y:qe (lsD (l++[h])):=y;unfold lsD at y;rw[YAy]at y;exact y
    cases l with
    |nil=>exact yes rfl
    |cons b m=>
     refine zoa (by simp) ?_;show if decide ((b::m).getLastD 0<h)=true then _ else _;have e:okN (b::m) h=decide ((b::m).getLastD 0<h):=rfl;rw[<-e];cases z:okN (b::m) h with
     |true=>exact yes z
     |false=>rw[z]at y;exact y
   .rw[zeL];exact q
  .rw[YDb,Nat.zero_add]
   have:((zaD oY j).flatMap λl=>(nxt oY l).map λh=>lsD (l++[h]))=(zaD oY (j+1)).map lsD:=by
    show _=((zaD oY j).flatMap λl=>(nxt oY l).map λh=>l++[h]).map lsD;rw[YDU];congr 1;funext l;rw[YAK];rfl
   rw[this,YAc];omega
  .have:((zaD oY j).flatMap λl=>(nxt oY l).map λh=>lsD (l++[h]))=(zaD oY (j+1)).map lsD:=by
    show _=((zaD oY j).flatMap λl=>(nxt oY l).map λh=>l++[h]).map lsD;rw[YDU];congr 1;funext l;rw[YAK];rfl
   rw[YBs,this];exact hn _ ⟨j+1,.val x,rfl,by omega⟩
 .rintro M ⟨j,s3,rfl,hj⟩;rw[YDb]at hj;rw[<-hj];rfl
noncomputable def hasH(rs:List Rn):Bool:=@decide (¬ Fen.zgl rs) (Classical.propDecidable _)
def hasH_t:hasH rs=true↔¬ Fen.zgl rs:=by unfold hasH;exact @decide_eq_true_iff _ (Classical.propDecidable _)
def hasH_f:hasH rs=false↔Fen.zgl rs:=by
 constructor
 .intro h;by_cases z:Fen.zgl rs
  .exact z
  .rw[hasH_t.mpr z]at h;cases h
 .intro h;cases e:hasH rs with
  |false=>rfl
  |true=>exact absurd h (hasH_t.mp e)
def zmd(h:Fen.zeO n rs hts):hasH rs=true:=hasH_t.mpr λno=>no (Fen.gI hts) h.2.1
def zhO(hm:Fen.zay n rs)(hn:n<=1000)(hl:rs.length<=1000)(h0:hasH rs=false->Q .non)(h1:∀hts,hasH rs=true->Fen.zeO n rs hts->Q (.lst true (hts.map D.int))):up zeR [.int n,.lst a (rs.map runD)] Q:=
 ⟨Q,⟨n,a,rs,rfl,hm,hn,hl,λno=>h0 (hasH_f.mpr no),λhts fo=>h1 hts (zmd fo) fo⟩,λd z=>z⟩
structure FirstR(rs:List Rn)(c:Nat)(l:List Int):Prop where
 yes:hasH (zaC rs l)=true
 ex:∃j,j<c/\(∀i,i<j->∀m∈zaD (zaj rs) i,hasH (zaC rs m)=false)/\∃done oZ,zaD (zaj rs) j=done++l::oZ/\∀m∈done,hasH (zaC rs m)=false
def zrA(rs:List Rn)(c:Nat):Prop:=∀i,i<c->∀m∈zaD (zaj rs) i,hasH (zaC rs m)=false
def cntR(many:Int)(rs:List Rn):Nat:=((if ((zaj rs).length:Int)<many then((zaj rs).length:Int)else many)+1).toNat
structure Few(n:Nat)(rs:List Rn):Prop where
 marks:Fen.zay n rs
 n1:n<=40
 len:rs.length<64
 oY:(zaj rs).length<=10
def Few.left(F:Few n rs)(l:List Int):Fen.zay n (zaC rs l):=zkz (n:=n) F.marks l
def zjh(a:Bool)(n:Nat)(rs:List Rn)(many:Int)(F:Few n rs)(m0:0<=many)(m1:many<=1000) :
  zda [.int n,.lst a (rs.map runD),.int many] (λd=>(d=.non/\zrA rs (cntR many rs))\/∃l hts,d=.tup [lsD l,.lst true (hts.map D.int)]/\FirstR rs (cntR many rs) l/\Fen.zeO n (zaC rs l) hts):=by
 have hh:=F.oY;have hl:=F.len;have hn:=F.n1;unfold zda fnW zaM;rw[YAb,YAb,YAb,zaP,zap,zap];refine⟨rfl,zaT (zcj _ rs hl) λd hd=>?_⟩;subst hd;have eL:(((zaj rs).map D.int).length:Int)=((zaj rs).length:Int):=by rw[YAc]
 have hup:=zb2 (rs.map Fen.Run.hand)
 change(zaj rs).Pairwise (·<·)at hup
 show(_/\_)/\zbt _ _ _ (rngL 0 ((if (((zaj rs).map D.int).length:Int)<many then(((zaj rs).map D.int).length:Int)else many)+1).toNat) _;rw[eL];have hc:cntR many rs<=11/\(cntR many rs:Int)=(if ((zaj rs).length:Int)<many then((zaj rs).length:Int)else many)+1:=by
  unfold cntR;split<;>constructor<;>omega
 refine⟨⟨by omega,by omega⟩,?_⟩
 change zbt _ _ _ (rngL 0 (cntR many rs)) _
 generalize cntR many rs=c at hc;refine zaS (λrest M=>∃(j:Nat)(s4 s5 s6:Sl),M=[.val (.int n),.val (.lst false (rs.map runD)),.val (.int many),.val (.lst true ((zaj rs).map D.int)),s4,s5,s6]/\j<=c/\rest=rngL j (c-j)/\∀i,i<j->∀m∈zaD (zaj rs) i,hasH (zaC rs m)=false) ?_ ?_ _ _
  ⟨0,.un,.un,.un,rfl,by omega,rfl,λi hi=>by omega⟩
 .rintro x rest M E' hn' hc' hr hb ⟨j,s4,s5,s6,rfl,hj,er,hno⟩;have hj2:j<c:=by
   rcases YCV j c with h|h
   .exact h
   .rw[YCu h]at er;cases er
  obtain⟨m,hm2⟩:∃m,c-j=m+1:=⟨c-j-1,by omega⟩;rw[hm2,zd9]at er;injection er with er4 er5
  subst er4;have er6:rest=rngL ((j+1:Nat):Int) (c-(j+1)):=by rw[er5,show c-(j+1)=m by omega];rfl
  refine⟨rfl,zaT (zc8 _ (zaj rs) j hup hh (by omega)) λd hd=>?_⟩;subst hd;show zbt _ _ _ ((zaD (zaj rs) j).map lsD) _;refine zaS (λrest M=>∃(done oZ:List (List Int))(s5 s6:Sl),M=[.val (.int n),.val (.lst false (rs.map runD)),.val (.int many),.val (.lst true ((zaj rs).map D.int)),.val (.int j),s5,s6]/\rest=oZ.map lsD/\zaD (zaj rs) j=done++oZ/\∀m∈done,hasH (zaC rs m)=false) ?_ ?_ _ _
   ⟨[],_,s5,s6,rfl,rfl,rfl,λm h=>by cases h⟩
  .rintro x2 rest2 M E2 hn2 hc2 hr2 hb2 ⟨done,oZ,s5,s6,rfl,e1,e2,e3⟩;cases oZ with
   |nil=>cases e1
   |cons l oZ=>
    rw[YAb]at e1;injection e1 with e1 e4
    subst e1;refine⟨rfl,zaT (zfd false true rs l (by omega)) λd hd=>?_⟩;subst hd;have ll:=zct rs l;refine⟨rfl,zhO (F.left l) (by omega) (by omega) (λh0=>?_) λhts h1 fo=>?_⟩
    .refine hn2 _ ⟨done++[l],oZ,_,_,rfl,e4,by rw[e2,YAB];rfl,λm hm=>?_⟩;rcases YAk.mp hm with e|e
     .exact e3 m e
     .rw[YAg.mp e];exact h0
    .refine⟨by show 2<=100000;decide,hr2 _ (hr _ (.inr ⟨l,hts,rfl,⟨h1,j,hj2,hno,done,oZ,e2,e3⟩,fo⟩))⟩
  .rintro M ⟨done,oZ,s5,s6,rfl,e1,e2,e3⟩;cases oZ with
   |cons l oZ=>cases e1
   |nil=>
    rw[YAR]at e2;refine hn' _ ⟨j+1,_,_,_,rfl,by omega,er6,λi hi m hm=>?_⟩;rcases YCV i j with h|h
    .exact hno i h m hm
    .have:i=j:=by omega
     subst this;rw[e2]at hm;exact e3 m hm
 .rintro M ⟨j,s4,s5,s6,rfl,hj,er,hno⟩;have hj:j=c:=by
   have:=congrArg List.length er
   rw[zbb]at this
   have:c-j=0:=by simpa using this.symm
   omega
  subst hj;exact .inl ⟨rfl,hno⟩
noncomputable def setsR(rs:List Rn)(c:Nat):List (List Int):=((List.range c).flatMap (zaD (zaj rs))).filter λl=>hasH (zaC rs l)
def zeC(rs:List Rn)(j:Nat):setsR rs (j+1)=setsR rs j++(zaD (zaj rs) j).filter λl=>hasH (zaC rs l):=by
 unfold setsR;rw[YDZ,YDk,YCO];simp
theorem zfV(u:(zaj rs).Pairwise (·<·))(hh:(zaj rs).length<=10):∀c,(setsR rs c).length<=c*1024
 |0=>by simp[setsR]
 |c+1=>by
  rw[zeC,YAq]
  have:=zfV u hh c
  have h1:=ziy u c;have h2:2^(zaj rs).length<=1024:=YAU (YC4 (by decide) hh) (by decide);have h3:=YCU (λl=>hasH (zaC rs l)) (zaD (zaj rs) c);omega
def zdZ(rs:List Rn):(zaj rs).Pairwise (·<·):=zb2 _
def zgg(a:Bool)(n:Nat)(rs:List Rn)(many:Int)(F:Few n rs)(m0:0<=many)(m1:many<=1000) :
  zbR [.int n,.lst a (rs.map runD),.int many] (·=.lst true ((setsR rs (cntR many rs)).map lsD)):=by
 have hh:=F.oY;have hl:=F.len;have hn:=F.n1;have hup:=zdZ rs;unfold zbR fnW zaM;rw[YAb,YAb,YAb,zaP,zap,zap];refine⟨rfl,zaT (zcj _ rs hl) λd hd=>?_⟩;subst hd;have eL:(((zaj rs).map D.int).length:Int)=((zaj rs).length:Int):=by rw[YAc]
 refine⟨by show 0<=100000;decide,?_⟩;show(_/\_)/\zbt _ _ _ (rngL 0 ((if (((zaj rs).map D.int).length:Int)<many then(((zaj rs).map D.int).length:Int)else many)+1).toNat) _;rw[eL];have hc:cntR many rs<=11/\(cntR many rs:Int)=(if ((zaj rs).length:Int)<many then((zaj rs).length:Int)else many)+1:=by
  unfold cntR;split<;>constructor<;>omega
 refine⟨⟨by omega,by omega⟩,?_⟩
 change zbt _ _ _ (rngL 0 (cntR many rs)) _
 generalize cntR many rs=c at hc;refine zaS (λrest M=>∃(j:Nat)(s5 s6:Sl),M=[.val (.int n),.val (.lst false (rs.map runD)),.val (.int many),.val (.lst true ((zaj rs).map D.int)),.own ((setsR rs j).map lsD),s5,s6]/\j<=c/\rest=rngL j (c-j)) ?_ ?_ _ _
  ⟨0,.un,.un,rfl,by omega,rfl⟩
 .rintro x rest M E' hn' hc' hr hb ⟨j,s5,s6,rfl,hj,er⟩;have hj2:j<c:=by
   rcases YCV j c with h|h
   .exact h
   .rw[YCu h]at er;cases er
  obtain⟨m,hm2⟩:∃m,c-j=m+1:=⟨c-j-1,by omega⟩;rw[hm2,zd9]at er;injection er with er4 er5
  subst er4;have er6:rest=rngL ((j+1:Nat):Int) (c-(j+1)):=by rw[er5,show c-(j+1)=m by omega];rfl
  refine⟨rfl,zaT (zc8 _ (zaj rs) j hup hh (by omega)) λd hd=>?_⟩;subst hd;show zbt _ _ _ ((zaD (zaj rs) j).map lsD) _;have hz:=zfV hup hh (j+1);rw[zeC,YAq]at hz;refine zaS (λrest M=>∃(done oZ:List (List Int))(s6:Sl),M=[.val (.int n),.val (.lst false (rs.map runD)),.val (.int many),.val (.lst true ((zaj rs).map D.int)),.own ((setsR rs j++done.filter λl=>hasH (zaC rs l)).map lsD),.val (.int j),s6]/\rest=oZ.map lsD/\zaD (zaj rs) j=done++oZ) ?_ ?_ _ _
   ⟨[],_,s6,by rw[YD6,YAR];rfl,rfl,rfl⟩
  .rintro x2 rest2 M E2 hn2 hc2 hr2 hb2 ⟨done,oZ,s6,rfl,e1,e2⟩;cases oZ with
   |nil=>cases e1
   |cons l oZ=>
    rw[YAb]at e1;injection e1 with e1 e4
    subst e1;refine⟨rfl,zaT (zfd false true rs l (by omega)) λd hd=>?_⟩;subst hd;have ll:=zct rs l;refine⟨rfl,zhO (F.left l) (by omega) (by omega) (λh0=>?_) λhts h1 fo=>?_⟩
    .refine hn2 _ ⟨done++[l],oZ,.val (lsD l),?_,e4,by rw[e2,YAB];rfl⟩;rw[YCO,YBo,if_neg (by rw[h0];decide),YD6,YAR];rfl
    .have hz2:(setsR rs j++done.filter λl=>hasH (zaC rs l)).length<100000:=by
      rw[e2,YCO,YAq]at hz;rw[YAq];omega
     refine⟨by rw[YAc];exact hz2,hn2 _ ⟨done++[l],oZ,.val (lsD l),?_,e4,by rw[e2,YAB];rfl⟩⟩;rw[YCO,YBo,if_pos h1,YD6,<-YAB];simp only[YAy];rfl
  .rintro M ⟨done,oZ,s6,rfl,e1,e2⟩;cases oZ with
   |cons l oZ=>cases e1
   |nil=>
    rw[YAR]at e2;refine hn' _ ⟨j+1,.val (.int j),s6,?_,by omega,er6⟩;rw[zeC,e2]
 .rintro M ⟨j,s5,s6,rfl,hj,er⟩;have hj:j=c:=by
   have:=congrArg List.length er
   rw[zbb]at this
   have:c-j=0:=by simpa using this.symm
   omega
  subst hj;rfl
def zl3(u:l.Pairwise (·<·))(hs:∀h∈l,h∈zaj rs)(hl:(l.length:Int)<=many):∃j,j<cntR many rs/\l∈zaD (zaj rs) j:=by
 refine⟨l.length,?_,mem_lists.mpr ⟨rfl,u,hs⟩⟩
 have:l.length<=(zaj rs).length:=L2.zaX (zem u) hs
 unfold cntR;split<;>omega
def zme(W:Wd mm mh mr size rs hts fs):(zaj rs).length<=10:=by
 have:∀h∈zaj rs,h∈(List.range 10).map Int.ofNat:=λh hh=>by
  obtain⟨r,hr,rfl⟩:=YAF.mp ((zbp _ _).mp hh);obtain⟨h0,h1⟩:=W.hand r hr;exact YAF.mpr ⟨r.hand.toNat,YBg.mpr (by omega),by show((r.hand.toNat:Nat):Int)=_;omega⟩
 have:=L2.zaX (zem (zdZ rs)) this
 simpa using this
def Wd.fewN{mm mh mr:Int}{n:Nat}{rs:List Rn}{hts fs:List Int}(W:Wd mm mh mr n rs hts fs)(h1:mm<=40)(h2:mr<64):Few n rs:=
 ⟨W.marks,by have:=W.s2;omega,by have:=W.few;omega,zme W⟩
def mem_sets{rs:List Rn}{c:Nat}{l:List Int}:l∈setsR rs c↔(∃j,j<c/\l∈zaD (zaj rs) j)/\hasH (zaC rs l)=true:=by
 unfold setsR;rw[YBa,YCp];constructor
 .rintro⟨⟨j,h1,h2⟩,h3⟩;exact⟨⟨j,YBg.mp h1,h2⟩,h3⟩
 .rintro⟨⟨j,h1,h2⟩,h3⟩;exact⟨⟨j,YBg.mpr h1,h2⟩,h3⟩
noncomputable def zpG(n:Nat):WS:=(seqW (asgW (.tp 2 (.cons (.nm 9) (.cons (.nm 10) .nil))) (vW 6))
  (seqW (asgW (.nm 11) (ifW (blW (binW gtD (vW 2) (kW (.int 0)))) (zas 2 zbA (zab (vW 1) (zab (vW 10) nilA))) (valW (lstW nilA))))
  (seqW (asgW (.nm 12) (valW (zaQ [none,some 0,some 1,some 4,some 2,some 3] (seqI (vW 11)) (.nm 0) noIf (tupW (zab (vW 0) (zab (zas 5 (zaB n) (zab (vW 1) (zab (vW 2) (zab (binW subD (vW 4) (kW (.int 1))) (zab (binW addD (vW 5) (valW (lstW (zab (vW 0) nilA)))) (zab (vW 3) nilA)))))) nilA))))))
  (retW (tupW (zab (vW 5) (zab (vW 9) (zab (vW 10) (zab (cbW zdu (zab (vW 12) nilA)) nilA)))))))))
def All2{α:Type}(R:α->D->Prop):List α->List D->Prop
 |[],[]=>True
 |x::xs,d::ds=>R x d/\All2 R xs ds
 |_,_=>False
theorem zgR{α:Type}(emb:α->D)(R:α->D->Prop):∀(xs:List α)(acc:List D),(∀x∈xs,∀qe:D->Prop,(∀d,R x d->qe d)->gD t (emb x) Mc λM2=>C M2 λb=>b=true/\E M2 qe) ->
  zdF C->(∀ds:List D,All2 R xs ds->Q (acc++ds))->zbw t C E Mc Q (xs.map emb) acc
 |[],acc,_,_,q=>by simpa[zbw]using q [] trivial
 |x::xs,acc,h,mC,q=>by
  show gD t (emb x) Mc λM2=>C M2 λb=>if b=true then E M2 λd=>zbw t C E Mc Q (xs.map emb) (acc++[d])else zbw t C E Mc Q (xs.map emb) acc;refine zbo t (emb x) Mc (λM2 z=>mC M2 _ _ (λb z=>?_) z) (h x YAi (λd=>zbw t C E Mc Q (xs.map emb) (acc++[d])) λd hd=>?_)
  .rw[z.1,if_pos rfl];exact z.2
  .refine zgR emb R xs (acc++[d]) (λx' hx'=>h x' (YAp _ hx')) mC λds hds=>?_
   have:=q (d::ds) ⟨hd,hds⟩
   rw[YAB];exact this
def zeP(rs:List Rn)(line:List Int):List Int:=zaj (line.map (Fen.runAt rs))
def headIs(n:Nat)(rs:List Rn)(one oW:Int)(oX:List Int)(kind:Str)(mark:Int)(line:List Int):Prop:=
 (kind="ring" /\ Fen.RingIs n rs oX (some (mark,line)))\/(kind="line" /\ mark=one/\Fen.RingIs n rs oX none/\Fen.LineIs n rs oX one oW (some line))
noncomputable def zcl(n:Nat)(rs:List Rn)(one oW:Int):Nat->List Int->D->Prop
 |0,oX,d=>∃kind mark line,headIs n rs one oW oX kind mark line/\d=.tup [.str kind,.int mark,.tup (line.map D.int),.tup []]
 |k+1,oX,d=>∃kind mark line ds,headIs n rs one oW oX kind mark line/\All2 (λh p=>∃q,p=.tup [.int h,q]/\zcl n rs one oW k (oX++[h]) q) (zeP rs line) ds/\d=.tup [.str kind,.int mark,.tup (line.map D.int),.tup ds]
structure Few2(n:Nat)(rs:List Rn):Prop extends Few n rs where
 apart:∀r∈rs,r.one≠r.oW
def zlI(h:Fen.RingIs n rs hs none):hasH (zaC rs hs)=true:=by
 obtain⟨K,H,ts,a,e⟩:=h;have key:=Fen.zgL e.symm;refine hasH_t.mpr λno=>no (λi=>(Fen.zbN ((Fen.zbr ts).map Fen.zbu) i).2.1) λr hr=>?_;obtain⟨h1,h2⟩:=YBa.mp hr;exact key r h1 (by simpa using h2)
theorem headIs.line{n:Nat}{rs:List Rn}{one oW:Int}{oX:List Int}{kind:Str}{mark:Int}{line:List Int}(F:Few2 n rs)(h:headIs n rs one oW oX kind mark line) :
  line.Nodup/\(∀z∈line,0<=z/\z<(rs.length:Int)/\oX.contains (Fen.runAt rs z).hand=false):=by
 rcases h with⟨_,h⟩|⟨_,_,_,h⟩
 .obtain⟨_,_,_,_,a,b,_⟩:=h.some F.marks F.n1 F.apart;exact⟨a,b⟩
 .obtain⟨_,a,b,_⟩:=h.some;exact⟨a,b⟩
def zn6{rs:List Rn}{line:List Int}(hl:rs.length<64)(nd:line.Nodup)(hb:∀z∈line,0<=z/\z<(rs.length:Int)):line.length<64:=by
 have:=L2.zaX (xs:=(List.range rs.length).map Int.ofNat) nd λz hz=>by
  obtain⟨a,b⟩:=hb z hz;exact YAF.mpr ⟨z.toNat,YBg.mpr (by omega),by show((z.toNat:Nat):Int)=_;omega⟩
 rw[YAc,YBz]at this;omega
def zn9(h0:0<=z)(h1:z<(rs.length:Int))(q:Q (runD (Fen.runAt rs z))):itD (rs.map runD) (.int z) Q:=by
 show(match atI (rs.map runD) z with|some d=>Q d|none=>False);have hn:z.toNat<rs.length:=by omega
 have e:Fen.runAt rs z=rs[z.toNat]:=by unfold Fen.runAt;rw[YAs,YAe hn];rfl
 unfold atI ixN;rw[if_pos h0,YAc,if_pos h1,YDT,YAo,YAe hn];rw[e]at q;exact q
def zgm(a:Bool)(rs:List Rn)(line:List Int)(hl:line.length<64)(hb:∀z∈line,0<=z/\z<(rs.length:Int)):zbA [.lst a (rs.map runD),.tup (line.map D.int)] (·=.lst true ((zeP rs line).map D.int)):=by
 unfold zbA fnW zaM;rw[YAb,YAb,zaP,znm];refine⟨by simp;omega,zaW D.int (λz=>runD (Fen.runAt rs z)) line (λz hz qe N y=>zn9 (hb z hz).1 (hb z hz).2 y) ?_⟩;rw[show(line.map λz=>runD (Fen.runAt rs z))=(line.map (Fen.runAt rs)).map runD by rw[YAK];rfl];refine⟨rfl,zaT (zcj _ (line.map (Fen.runAt rs)) (by simpa using hl)) λd hd=>?_⟩;subst hd;rfl
def zop(F:Few n rs)(k:∀o,Fen.RingIs n rs hs o->Q (zrp o)):up zcQ [.int n,.lst a (rs.map runD),.lst b (hs.map D.int)] Q:=
 ⟨Q,⟨n,a,b,rs,hs,rfl,F.marks,F.n1,by have:=F.len;omega,k⟩,λd z=>z⟩
def zoq{n:Nat}{a b:Bool}{rs:List Rn}{hs:List Int}{one oW:Int}{Q:D->Prop}(F:Few n rs)(h0:0<=one)(h1:one<n)(k:∀o,Fen.LineIs n rs hs one oW o->Q (zo9 o)):up zbv [.int n,.lst a (rs.map runD),.lst b (hs.map D.int),.int one,.int oW] Q:=
 ⟨Q,⟨n,a,b,rs,hs,one,oW,rfl,F.marks,h0,h1,by have:=F.n1;omega,by have:=F.len;omega,k⟩,λd z=>z⟩
def GoodS(rs:List Rn)(one oW:Int)(oX:List Int)(many:Nat):Prop:=
 ∀ext:List Int,ext.length<=many->(∀h∈ext,h∈zaj rs)->hasH (zaC rs (oX++ext))=true->Fen.Conn (zaC rs (oX++ext)) one oW
def GoodS.next(g:GoodS rs one oW oX (k+1))(hh:h∈zaj rs):GoodS rs one oW (oX++[h]) k:=λext hl he=>by
 have:=g (h::ext) (by rw[YAS];omega) (λx hx=>(YAn.mp hx).elim (λe=>e▸hh) (he x))
 rw[YAB];exact this
def zk2(hb:∀z∈line,0<=z/\z<(rs.length:Int))(hh:h∈zeP rs line):h∈zaj rs:=by
 obtain⟨r,hr,rfl⟩:=YAF.mp ((zbp _ _).mp hh);obtain⟨z,hz,rfl⟩:=YAF.mp hr;obtain⟨z0,z1⟩:=hb z hz;have hn:z.toNat<rs.length:=by omega
 have e:Fen.runAt rs z=rs[z.toNat]:=by unfold Fen.runAt;rw[YAs,YAe hn];rfl
 rw[e];exact(zbp _ _).mpr (YAQ (YDP hn))
def zkm{n:Nat}{rs:List Rn}{one oW:Int}{N many:Nat}{oX:List Int}{kind:Str}{mark:Int}{line:List Int}{s7 s8:Sl}{b:Bool}{nx bk ct:Env->Prop}(F:Few2 n rs)(hs:oX.length+many<=1000)(hd:headIs n rs one oW oX kind mark line)
  (ih:∀k,many=k+1->∀h∈zeP rs line,zaB N [.int n,.lst false (rs.map runD),.int k,.lst true ((oX++[h]).map D.int),.tup [.int one,.int oW]] (zcl n rs one oW k (oX++[h]))) :
  zpG N {nx:=nx,rt:=zcl n rs one oW many oX,bk:=bk,ct:=ct} [.val (.int n),.val (.lst false (rs.map runD)),.val (.int many),.val (.lst b (oX.map D.int)),.val (.tup [.int one,.int oW]),.val (.str kind),.val (.tup [.int mark,.tup (line.map D.int)]),s7,s8,.un,.un,.un,.un]:=by
 obtain⟨nd,hb⟩:=hd.line F;have hb':∀z∈line,0<=z/\z<(rs.length:Int):=λz hz=>⟨(hb z hz).1,(hb z hz).2.1⟩;have hll:=zn6 F.len nd hb';refine⟨rfl,?_⟩;cases many with
 |zero=>
  refine⟨by show 0<=100000;decide,by show 0<=100000;decide,by show 4<=100000;decide,?_⟩;exact⟨kind,mark,line,hd,rfl⟩
 |succ k=>
  show if decide ((0:Int)<((k+1:Nat):Int))=true then _ else _;rw[YAH (by omega),if_pos rfl];refine⟨rfl,zaT (zgm false rs line hll hb') λd hd'=>?_⟩;subst hd';have lh:(zeP rs line).length<=64:=by
   have:=zel ((line.map (Fen.runAt rs)).map Fen.Run.hand)
   rw[YAc,YAc]at this;unfold zeP zaj;omega
  refine⟨by rw[YAc];omega,zgR D.int (λh p=>∃q,p=.tup [.int h,q]/\zcl n rs one oW k (oX++[h]) q) (zeP rs line) [] (λh hh qe y=>?_) zed λds hds=>?_⟩
  .refine⟨rfl,by show 1<=100000;decide,by simp;omega,rfl,?_⟩
   have:=ih k rfl h hh
   rw[YAy]at this;rw[show((k+1:Nat):Int)-1=(k:Int) by omega];refine zaT this λq hq=>⟨by show 2<=100000;decide,y _ ⟨q,rfl,hq⟩⟩
  .rw[YBs];refine⟨by show 4<=100000;decide,kind,mark,line,ds,hd,hds,rfl⟩
theorem ziW(n:Nat)(rs:List Rn)(one oW:Int)(F:Few2 n rs)(h0:0<=one)(h1:one<n):∀(many:Nat)(N:Nat)(a b:Bool)(oX:List Int),many<N->oX.length+many<=1000->GoodS rs one oW oX many ->
  zaB N [.int n,.lst a (rs.map runD),.int many,.lst b (oX.map D.int),.tup [.int one,.int oW]] (zcl n rs one oW many oX)
 |many,N+1,a,b,oX,hN,hs,g=>by
  unfold zaB fnW zaM;rw[YAb,YAb,YAb,YAb,YAb,zaP,za3,ze9,zap,zap,zap,zap];have ih:∀{kind:Str}{mark:Int}{line:List Int},headIs n rs one oW oX kind mark line->∀k,many=k+1->∀h∈zeP rs line,zaB N [.int n,.lst false (rs.map runD),.int k,.lst true ((oX++[h]).map D.int),.tup [.int one,.int oW]] (zcl n rs one oW k (oX++[h])):=λhd k hk h hh=>by
   subst hk;have hb:=(hd.line F).2;exact ziW n rs one oW F h0 h1 k N false true (oX++[h]) (by omega) (by simp;omega) (g.next (zk2 (λz hz=>⟨(hb z hz).1,(hb z hz).2.1⟩) hh))
  refine⟨rfl,zop F.toFew λo ho=>?_⟩;cases o with
  |some ml=>
   have hd:headIs n rs one oW oX "ring" ml.1 ml.2:=.inl ⟨rfl,ho⟩;exact zkm F hs hd (ih hd)
  |none=>
   refine⟨rfl,rfl,zoq F.toFew h0 h1 λo hl=>?_⟩;have c:=g [] (YAC _) (λh z=>by cases z);rw[YAR]at c;have c:=c (zlI ho);cases o with
   |none=>exact absurd (zeT rs oX▸c) (hl.none_iff.mp rfl)
   |some line=>
    have hd:headIs n rs one oW oX "line" one line:=.inr ⟨rfl,rfl,ho,hl⟩;refine⟨by show 2<=100000;decide,?_⟩;exact zkm F hs hd (ih hd)
def zds(a:Bool)(n:Nat)(rs:List Rn)(one oW:Int)(many:Nat)(F:Few2 n rs)(h0:0<=one)(h1:one<n)(hm:many<=5)(g:GoodS rs one oW [] many):zbh [.int n,.lst a (rs.map runD),.int many,.int one,.int oW] (zcl n rs one oW many []):=by
 unfold zbh fnW zaM;rw[YAb,YAb,YAb,YAb,YAb,zaP,zap,zap,zap,zap];refine⟨by show 0<=100000;decide,by show 2<=100000;decide,rfl,?_⟩;exact zaT (ziW n rs one oW F h0 h1 many 6 false true [] (by omega) (by simp;omega) g) λd hd=>hd
def zeB(rs:List Rn)(l:List Int):zaC rs (zbP l)=zaC rs l:=by
 unfold zaC;refine List.filter_congr λr _=>?_;congr 1;rw[YCI,YBn,YBn];exact zbp l r.hand
def zlm(hs:∀h∈l,h∈zaj rs)(hl:(l.length:Int)<=many):∃j,j<cntR many rs/\zbP l∈zaD (zaj rs) j:=
 zl3 (zb2 l) (λh hh=>hs h ((zbp l h).mp hh)) (by have:=zel l;omega)
def zgk(a:Bool)(n:Nat)(rs:List Rn)(many:Nat)(F:Few2 n rs)(n0:0<n)(hm:many<=5):zbU [.int n,.lst a (rs.map runD),.int many] (λd=>(d=.non/\∃l,FirstR rs (cntR many rs) l)\/(zrA rs (cntR many rs)/\zcl n rs 0 0 many [] d)):=by
 unfold zbU fnW zaM;rw[YAb,YAb,YAb,zaP,zap,zap];refine⟨rfl,zaT (zjh _ n rs many F.toFew (by omega) (by omega)) λd hd=>?_⟩;rcases hd with⟨rfl,no⟩|⟨l,hts,rfl,fi,fo⟩
 .refine⟨rfl,zaT (zds _ n rs 0 0 many F (by omega) (by omega) hm ?_) λd hd=>.inr ⟨no,hd⟩⟩;intro ext hl he hy;obtain⟨j,hj,hm⟩:=zlm he (by omega:(ext.length:Int)<=many)
  have:=no j hj _ hm
  rw[zeB]at this;rw[YBs,this]at hy;cases hy
 .exact .inl ⟨rfl,l,fi⟩
def zcD:Fn:=fnW 7 ((seqW (ownW 4 (zbV (vW 2)))
  (seqW (forW (seqI (zas 2 zfb (zab (vW 0) (zab (vW 1) nilA)))) (.nm 5) (ifS (blW (binW (inD false) (vW 3) (vW 5))) (forW (seqI (vW 5)) (.nm 6) (zfr 4 (vW 6) (kW (.int 1)))) nilS))
  (frzW 4 (retW (vW 4))))))
noncomputable def zaL:Fn:=fnW 8 ((seqW (ownW 4 (lstW nilA))
  (seqW (forW (seqI (zas 3 zbR (zab (vW 0) (zab (vW 1) (zab (vW 2) nilA))))) (.nm 5) (seqW (asgW (.nm 6) (zas 2 zdf (zab (vW 1) (zab (vW 5) nilA))))
  (seqW (asgW (.nm 7) (zas 2 zeR (zab (vW 0) (zab (vW 6) nilA))))
  (seqW (appW 4 (tupW (zab (valW (zbV (vW 5))) (zab (vW 7) nilA))))
  (appW 4 (tupW (zab (valW (zbV (vW 5))) (zab (zas 4 zcD (zab (vW 0) (zab (vW 6) (zab (vW 7) (zab (vW 3) nilA))))) nilA))))))))
  (frzW 4 (retW (vW 4))))))
def zbd:Fn:=fnW 3 ((retW (binW subD (ixvW 0 (vW 2)) (ixvW 0 (vW 1)))))
noncomputable def zfA:Fn:=fnW 11 ((seqW (asgW (.nm 5) (zas 4 zaL (zab (vW 0) (zab (vW 1) (zab (vW 2) (zab (vW 4) nilA))))))
  (seqW (ifS (notT (truW (vW 5))) (retW (tupW (zab (kW (.str "none")) (zab (zas 3 zbU (zab (vW 0) (zab (vW 1) (zab (vW 2) nilA)))) nilA)))) nilS)
  (seqW (asgW (.tp 2 (.cons (.nm 6) (.cons (.nm 7) .nil))) (ixvW 5 (kW (.int 0))))
  (seqW (asgW (.nm 8) (zas 3 zbd (zab (vW 7) (zab (vW 3) (zab (vW 4) nilA)))))
  (seqW (forW (seqI (vW 5)) (.tp 2 (.cons (.nm 9) (.cons (.nm 10) .nil))) (ifS (blW (binW neD (zas 3 zbd (zab (vW 10) (zab (vW 3) (zab (vW 4) nilA)))) (vW 8))) (retW (tupW (zab (kW (.str "open")) (zab (tupW (zab (vW 6) (zab (vW 7) nilA))) (zab (tupW (zab (vW 9) (zab (vW 10) nilA))) nilA))))) nilS))
  (retW (tupW (zab (kW (.str "sure")) (zab (vW 8) (zab (zas 5 zbh (zab (vW 0) (zab (vW 1) (zab (vW 2) (zab (vW 3) (zab (vW 4) nilA)))))) nilA)))))))))))
structure LiftOk(n:Nat)(rs:List Rn)(mark:Int)(h h':List Int):Prop where
 len:h'.length=n
 yes:∀i:Int,0<=i->i<n->Fen.Conn rs mark i->Fen.gI h' i=Fen.gI h i+1
 no:∀i:Int,0<=i->i<n->¬ Fen.Conn rs mark i->Fen.gI h' i=Fen.gI h i
def zle(hm:Fen.zay n rs)(hn:n<=60)(hl:rs.length<=1000)(k:∀gs,Fen.zko n rs gs->Q (.lst true (gs.map λg=>.lst true (g.map D.int)))):up zfb [.int n,.lst a (rs.map runD)] Q:=
 ⟨Q,⟨n,a,rs,rfl,hm,hn,hl,k⟩,λd z=>z⟩
def zgQ(a b:Bool)(n:Nat)(rs:List Rn)(h:List Int)(mark:Int)(hm:Fen.zay n rs)(hn:n<=60)(hl:rs.length<=1000)(hh:h.length=n)(m0:0<=mark)(m1:mark<n) :
  zcD [.int n,.lst a (rs.map runD),.lst b (h.map D.int),.int mark] (λd=>∃h',d=.lst true (h'.map D.int)/\LiftOk n rs mark h h'):=by
 unfold zcD fnW zaM;rw[YAb,YAb,YAb,YAb,zaP,za3,zap,zap];refine⟨rfl,zle hm hn hl λgs ⟨ds,ok,fi,hg⟩=>?_⟩;subst hg;rw[YAK];show zbt _ _ _ (ds.map λg=>D.lst true (g.ms.map D.int)) _
 -- one group holds the mark
 have one:∀g∈ds,∀g'∈ds,mark∈g.ms->mark∈g'.ms->g.st=g'.st:=λg hg g' hg' e e'=>by
  obtain⟨_,_,c1⟩:=((ok g hg).2 mark).mp e;obtain⟨_,_,c2⟩:=((ok g' hg').2 mark).mp e';have f1:=(fi.2 g.st).mp (YAQ hg);have f2:=(fi.2 g'.st).mp (YAQ hg');have c:=c1.trans c2.symm;rcases Int.lt_trichotomy g.st g'.st with z|z|z
  .exact absurd c (f2.2.2 _ f1.1 z)
  .exact z
  .exact absurd c.symm (f1.2.2 _ f2.1 z)
 have nd:(ds.map Fen.GR.st).Nodup:=fi.1.imp λh=>YD1 h;refine zaS (λrest M=>∃(done oZ:List Fen.GR)(h':List Int)(s5 s6:Sl),M=[.val (.int n),.val (.lst false (rs.map runD)),.val (.lst false (h.map D.int)),.val (.int mark),.own (h'.map D.int),s5,s6]/\rest=oZ.map (λg=>D.lst true (g.ms.map D.int))/\ds=done++oZ/\h'.length=n /\
  (∀i:Int,0<=i->i<n->(∃g∈done,mark∈g.ms/\i∈g.ms)->Fen.gI h' i=Fen.gI h i+1)/\∀i:Int,0<=i->i<n->(¬ ∃g∈done,mark∈g.ms/\i∈g.ms)->Fen.gI h' i=Fen.gI h i) ?_ ?_ _ _
  ⟨[],ds,h,.un,.un,rfl,rfl,rfl,hh,(λi _ _ ⟨g,z,_⟩=>by cases z),λi _ _ _=>rfl⟩
 .rintro x rest M E' hn' hc hr hb ⟨done,oZ,h',s5,s6,rfl,e1,e2,hl',q1,q2⟩;cases oZ with
  |nil=>cases e1
  |cons g oZ=>
   rw[YAb]at e1;injection e1 with e1 e3
   subst e1;have hgd:g∈ds:=by rw[e2];simp
   have esp:ds=(done++[g])++oZ:=by rw[e2,YAB];rfl
   refine⟨zcA _ _,?_⟩;show if (if false=true then !inB (.int mark) (g.ms.map D.int)else inB (.int mark) (g.ms.map D.int))=true then _ else _;rw[show(if false=true then !inB (.int mark) (g.ms.map D.int)else inB (.int mark) (g.ms.map D.int))=g.ms.contains mark from zcM _ _];cases hcm:g.ms.contains mark with
   |false=>
    have hnot:mark∉g.ms:=λz=>by rw[YBn.mpr z]at hcm;cases hcm
    refine hn' _ ⟨done++[g],oZ,h',_,s6,rfl,e3,esp,hl',λi i0 i1 ⟨g',hg',k1,k2⟩=>?_,λi i0 i1 hno=>q2 i i0 i1 λ⟨g',hg',k⟩=>hno ⟨g',YAx _ hg',k⟩⟩;rcases YAk.mp hg' with e|e
    .exact q1 i i0 i1 ⟨g',e,k1,k2⟩
    .rw[YAg.mp e]at k1;exact absurd k1 hnot
   |true=>
    have hin:mark∈g.ms:=YBn.mp hcm;have hdn:∀i,¬ ∃g'∈done,mark∈g'.ms/\i∈g'.ms:=λi ⟨g',hg',k1,_⟩=>by
     have es:=one g' (by rw[e2];exact YAx _ hg') g hgd k1 hin;rw[e2,YAy,YAb]at nd
     have:=(YCz.mp nd).2.2 g'.st (YAQ hg') g.st YAi
     exact this es
    have gup:=(ok g hgd).1;have gin:∀j∈g.ms,0<=j/\j<n:=λj hj=>let⟨a,b,_⟩:=((ok g hgd).2 j).mp hj;⟨a,b⟩
    show zbt _ _ _ (g.ms.map D.int) _;refine zaS (λrest M=>∃(dn td:List Int)(h2:List Int)(s6:Sl),M=[.val (.int n),.val (.lst false (rs.map runD)),.val (.lst false (h.map D.int)),.val (.int mark),.own (h2.map D.int),.val (.lst true (g.ms.map D.int)),s6]/\rest=td.map D.int/\g.ms=dn++td/\h2.length=n /\
     (∀i:Int,0<=i->i<n->i∈dn->Fen.gI h2 i=Fen.gI h i+1)/\∀i:Int,0<=i->i<n->i∉dn->Fen.gI h2 i=Fen.gI h i) ?_ ?_ _ _
     ⟨[],g.ms,h',s6,rfl,rfl,rfl,hl',(λi _ _ z=>by cases z),λi i0 i1 _=>q2 i i0 i1 (hdn i)⟩
    .rintro x2 rest2 M E2 hn2 hc2 hr2 hb2 ⟨dn,td,h2,s6,rfl,f1,f2,hl2,p1,p2⟩;cases td with
     |nil=>cases f1
     |cons j td=>
      rw[YAb]at f1;injection f1 with f1 f3
      subst f1;obtain⟨j0,j1⟩:=gin j (by rw[f2];simp);have jn:j∉dn:=λz=>by
       rw[f2]at gup;exact absurd ((YBS.mp gup).2.2 j z j YAi) (Int.lt_irrefl _)
      unfold gD;refine zmI (hs:=h2) (k:=j) (b:=1) rfl (λQ q=>q) (λQ q=>q) j0 (by omega) ?_;refine hn2 _ ⟨dn++[j],td,h2.set j.toNat (Fen.gI h2 j+1),_,rfl,f3,by rw[f2,YAB];rfl,by simpa using hl2,λi i0 i1 hi=>?_,λi i0 i1 hi=>?_⟩
      .rw[Fen.zgz (by omega) i0];rcases YAk.mp hi with e|e
       .rw[if_neg (λz:i=((j.toNat:Nat):Int)=>jn ((show i=j by omega)▸e))];exact p1 i i0 i1 e
       .have:=YAg.mp e
        subst this;rw[if_pos (by omega),p2 i i0 i1 jn]
      .rw[Fen.zgz (by omega) i0,if_neg (λz:i=((j.toNat:Nat):Int)=>hi (YAl _ (YAg.mpr (by omega))))];exact p2 i i0 i1 λz=>hi (YAx _ z)
    .rintro M ⟨dn,td,h2,s6,rfl,f1,f2,hl2,p1,p2⟩;cases td with
     |cons j td=>cases f1
     |nil=>
      rw[YAR]at f2;refine hn' _ ⟨done++[g],oZ,h2,_,s6,rfl,e3,esp,hl2,λi i0 i1 ⟨g',hg',k1,k2⟩=>?_,λi i0 i1 hno=>p2 i i0 i1 λz=>hno ⟨g,by simp,hin,by rw[f2];exact z⟩⟩;rcases YAk.mp hg' with e|e
      .exact absurd ⟨g',e,k1,k2⟩ (hdn i)
      .rw[YAg.mp e,f2]at k2;exact p1 i i0 i1 k2
 .rintro M ⟨done,oZ,h',s5,s6,rfl,e1,e2,hl',q1,q2⟩;cases oZ with
  |cons g oZ=>cases e1
  |nil=>
   rw[YAR]at e2;subst e2;obtain⟨f,f0,f1,fc,ff⟩:=Fen.zks (rs:=rs) (k:=n) mark.toNat mark (by omega) (by rw[show((mark.toNat:Nat):Int)=mark by omega];exact .refl _);have fin:f∈ds.map Fen.GR.st:=(fi.2 f).mpr ⟨f0,by omega,ff⟩;obtain⟨g,hg,rfl⟩:=YAF.mp fin;have gm:mark∈g.ms:=((ok g hg).2 mark).mpr ⟨m0,m1,fc⟩;refine⟨h',rfl,hl',λi i0 i1 c=>q1 i i0 i1 ⟨g,hg,gm,((ok g hg).2 i).mpr ⟨i0,i1,fc.trans c⟩⟩,λi i0 i1 c=>q2 i i0 i1 λ⟨g',hg',k1,k2⟩=>c ?_⟩;obtain⟨_,_,c1⟩:=((ok g' hg').2 mark).mp k1;obtain⟨_,_,c2⟩:=((ok g' hg').2 i).mp k2;exact c1.symm.trans c2
def ze0(l h:List Int):D:=.tup [lsD l,.lst true (h.map D.int)]
structure Tri where
 l:List Int
 h:List Int
 h':List Int
def triD(t:Tri):List D:=[ze0 t.l t.h,ze0 t.l t.h']
structure TriOk(n:Nat)(rs:List Rn)(mark:Int)(t:Tri):Prop where
 flat:Fen.zeO n (zaC rs t.l) t.h
 lift:LiftOk n (zaC rs t.l) mark t.h t.h'
def zjF(a:Bool)(n:Nat)(rs:List Rn)(many:Nat)(mark:Int)(F:Few n rs)(hm:many<=1000)(m0:0<=mark)(m1:mark<n) :
  zaL [.int n,.lst a (rs.map runD),.int many,.int mark] (λd=>∃ts:List Tri,d=.lst true (ts.flatMap triD)/\ts.map Tri.l=setsR rs (cntR many rs)/\∀t∈ts,TriOk n rs mark t):=by
 have hh:=F.oY;have hl:=F.len;have hn:=F.n1;unfold zaL fnW zaM;rw[YAb,YAb,YAb,YAb,zaP,zap,zap,zap];refine⟨by show 0<=100000;decide,rfl,zaT (zgg _ n rs many F (by omega) (by omega)) λd hd=>?_⟩;subst hd;have hz:=zfV (zdZ rs) hh (cntR many rs);have hc:cntR many rs<=11:=by unfold cntR;split<;>omega
 have hy:∀l∈setsR rs (cntR many rs),hasH (zaC rs l)=true:=λl hl=>(mem_sets.mp hl).2;generalize setsR rs (cntR many rs)=S at hz hy;show zbt _ _ _ (S.map lsD) _;refine zaS (λrest M=>∃(ts:List Tri)(oZ:List (List Int))(s5 s6 s7:Sl),M=[.val (.int n),.val (.lst false (rs.map runD)),.val (.int many),.val (.int mark),.own (ts.flatMap triD),s5,s6,s7]/\rest=oZ.map lsD/\S=ts.map Tri.l++oZ/\∀t∈ts,TriOk n rs mark t) ?_ ?_ _ _
  ⟨[],S,.un,.un,.un,rfl,rfl,rfl,λt h=>by cases h⟩
 .rintro x rest M E' hn' hc' hr hb ⟨ts,oZ,s5,s6,s7,rfl,e1,e2,ok⟩;cases oZ with
  |nil=>cases e1
  |cons l oZ=>
   rw[YAb]at e1;injection e1 with e1 e3
   subst e1;have hl1:hasH (zaC rs l)=true:=hy l (by rw[e2];simp);have ll:=zct rs l;have len2:∀ts:List Tri,(ts.flatMap triD).length=2*ts.length:=λts=>by
    induction ts with
    |nil=>rfl
    |cons t ts ih=>rw[YCA,YAq,ih,YAS];show 2+_=_;omega
   have tl:ts.length<12000:=by
    have:=congrArg List.length e2
    rw[YAq,YAc,YAS]at this;omega
   refine⟨rfl,zaT (zfd false true rs l (by omega)) λd hd=>?_⟩;subst hd;refine⟨rfl,zhO (F.left l) (by omega) (by omega) (λh0=>by rw[hl1]at h0;cases h0) λh _ fo=>?_⟩;refine⟨by show 2<=100000;decide,by rw[len2];omega,?_⟩;refine⟨rfl,zaT (zgQ true true n (zaC rs l) h mark (F.left l) (by omega) (by omega) fo.1 m0 m1) λd ⟨h',hd,lo⟩=>?_⟩;subst hd;refine⟨by show 2<=100000;decide,by rw[YAq,len2];show _+1<_;omega,?_⟩;refine hn' _ ⟨ts++[⟨l,h,h'⟩],oZ,.val (lsD l),.val (.lst true ((zaC rs l).map runD)),.val (.lst true (h.map D.int)),?_,e3,by rw[e2,YAy,YAB];rfl,λt ht=>?_⟩
   .rw[YDk,YCA,List.flatMap_nil,YAR];show _=[_,_,_,_,Sl.own (ts.flatMap triD++[ze0 l h,ze0 l h']),_,_,_];rw[show ts.flatMap triD++[ze0 l h,ze0 l h']=(ts.flatMap triD++[ze0 l h])++[ze0 l h'] by rw[YAB];rfl];rfl
   .rcases YAk.mp ht with e|e
    .exact ok t e
    .rw[YAg.mp e];exact⟨fo,lo⟩
 .rintro M ⟨ts,oZ,s5,s6,s7,rfl,e1,e2,ok⟩;cases oZ with
  |cons l oZ=>cases e1
  |nil=>
   rw[YAR]at e2;exact⟨ts,rfl,e2.symm,ok⟩
def zkp(a:Bool)(h:List Int)(one oW:Int)(o0:0<=one)(o1:one<h.length)(p0:0<=oW)(p1:oW<h.length):zbd [.lst a (h.map D.int),.int one,.int oW] (·=.int (Fen.gI h oW-Fen.gI h one)):=by
 unfold zbd fnW zaM;rw[YAb,YAb,YAb,za3,zap,zap];exact zaJ p0 p1 (zaJ o0 o1 rfl)
structure Rdg(rs:List Rn)(c:Nat)(l:List Int)(f:Int->Int):Prop where
 mem:l∈setsR rs c
 fit:∀r∈zaC rs l,f r.oW-f r.one=r.rise
def zpm(hm:Fen.zay n rs)(L:LiftOk n rs mark h h')(ht:Fen.HtOk rs h):Fen.HtOk rs h':=λr hr=>by
 obtain⟨a,b,c,d⟩:=hm r hr
 have:=ht r hr
 by_cases z:Fen.Conn rs mark r.one
 .rw[L.yes _ a b z,L.yes _ c d (z.trans (Fen.Conn.edge hr))];omega
 .rw[L.no _ a b z,L.no _ c d (λy=>z (y.trans (Fen.Conn.edge' hr)))];exact this
structure ToldNone(n:Nat)(rs:List Rn)(many:Nat)(d:D):Prop where
 emp:setsR rs (cntR many rs)=[]
 pap:∃p,d=.tup [.str "none",p]/\zcl n rs 0 0 many [] p
structure ToldSure(n:Nat)(rs:List Rn)(many:Nat)(one oW rise:Int)(d:D):Prop where
 some:setsR rs (cntR many rs)≠[]
 all:∀l f,Rdg rs (cntR many rs) l f->f oW-f one=rise
 conn:∀l∈setsR rs (cntR many rs),Fen.Conn (zaC rs l) one oW
 pap:∃p,d=.tup [.str "sure",.int rise,p]/\zcl n rs one oW many [] p
structure RdOk(n:Nat)(rs:List Rn)(c:Nat)(l h:List Int):Prop where
 mem:l∈setsR rs c
 fit:Fen.HtOk (zaC rs l) h
 len:h.length=n
structure ToldOpen(n:Nat)(rs:List Rn)(many:Nat)(one oW:Int)(d:D):Prop where
 ex:∃l h l' h',d=.tup [.str "open",ze0 l h,ze0 l' h']/\RdOk n rs (cntR many rs) l h/\RdOk n rs (cntR many rs) l' h'/\Fen.gI h' oW-Fen.gI h' one≠Fen.gI h oW-Fen.gI h one
def zoK(n:Nat)(rs:List Rn)(many:Nat)(one oW:Int)(d:D):Prop:=ToldNone n rs many d\/(∃rise,ToldSure n rs many one oW rise d)\/ToldOpen n rs many one oW d
def prD(p:List Int×List Int):D:=ze0 p.1 p.2
def zjX(ts:List Tri):ts.flatMap triD=(ts.flatMap λt=>[(t.l,t.h),(t.l,t.h')]).map prD:=by
 rw[YDU];rfl
def zjU(q:Q x):itD (x::xs) (.int 0) Q:=by
 show(match atI (x::xs) 0 with|some d=>Q d|none=>False);have e:atI (x::xs) 0=some x:=by unfold atI ixN;rw[if_pos (by decide),if_pos (by simp)];rfl
 rw[e];exact q
def znV(a:Bool)(n:Nat)(rs:List Rn)(many:Nat)(one oW:Int)(F:Few2 n rs)(hm:many<=5)(o0:0<=one)(o1:one<n)(p0:0<=oW)(p1:oW<n) :
  zfA [.int n,.lst a (rs.map runD),.int many,.int one,.int oW] (zoK n rs many one oW):=by
 unfold zfA fnW zaM;rw[YAb,YAb,YAb,YAb,YAb,zaP,zap,zap,zap,zap];refine⟨rfl,zaT (zjF _ n rs many oW F.toFew (by omega) p0 p1) λd ⟨ts,hd,hts,ok⟩=>?_⟩;subst hd;cases ts with
 |nil=>
  refine⟨rfl,zaT (zgk _ n rs many F (by omega) hm) λd hd=>⟨by show 2<=100000;decide,?_⟩⟩;have he:setsR rs (cntR many rs)=[]:=hts.symm;rcases hd with⟨_,l,fi⟩|⟨_,pa⟩
  .obtain⟨j,hj,_,done,oZ,e,_⟩:=fi.ex
   have:l∈setsR rs (cntR many rs):=mem_sets.mpr ⟨⟨j,hj,by rw[e];simp⟩,fi.yes⟩
   rw[he]at this;cases this
  .exact .inl ⟨he,d,rfl,pa⟩
 |cons t ts=>
  have okR:∀p∈(t::ts).flatMap (λt=>[(t.l,t.h),(t.l,t.h')]),RdOk n rs (cntR many rs) p.1 p.2:=λp hp=>by
   obtain⟨u,hu,hp⟩:=YCp.mp hp;have hu':=ok u hu;have hmem:u.l∈setsR rs (cntR many rs):=by rw[<-hts];exact YAQ hu
   simp only[YAn,YAP,YBU]at hp;rcases hp with rfl|rfl
   .exact⟨hmem,hu'.flat.2.1,hu'.flat.1⟩
   .exact⟨hmem,zpm (F.left u.l) hu'.lift hu'.flat.2.1,hu'.lift.len⟩
  have th:=(ok t YAi).flat.1;refine zjU (x:=ze0 t.l t.h) ?_;refine⟨rfl,rfl,zaT (zkp true t.h one oW o0 (by omega) p0 (by omega)) λd hd=>?_⟩;subst hd;show zbt _ _ _ ((t::ts).flatMap triD) _;rw[zjX];refine zaS (λrest M=>∃(done oZ:List (List Int×List Int))(s9 s10:Sl),M=[.val (.int n),.val (.lst false (rs.map runD)),.val (.int many),.val (.int one),.val (.int oW),.val (.lst true ((t::ts).flatMap triD)),.val (lsD t.l),.val (.lst true (t.h.map D.int)),.val (.int (Fen.gI t.h oW-Fen.gI t.h one)),s9,s10]/\rest=oZ.map prD/\(t::ts).flatMap (λt=>[(t.l,t.h),(t.l,t.h')])=done++oZ /\
   ∀p∈done,Fen.gI p.2 oW-Fen.gI p.2 one=Fen.gI t.h oW-Fen.gI t.h one) ?_ ?_ _ _ ⟨[],_,.un,.un,by rw[zjX];rfl,rfl,rfl,λp h=>by cases h⟩
  .rintro x rest M E' hn' hc hr hb ⟨done,oZ,s9,s10,rfl,e1,e2,hal⟩;cases oZ with
   |nil=>cases e1
   |cons p oZ=>
    rw[YAb]at e1;injection e1 with e1 e3
    subst e1;have hp:=okR p (by rw[e2];simp);have hpl:=hp.len;refine⟨rfl,rfl,zaT (zkp true p.2 one oW o0 (by omega) p0 (by omega)) λd hd=>?_⟩;subst hd;refine⟨za4 _ _,?_⟩;rw[zcm];by_cases z:Fen.gI p.2 oW-Fen.gI p.2 one=Fen.gI t.h oW-Fen.gI t.h one
    .rw[YAH z];refine hn' _ ⟨done++[p],oZ,.val (lsD p.1),.val (.lst true (p.2.map D.int)),rfl,e3,by rw[e2,YAB];rfl,λq hq=>?_⟩;rcases YAk.mp hq with e|e
     .exact hal q e
     .rw[YAg.mp e];exact z
    .rw[YAN z];refine⟨by show 2<=100000;decide,by show 2<=100000;decide,by show 3<=100000;decide,hr _ (.inr (.inr ⟨t.l,t.h,p.1,p.2,rfl,okR (t.l,t.h) (by simp),hp,z⟩))⟩
  .rintro M ⟨done,oZ,s9,s10,rfl,e1,e2,hal⟩;cases oZ with
   |cons p oZ=>cases e1
   |nil=>
    rw[YAR]at e2;have hal2:∀u∈t::ts,Fen.gI u.h oW-Fen.gI u.h one=Fen.gI t.h oW-Fen.gI t.h one/\Fen.gI u.h' oW-Fen.gI u.h' one=Fen.gI t.h oW-Fen.gI t.h one:=λu hu=>
     ⟨hal (u.l,u.h) (by rw[<-e2];exact YCp.mpr ⟨u,hu,by simp⟩),hal (u.l,u.h') (by rw[<-e2];exact YCp.mpr ⟨u,hu,by simp⟩)⟩
    have conn:∀u∈t::ts,Fen.Conn (zaC rs u.l) one oW:=λu hu=>by
     by_cases z:Fen.Conn (zaC rs u.l) oW one
     .exact z.symm
     .have L:=(ok u hu).lift;have q1:=L.no one o0 o1 z;have q2:=L.yes oW p0 p1 (.refl _);have q3:=hal2 u hu;omega
    have conn2:∀l∈setsR rs (cntR many rs),Fen.Conn (zaC rs l) one oW:=λl hl=>by
     rw[<-hts]at hl;obtain⟨u,hu,rfl⟩:=YAF.mp hl;exact conn u hu
    refine⟨rfl,zaT (zds _ n rs one oW many F o0 o1 hm ?_) λd hd=>⟨by show 3<=100000;decide,.inr (.inl ⟨_,?_,?_,conn2,d,rfl,hd⟩)⟩⟩
    .intro ext hl he hy;rw[YBs]at hy ⊢;obtain⟨j,hj,hm⟩:=zlm he (by omega:(ext.length:Int)<=many)
     have:=conn2 (zbP ext) (mem_sets.mpr ⟨⟨j,hj,hm⟩,by rw[zeB];exact hy⟩)
     rw[zeB]at this;exact this
    .rw[<-hts];simp
    .intro l f R;have hl:=R.mem;rw[<-hts]at hl;obtain⟨u,hu,rfl⟩:=YAF.mp hl
     have:=Fen.zna R.fit (ok u hu).flat.2.1 (conn u hu)
     have q:=(hal2 u hu).1;omega
def znu(a b:Str)(ha:PyData.canLay0 (.str a)=true)(hb:PyData.canLay0 (.str b)=true):eqOk (.str a) (.str b):=⟨by rw[layD];exact ha,by rw[layD];exact hb,by show min 0 0<=50;decide⟩
def Wd.few2{mm mh mr:Int}{n:Nat}{rs:List Rn}{hts fs:List Int}(W:Wd mm mh mr n rs hts fs)(h1:mm<=40)(h2:mr<64):Few2 n rs:=⟨W.fewN h1 h2,W.apart⟩
def okOO:eqOk (.str "open") (.str "open")/\eqB (.str "open") (.str "open")=true:=⟨znu _ _ (by decide +kernel) (by decide +kernel),by decide +kernel⟩
noncomputable def zdc:Fn:=fnW 8 ((seqW (asgW (.nm 5) (zas 1 za6 (zab (vW 1) nilA)))
  (seqW (forW (zew (binW addD (cbW minF (zab (vW 2) (zab (zdp 5) nilA))) (kW (.int 1)))) (.nm 6) (forW (seqI (zas 2 zbl (zab (vW 5) (zab (vW 6) nilA)))) (.nm 7) (ifS (truW (zas 5 zfC (zab (vW 0) (zab (vW 1) (zab (vW 7) (zab (vW 3) (zab (vW 4) nilA))))))) (retW (vW 7)) nilS)))
  (retW (kW .non)))))
noncomputable def ziT:Fn:=fnW 11 ((seqW (asgW (.nm 5) (zas 5 zdc (zab (vW 0) (zab (vW 1) (zab (binW mulD (kW (.int 2)) (vW 2)) (zab (vW 3) (zab (vW 4) nilA)))))))
  (seqW (ifS (blW (isNW (vW 5))) (retW (kW .non)) nilS)
  (seqW (asgW (.tp 2 (.cons (.nm 6) (.cons (.nm 7) .nil))) (tupW (zab (slW (vW 5) noO (ze1 (vW 2))) (zab (slW (vW 5) (ze1 (vW 2)) noO) nilA))))
  (seqW (asgW (.nm 8) (binW mulD (valW (lstW (zab (kW (.int 0)) nilA))) (vW 0)))
  (seqW (asgW (.nm 9) (zas 4 zcD (zab (vW 0) (zab (zas 2 zdf (zab (vW 1) (zab (vW 5) nilA))) (zab (vW 8) (zab (vW 4) nilA))))))
  (seqW (asgW (.nm 10) (valW (zaQ [none,none,none,none,some 6,some 9] (seqI (vW 1)) (.tp 4 (.cons (.nm 0) (.cons (.nm 1) (.cons (.nm 2) (.cons (.nm 3) .nil))))) noIf (ifW (blW (binW (inD false) (vW 3) (vW 4))) (binW subD (ixvW 5 (vW 1)) (ixvW 5 (vW 0))) (kW (.int 0))))))
  (retW (tupW (zab (vW 10) (zab (tupW (zab (vW 6) (zab (vW 8) nilA))) (zab (tupW (zab (vW 7) (zab (vW 9) nilA))) nilA))))))))))))
structure PartAt(rs:List Rn)(c:Nat)(one oW:Int)(l:List Int):Prop where
 cut:¬ Fen.Conn (zaC rs l) one oW
 ex:∃j,j<c/\(∀i,i<j->∀m∈zaD (zaj rs) i,Fen.Conn (zaC rs m) one oW)/\∃done oZ,zaD (zaj rs) j=done++l::oZ/\∀m∈done,Fen.Conn (zaC rs m) one oW
def zl6(rs:List Rn)(c:Nat)(one oW:Int):Prop:=∀i,i<c->∀m∈zaD (zaj rs) i,Fen.Conn (zaC rs m) one oW
def zjG(a:Bool)(n:Nat)(rs:List Rn)(many one oW:Int)(F:Few n rs)(m0:0<=many)(m1:many<=1000)(o0:0<=one)(o1:one<n) :
  zdc [.int n,.lst a (rs.map runD),.int many,.int one,.int oW] (λd=>(d=.non/\zl6 rs (cntR many rs) one oW)\/∃l,d=lsD l/\PartAt rs (cntR many rs) one oW l):=by
 have hh:=F.oY;have hl:=F.len;have hn:=F.n1;have hup:=zdZ rs;unfold zdc fnW zaM;rw[YAb,YAb,YAb,YAb,YAb,zaP,zap,zap,zap,zap];refine⟨rfl,zaT (zcj _ rs hl) λd hd=>?_⟩;subst hd;have eL:(((zaj rs).map D.int).length:Int)=((zaj rs).length:Int):=by rw[YAc]
 show(_/\_)/\zbt _ _ _ (rngL 0 ((if (((zaj rs).map D.int).length:Int)<many then(((zaj rs).map D.int).length:Int)else many)+1).toNat) _;rw[eL];have hc:cntR many rs<=11/\(cntR many rs:Int)=(if ((zaj rs).length:Int)<many then((zaj rs).length:Int)else many)+1:=by
  unfold cntR;split<;>constructor<;>omega
 refine⟨⟨by omega,by omega⟩,?_⟩
 change zbt _ _ _ (rngL 0 (cntR many rs)) _
 generalize cntR many rs=c at hc;refine zaS (λrest M=>∃(j:Nat)(s6 s7:Sl),M=[.val (.int n),.val (.lst false (rs.map runD)),.val (.int many),.val (.int one),.val (.int oW),.val (.lst true ((zaj rs).map D.int)),s6,s7]/\j<=c/\rest=rngL j (c-j)/\∀i,i<j->∀m∈zaD (zaj rs) i,Fen.Conn (zaC rs m) one oW) ?_ ?_ _ _
  ⟨0,.un,.un,rfl,by omega,rfl,λi hi=>by omega⟩
 .rintro x rest M E' hn' hc' hr hb ⟨j,s6,s7,rfl,hj,er,hno⟩;have hj2:j<c:=by
   rcases YCV j c with h|h
   .exact h
   .rw[YCu h]at er;cases er
  obtain⟨m,hm2⟩:∃m,c-j=m+1:=⟨c-j-1,by omega⟩;rw[hm2,zd9]at er;injection er with er4 er5
  subst er4;have er6:rest=rngL ((j+1:Nat):Int) (c-(j+1)):=by rw[er5,show c-(j+1)=m by omega];rfl
  refine⟨rfl,zaT (zc8 _ (zaj rs) j hup hh (by omega)) λd hd=>?_⟩;subst hd;show zbt _ _ _ ((zaD (zaj rs) j).map lsD) _;refine zaS (λrest M=>∃(done oZ:List (List Int))(s7:Sl),M=[.val (.int n),.val (.lst false (rs.map runD)),.val (.int many),.val (.int one),.val (.int oW),.val (.lst true ((zaj rs).map D.int)),.val (.int j),s7]/\rest=oZ.map lsD/\zaD (zaj rs) j=done++oZ/\∀m∈done,Fen.Conn (zaC rs m) one oW) ?_ ?_ _ _
   ⟨[],_,s7,rfl,rfl,rfl,λm h=>by cases h⟩
  .rintro x2 rest2 M E2 hn2 hc2 hr2 hb2 ⟨done,oZ,s7,rfl,e1,e2,e3⟩;cases oZ with
   |nil=>cases e1
   |cons l oZ=>
    rw[YAb]at e1;injection e1 with e1 e4
    subst e1;refine⟨rfl,zaT (zms false true n rs l one oW F.marks o0 o1 (by omega) (by omega)) λd ⟨x,hd,hx⟩=>?_⟩;subst hd;rw[<-zeT]at hx;cases x with
    |true=>exact hr2 _ (hr _ (.inr ⟨l,rfl,hx.mp rfl,j,hj2,hno,done,oZ,e2,e3⟩))
    |false=>
     refine hn2 _ ⟨done++[l],oZ,_,rfl,e4,by rw[e2,YAB];rfl,λm hm=>?_⟩;rcases YAk.mp hm with e|e
     .exact e3 m e
     .rw[YAg.mp e];exact Classical.byContradiction λz=>by cases hx.mpr z
  .rintro M ⟨done,oZ,s7,rfl,e1,e2,e3⟩;cases oZ with
   |cons l oZ=>cases e1
   |nil=>
    rw[YAR]at e2;refine hn' _ ⟨j+1,_,_,rfl,by omega,er6,λi hi m hm=>?_⟩;rcases YCV i j with h|h
    .exact hno i h m hm
    .have:i=j:=by omega
     subst this;rw[e2]at hm;exact e3 m hm
 .rintro M ⟨j,s6,s7,rfl,hj,er,hno⟩;have hj:j=c:=by
   have:=congrArg List.length er
   rw[zbb]at this
   have:c-j=0:=by simpa using this.symm
   omega
  subst hj;exact .inl ⟨rfl,hno⟩
end Fd
set_option maxHeartbeats 2000000
set_option maxHeartbeats 2000000
set_option maxHeartbeats 2000000
namespace HT
open PySem PyProof.Rows
section
open PySem.SeqAt
open PySem.AutoSeq1 (wpAny_loadPart')
open PySem.MeetsSeq PySem.MeetsSeq2 PySem.MeetsSeq3
def zh1(items:Array Value)(ns:List Int):Prop:=items.size=ns.length/\∀j (h:j<items.size),∃t,items[j]=.int (ns.getD j 0) t
def zix{ns:List Int}{i:Nat}(h:i<ns.length):ns.drop i=ns.getD i 0::ns.drop (i+1):=by
 rw[YAL h,YAs,YAe h];rfl
def zpF(l b:Addr)(items items2:Array Value)(n n2:Nat)(dd dd2:Option Addr)(sl sl2:Array (Option Value))(ns ms:List Int)(x1:zh1 items ns)(x2:zh1 items2 ms)(hsz:ns.length=ms.length)(k:Nat) :
  ∀i:Nat,items.size-i=k->Meets (Builtin.«list.__eq__.loop» ⟨[.ref l,.ref b,rawInt i,rawInt 0],[]⟩)
   (λ_ R s=>s.heap.get? l=some {cls:=.type "list",dict:=dd,data:=.seq items n,slots:=sl}/\s.heap.get? b=some {cls:=.type "list",dict:=dd2,data:=.seq items2 n2,slots:=sl2} /\
    R (.ok (.ret (.bool (zg1 (ns.drop i) (ms.drop i))))) s):=by
 obtain⟨z1,y1⟩:=x1;obtain⟨z2,y2⟩:=x2
 induction k with
 |zero=>
  intro i hk prog w A R s h;obtain⟨hp,g,d,tk,os⟩:=s;obtain⟨hl,hb,h⟩:=h
  wp_walk using YBm hl,YBm hb
  have hi1:items[((i:Nat):Int).toNat]?=none:=by simp;omega
  have hi2:items2[((i:Nat):Int).toNat]?=none:=by simp;omega
  rw[List.drop_of_length_le (by omega),List.drop_of_length_le (by omega),zhK]at h;rw[hi1,hi2]
  wp_walk using YBm hl,YBm hb
  show R (.ok (.ret (.bool (decide (items.size<items2.size))))) _;rw[YAN (by omega)];exact h
 |succ k ih=>
  intro i hk prog w A R s h;obtain⟨hp,g,d,tk,os⟩:=s;obtain⟨hl,hb,h⟩:=h
  wp_walk using YBm hl,YBm hb
  have hlt:i<items.size:=by omega
  have hlt2:i<items2.size:=by omega
  obtain⟨t,et⟩:=y1 i hlt;obtain⟨u,eu⟩:=y2 i hlt2;have hi1:items[((i:Nat):Int).toNat]?=some (.int (ns.getD i 0) t):=by rw[<-et];simp[hlt]
  have hi2:items2[((i:Nat):Int).toNat]?=some (.int (ms.getD i 0) u):=by rw[<-eu];simp[hlt2]
  have hc:((i:Int)+1)=((i+1:Nat):Int):=by push_cast;rfl
  rw[zix (by omega),zix (ns:=ms) (by omega),zk4]at h;rw[hi1,hi2];obtain⟨e,he,hiff⟩:=znA A.in1 ⟨hp,g,d,tk,os⟩ (ns.getD i 0) t (ms.getD i 0) u;refine YAa (he prog w _ _ ?_);cases e with
  |true=>
   rw[if_pos (hiff.mp rfl)]at h
   wp_walk
   rw[hc];exact⟨YCL plain_eq_loop _,YBE entry_eq_loop (by
    rw[YB9 plain_eq_loop _];exact ih (i+1) (by omega) prog w A R _ ⟨hl,hb,h⟩)⟩
  |false=>
   rw[if_neg (λq=>absurd (hiff.mpr q) YAA)]at h
   wp_walk using YBm hl,YBm hb
   rw[hi1,hi2];have hri:=zoy A.in1 ⟨hp,g,d,tk,os⟩ (ns.getD i 0) t (ms.getD i 0) u prog w
   wp_walk using hri
   simpa using h
def ziw(l b:Addr)(items items2:Array Value)(n n2:Nat)(dd dd2:Option Addr)(sl sl2:Array (Option Value))(ns ms:List Int)(x1:zh1 items ns)(x2:zh1 items2 ms)(hsz:ns.length=ms.length) :
  Meets (Builtin.«list.__lt__» ⟨[.ref l,.ref b],[]⟩)
   (λ_ R s=>s.heap.get? l=some {cls:=.type "list",dict:=dd,data:=.seq items n,slots:=sl}/\s.heap.get? b=some {cls:=.type "list",dict:=dd2,data:=.seq items2 n2,slots:=sl2} /\
    R (.ok (.ret (.bool (zg1 ns ms)))) s):=by
 intro prog w A R s h;obtain⟨hp,g,d,tk,os⟩:=s;obtain⟨hl,hb,h⟩:=h;have f3:=AutoSeq1.sub_list_list
 wp_walk using YBm hl,YBm hb
 exact⟨YCL plain_eq_loop _,YBE entry_eq_loop (by
  rw[YB9 plain_eq_loop _];exact zpF l b items items2 n n2 dd dd2 sl sl2 ns ms x1 x2 hsz _ 0 rfl prog w A R _ ⟨hl,hb,by simpa using h⟩)⟩
end
section
variable{prog:Program}{w:World}{A:Around}{E:Value->Shared->Prop}{s:Shared}
def zjx{l b:Addr}{items items2:Array Value}{ns ms:List Int}{Q:Value->Shared->Prop}(hl:s.heap.IsList l items)(hb:s.heap.IsList b items2)(x1:zh1 items ns)(x2:zh1 items2 ms)(hsz:ns.length=ms.length)
  (hu:A.units<cLine) (h:Q (.bool (zg1 ns ms)) s):wpAny (model prog w) A (compareOp .Lt (.ref l) (.ref b)) Q E s:=by
 obtain⟨⟨cls,dd,data,sl⟩,ho,hc,n,hd⟩:=id hl;obtain⟨⟨cls2,dd2,data2,sl2⟩,ho2,hc2,n2,hd2⟩:=id hb;simp only at hc hd hc2 hd2;subst hc hd hc2 hd2;exact richCompare_meets_room (op:=.Lt) ⟨_,ho,rfl⟩ ⟨_,ho2,rfl⟩ PySem.F.slot_list_lt PySem.F.entry_list_lt (PySem.F.args_list_lt_2 _ _) (ziw l b items items2 n n2 dd dd2 sl sl2 ns ms x1 x2 hsz)
  ⟨ho,ho2,show Value.bool (zg1 ns ms)≠Value.notImplemented/\Q (.bool (zg1 ns ms)) s from⟨(λx=>nomatch x),h⟩⟩ hu
end
end HT
namespace L2
open PySem PySem.Spec PyProof.Rows PySem.W
section
variable{prog:Program}{w:World}{A:Around}{E:Value->Shared->Prop}{s:Shared}{vs:List Value}{κ:SortKind}
def zmL(vs out:List Value):Prop:=∃p:List Nat,p.Perm (List.range vs.length)/\out=p.map λi=>vs.getD i Value.none
end
end L2
namespace L2
open PySem PySem.Spec PyProof.Rows PySem.W HT
abbrev Pr:=Int×List Int
def PairAt(h:Heap)(v:Value)(x:Pr):Prop:=∃(t a:Addr)(tk:Tok)(items:Array Value),v=.ref t/\IsTup h t #[.int x.1 tk,.ref a]/\h.IsList a items/\zh1 items x.2/\x.1=x.2.length
def PairAt.kept{h h':Heap}{v:Value}{x:Pr}(p:PairAt h v x)(k:∀b o,h.get? b=some o->h'.get? b=some o):PairAt h' v x:=by
 obtain⟨t,a,tk,items,e,⟨o,ho,q⟩,⟨o2,ho2,q2⟩,r⟩:=p;exact⟨t,a,tk,items,e,⟨o,k _ _ ho,q⟩,⟨o2,k _ _ ho2,q2⟩,r⟩
section
variable{prog:Program}{w:World}{A:Around}{s:Shared}
def zpU{u v:Value}{x y:Pr}{C:Bool->Shared->Prop}(hu:A.units<cLine)(p:PairAt s.heap u x)(q:PairAt s.heap v y)(c:∀b,C b s):wpAny (model prog w) A (keyLt' (tuples' true) u v) C (λ_ _=>False) s:=by
 obtain⟨t,a,tk,items,rfl,⟨o,ho,hc,n,hd⟩,hl,hi,hx⟩:=p;obtain⟨t2,a2,tk2,items2,rfl,⟨o2,ho2,hc2,n2,hd2⟩,hl2,hi2,hy⟩:=q;refine kat_lt ho hd ho2 hd2 ?_;show KatLex prog w A true (decide (2<2)) C [(.int x.1 tk,.int y.1 tk2),(.ref a,.ref a2)] 0 s;refine kat_cons ((YCJ x.1 tk y.1 tk2:SeqAt.EqAt A s _ _ _) prog w _ _ ?_);by_cases e:x.1=y.1
 .have hsz:x.2.length=y.2.length:=by omega
  rw[show(x.1==y.1)=true by simp[e]];refine kat_yes (kat_cons ?_);have key:∀b:Bool,KatGo prog w A true (decide (2<2)) C (.ref a) (.ref a2) [] 1 b s:=λb=>by
   cases b with
   |true=>exact kat_yes (kat_nil (c _))
   |false=>exact kat_no (kat_one _ _ (zjx hl hl2 hi hi2 hsz hu (c _)))
  by_cases z:a=a2
  .subst z;exact(SeqAt.EqAt.same (.ref a):SeqAt.EqAt A s _ _ _) prog w _ _ (key true)
  .have R:=SeqAt.RcAt.lists (A:=A) (s:=s) (e:=λj=>x.2.getD j 0==y.2.getD j 0) hl hl2 (by rw[hi.1,hi2.1];exact hsz) hu λj h1 h2=>by
    obtain⟨t3,e3⟩:=hi.2 j h1;obtain⟨t4,e4⟩:=hi2.2 j h2;rw[e3,e4];exact YCJ _ _ _ _
   exact SeqAt.EqAt.of_refs z R prog w _ _ (key _)
 .rw[show(x.1==y.1)=false by simp[e]];exact kat_no (oneLt_int (c _))
end
section
variable{X:Cx}
def znN(K:qg)(H:Hp)(u:V)(x:Pr):Prop:=∃t a,u=.ref t/\SqT K H t [.int x.1,.ref a]/\SqL K H a (x.2.map V.int)/\x.1=x.2.length
def zoc:∀{ns:List Int}{its:List Value},Vals (ns.map V.int) its->zh1 its.toArray ns:=λ{ns its} r=>by
 have hl:=r.length;rw[YAc]at hl;refine⟨by rw[YAu];exact hl.symm,λj h=>?_⟩;have hj:j<ns.length:=by rw[YAu]at h;omega
 obtain⟨u,hu,ru⟩:=r.get (i:=j) (x:=.int (ns.getD j 0)) (by rw[YAo,YAe hj,YAs,YAe hj];rfl);obtain⟨t,rfl⟩:=ru;refine⟨t,?_⟩
 have:=YAh.mp hu
 obtain⟨_,e⟩:=this
 simpa using e
def zmc{O:List (Addr×Obj)}{Y:St}{H:Hp}{s:Shared}{u:V}{v:Value}{x:Pr}(I:Inv X O Y H s)(r:RelV u v)(p:znN X.K H u x):PairAt s.heap v x:=by
 obtain⟨t,a,rfl,ht,ha,e⟩:=p;cases r;obtain⟨its,rv,hp,_⟩:=I.tuple ht;obtain⟨v1,v2,rfl,r1,r2⟩:=zoh rv;obtain⟨tk,rfl⟩:=r1;cases r2;obtain⟨its2,rv2,hl,_⟩:=I.list ha;exact⟨t,a,tk,its2.toArray,rfl,hp,hl.isList,zoc rv2,e⟩
theorem zml{h:Heap}:∀{vs:List Value}{ps:List Pr},vs.length=ps.length->(∀(i:Nat)(v:Value)(x:Pr),vs[i]?=some v->ps[i]?=some x->PairAt h v x)->∃fs:List Value,fs.length=vs.length/\KatTups h vs fs/\∀f∈fs,∃n t,f=.int n t
 |[],[],_,_=>⟨[],rfl,.nil,λf h=>by cases h⟩
 |[],_::_,e,_=>by cases e
 |_::_,[],e,_=>by cases e
 |v::vs,x::ps,e,k=>by
  obtain⟨fs,h1,h2,h3⟩:=zml (vs:=vs) (ps:=ps) (by simpa using e) λi v x a b=>k (i+1) v x a b;obtain⟨t,a,tk,items,rfl,⟨o,ho,hc,n,hd⟩,_⟩:=k 0 v x rfl rfl;refine⟨.int x.1 tk::fs,by simp[h1],.cons ho hc hd rfl h2,λf hf=>?_⟩;rcases YAn.mp hf with z|z
  .exact⟨_,_,z⟩
  .exact h3 f z
end
end L2
namespace Fd
open PySem L2
section
variable{X:Cx}{c:Bk}
def prP(b:Bool)(x:Pr):D:=.tup [.int x.1,.lst b (x.2.map D.int)]
def zq0{G H:Hp}{b:Bool}{x:Pr}{v:V}(gh:Same G H)(h:Rep c G (prP b x) v)(e:x.1=x.2.length):znN c.K H v x:=by
 obtain⟨t,vs,rfl,ht,hv⟩:=h;obtain⟨v1,v2,rfl,e1,e2⟩:=zpQ hv;have e1:v1=V.int x.1:=e1;subst e1;obtain⟨a,ws,rfl,ha,_,hw⟩:=e2;rw[reps_ints.mp hw]at ha;exact⟨t,a,rfl,zaO gh ht,SqL.of (gh _ _ ha),e⟩
def zf7{ps:List Pr}{idx:List Nat}(h:idx.Perm (List.range ps.length)):(idx.map λi=>ps.getD i (0,[])).Perm ps:=by
 have e:(List.range ps.length).map (λi=>ps.getD i (0,[]))=ps:=by
  apply YCo
  .simp
  .intro i h1 h2;simp[h2]
 have:=h.map λi=>ps.getD i (0,[])
 rwa[e]at this
end
end Fd
namespace Fd
open PySem L2
def ze5(many:Nat)(ls:List (List Int))(h:Int):List (List Int):=ls++(ls.filter λl=>decide (l.length<many)).map (·++[h])
def allL(many:Nat)(oY:List Int):List (List Int):=oY.foldl (ze5 many) [[]]
def ziS(many:Nat)(hs:List Int)(h:Int):allL many (hs++[h])=ze5 many (allL many hs) h:=by unfold allL;rw[List.foldl_append];rfl
def zj3{P:List Int->Prop}(h0:P [])(h1:∀l x,P l->P (l++[x]))(l:List Int):P l:=by
 have:∀n (l:List Int),l.length=n->P l:=by
  intro n
  induction n with
  |zero=>intro l e;rw[YCk.mp e];exact h0
  |succ n ih=>
   intro l e;rcases snocs l with rfl|⟨m,a,rfl⟩
   .cases e
   .exact h1 m a (ih m (by rw[YAq,YBy]at e;omega))
 exact this _ l rfl
def znW(many:Nat)(oY:List Int):∀l,l∈allL many oY↔l.Sublist oY/\l.length<=many:=by
 refine zj3 (P:=λoY=>∀l,l∈allL many oY↔l.Sublist oY/\l.length<=many) ?_ ?_ oY
 .intro l;show l∈[[]]↔_;rw[YAg,List.sublist_nil];exact⟨λe=>⟨e,by rw[e];exact YAC _⟩,λh=>h.1⟩
 .intro hs h ih l;rw[ziS];unfold ze5;rw[YAk,ih,YAF];constructor
  .rintro(⟨h1,h2⟩|⟨m,hm,rfl⟩)
   .exact⟨h1.trans (List.sublist_append_left _ _),h2⟩
   .obtain⟨h1,h2⟩:=YBa.mp hm;refine⟨((ih m).mp h1).1.append (List.Sublist.refl _),?_⟩
    have:=YA7 h2
    rw[YAq,YBy];omega
  .rintro⟨h1,h2⟩;obtain⟨a,b,rfl,ha,hb⟩:=List.sublist_append_iff.mp h1;cases b with
   |nil=>rw[YAR]at h2 ⊢;exact .inl ⟨ha,h2⟩
   |cons x b=>
    have hb2:=hb.length_le;rw[YAS,YBy]at hb2;have eb:b=[]:=YCk.mp (by omega);subst eb;have ex:x=h:=by simpa using hb
    subst ex;rw[YAq,YBy]at h2;exact .inr ⟨a,YBa.mpr ⟨(ih a).mpr ⟨ha,by omega⟩,YAH (by omega)⟩,rfl⟩
def ziH(many:Nat)(ls:List (List Int))(h:Int):(ze5 many ls h).length<=ls.length+ls.length:=by
 unfold ze5;rw[YAq,YAc]
 have:=YCU (λl:List Int=>decide (l.length<many)) ls
 omega
theorem znf(many:Nat):∀(hs:List Int)(ls:List (List Int)),ls.length<=(hs.foldl (ze5 many) ls).length
 |[],ls=>YAj _
 |h::hs,ls=>YAU (by unfold ze5;rw[YAq];omega) (znf many hs (ze5 many ls h))
def keyL(l:List Int):Pr:=((l.length:Int),l)
def zrN{l hs:List Int}(u:hs.Pairwise (·<·)):l.Sublist hs↔l.Pairwise (·<·)/\∀h∈l,h∈hs:=by
 constructor
 .intro h;exact⟨u.sublist h,λx hx=>h.subset hx⟩
 .rintro⟨h1,h2⟩
  induction hs generalizing l with
  |nil=>
   rw[show l=[]from List.eq_nil_iff_forall_not_mem.mpr λx hx=>(by have:=h2 x hx;cases this)];exact List.Sublist.refl _
  |cons x hs ih=>
   obtain⟨u1,u2⟩:=YBh.mp u;cases l with
   |nil=>exact List.nil_sublist _
   |cons y l=>
    obtain⟨v1,v2⟩:=YBh.mp h1;rcases YAn.mp (h2 y YAi)with rfl|hy
    .refine List.Sublist.cons₂ _ (ih u2 v2 λz hz=>?_);rcases YAn.mp (h2 z (YAp _ hz))with rfl|h
     .have:=v1 z hz;omega
     .exact h
    .refine List.Sublist.cons _ (ih u2 h1 λz hz=>?_);rcases YAn.mp (h2 z hz)with rfl|h
     .rcases YAn.mp hz with rfl|hz
      .exact hy
      .have:=v1 z hz;have:=u1 y hy;omega
     .exact h
def AtP(K:qg)(H:Hp):V->List Nat->V->Prop
 |v,[],u=>v=u
 |v,i::p,u=>∃a vs w,v=.ref a/\SqT K H a vs/\vs[i]?=some w/\AtP K H w p u
theorem AtP.snoc{K:qg}{H:Hp}:∀{p:List Nat}{v u:V}{j:Nat},AtP K H v (p++[j]) u->∃a vs,AtP K H v p (.ref a)/\SqT K H a vs/\vs[j]?=some u
 |[],v,u,j,⟨a,vs,w,h1,h2,h3,h4⟩=>by
  have h4:w=u:=h4;exact⟨a,vs,h1,h2,h4▸h3⟩
 |i::p,v,u,j,⟨a,vs,w,h1,h2,h3,h4⟩=>by
  obtain⟨b,us,k1,k2,k3⟩:=AtP.snoc h4;exact⟨b,us,⟨a,vs,w,h1,h2,h3,k1⟩,k2,k3⟩
def zlM(K:qg)(i:Nat)(p:List Nat):TE:=λY H Q=>∃v u,Y[i]?=some (some v)/\AtP K H v p u/\Q u H
section
variable{X:Cx}{e ke:Expr}{pos pos' apos cpos:Pos}
def zmF(i:Nat){x:Str}(hN:X.N[i]?=some x:=by rfl)(hv:Vis X.env.scope x:=by first|exact Or.inl rfl|exact Or.inr (Or.inl rfl)|exact Or.inr (Or.inr rfl))
  (hd:(x==("__debug__":Str))=false:=by decide) (hcd:(x==("__classdict__":Str))=false:=by decide):PE X (.Name x pos) (zlM X.K i []):=
 zaN (zei hN hv hd hcd) λY H Q ⟨v,u,h1,h2,q⟩=>⟨v,h1,by have h2:v=u:=h2;rw[h2];exact q⟩
def znd{i j t:Nat}{p:List Nat}(h:PE X e (zlM X.K i p))(hs:zhT (.Constant (.int (j:Int)) t pos'):=by intro _ _;rfl):PE X (.Subscript e (.Constant (.int (j:Int)) t pos') pos) (zlM X.K i (p++[j])):=
 zaN (zcO ix_tup h zaI hs) λY H Q ⟨v,u,h1,h2,q⟩=>by
  obtain⟨a,vs,k1,k2,k3⟩:=h2.snoc;exact⟨v,.ref a,h1,k1,a,vs,(j:Int),u,rfl,rfl,k2,zdJ k3,q⟩
def zrQ(K:qg)(i:Nat)(p:List Nat)(kv:V):TS:=λD Y H=>∃v a us,Y[i]?=some (some v)/\AtP K H v p (.ref a)/\H a=some (.lst us)/\us.length<100000/\D.nx Y (upd H a (.lst (us++[kv])))
def zqb{i:Nat}{p:List Nat}{kv:V}(h:PE X e (zlM X.K i p))(hk:PE X ke (tC kv))(hbase:attributeBase e "append" X.env (eval e X.env)=eval e X.env:=by rfl)
  (hfew:((backTo cpos (starEach [ke] X.env)).all (λx=>!x.1)&&(backToKw cpos (keywordEach [] X.env)).all (λx=>x.1.isSome)
   && decide (([ke]:List Expr).length+([]:List Keyword).length+(if ([]:List Keyword).isEmpty then 0 else 1)<30))=true:=by rfl)
  (hline:(apos.endLine==cpos.line)=true:=by rfl) (hs:starEach [ke] X.env=(false,eval ke X.env)::starEach [] X.env:=by rfl)
  (hsw:swapsWith (.Call (.Attribute e "append" apos) [ke] [] cpos) none pos.line X.env=pure false:=by rfl):PS X (.Expr (.Call (.Attribute e "append" apos) [ke] [] cpos) pos) (zrQ X.K i p kv):=
 zcp (zdb (zkM YBG YBA YBB zbQ h (zag hk zav hs) hbase hfew hline hs rfl) hsw) λD Y H ⟨v,a,us,h1,h2,h3,h4,q⟩=>
  ⟨v,.ref a,h1,h2,.inl ⟨rfl,us,SqL.of h3⟩,a,us,kv,rfl,rfl,h3,YAt h4 (small5 (YAj _)),q⟩
end
mutual
/-- a shape whose lists are newer than Ha,at most k longer than they were -/
def Sh(K:qg)(Ha H:Hp)(k:Nat):D->V->Prop
 |.non,v=>v=.non
 |.str x,v=>v=.str x
 |.tup ds,v=>∃a vs,v=.ref a/\SqT K H a vs/\Shs K Ha H k ds vs
 |.lst n xs,v=>n=true->∃a us,v=.ref a/\H a=some (.lst us)/\Ha a=none/\us.length<=xs.length+k
 |_,_=>True
def Shs(K:qg)(Ha H:Hp)(k:Nat):List D->List V->Prop
 |[],vs=>vs=[]
 |d::ds,vs=>∃v ws,vs=v::ws/\Sh K Ha H k d v/\Shs K Ha H k ds ws
end
mutual
theorem Sh.of{c:Bk}{G H:Hp}(gh:Same G H):∀{d:D}{v:V},Rep c G d v->Sh c.K c.H0 H 0 d v
 |.non,_,h=>by unfold Sh;exact h
 |.str _,_,h=>by unfold Sh;exact h
 |.tup ds,_,⟨a,vs,h1,h2,h3⟩=>by unfold Sh;exact⟨a,vs,h1,zaO gh h2,Shs.of gh h3⟩
 |.lst n xs,_,⟨a,vs,h1,h2,h3,h4⟩=>by unfold Sh;exact λz=>⟨a,vs,h1,gh _ _ h2,h3 z,by rw[h4.length];exact YAj _⟩
 |.bl _,_,_=>by unfold Sh;trivial
 |.int _,_,_=>by unfold Sh;trivial
 |.box,_,_=>by unfold Sh;trivial
theorem Shs.of{c:Bk}{G H:Hp}(gh:Same G H):∀{ds:List D}{vs:List V},Reps c G ds vs->Shs c.K c.H0 H 0 ds vs
 |[],_,h=>by unfold Shs;exact h
 |d::ds,_,⟨v,ws,h1,h2,h3⟩=>by unfold Shs;exact⟨v,ws,h1,Sh.of gh h2,Shs.of gh h3⟩
end
def zex{K:qg}{H:Hp}{a b:Addr}{us ws vs:List V}(h:H a=some (.lst us))(x:SqT K H b vs):SqT K (upd H a (.lst ws)) b vs:=by
 rcases x with(x|⟨o,x⟩)|x
 .exact .inl (.inl (by rw[zaf (λz=>by rw[z,h]at x;cases x)];exact x))
 .exact .inl (.inr ⟨o,by rw[zaf (λz=>by rw[z,h]at x;cases x)];exact x⟩)
 .exact .inr x
mutual
theorem Sh.app{K:qg}{Ha H:Hp}{k:Nat}{a:Addr}{us:List V}{y:V}(h:H a=some (.lst us)):∀{d:D}{v:V},Sh K Ha H k d v->Sh K Ha (upd H a (.lst (us++[y]))) (k+1) d v
 |.non,_,x=>by unfold Sh at x ⊢;exact x
 |.str _,_,x=>by unfold Sh at x ⊢;exact x
 |.tup ds,_,x=>by
  unfold Sh at x ⊢;obtain⟨b,vs,h1,h2,h3⟩:=x;exact⟨b,vs,h1,zex h h2,Shs.app h h3⟩
 |.lst n xs,_,x=>by
  unfold Sh at x ⊢;intro z;obtain⟨b,ws,h1,h2,h3,h4⟩:=x z;by_cases e:b=a
  .subst e;rw[h]at h2;cases h2;exact⟨b,_,h1,zac,h3,by rw[YAq,YBy];omega⟩
  .exact⟨b,ws,h1,by rw[zaf e];exact h2,h3,by omega⟩
 |.bl _,_,_=>by unfold Sh;trivial
 |.int _,_,_=>by unfold Sh;trivial
 |.box,_,_=>by unfold Sh;trivial
theorem Shs.app{K:qg}{Ha H:Hp}{k:Nat}{a:Addr}{us:List V}{y:V}(h:H a=some (.lst us)):∀{ds:List D}{vs:List V},Shs K Ha H k ds vs->Shs K Ha (upd H a (.lst (us++[y]))) (k+1) ds vs
 |[],_,x=>by unfold Shs at x ⊢;exact x
 |d::ds,_,x=>by
  unfold Shs at x ⊢;obtain⟨v,ws,h1,h2,h3⟩:=x;exact⟨v,ws,h1,Sh.app h h2,Shs.app h h3⟩
end
def leaf:D->List Nat->Bool
 |.lst n xs,[]=>n&&decide (xs.length<=1000)
 |.tup ds,i::p=>match ds[i]? with|some d=>leaf d p|none=>false
 |_,_=>false
theorem Shs.get{K:qg}{Ha H:Hp}{k:Nat}:∀{ds:List D}{vs:List V}{i:Nat}{d:D},Shs K Ha H k ds vs->ds[i]?=some d->∃v,vs[i]?=some v/\Sh K Ha H k d v
 |[],_,_,_,_,e=>by simp at e
 |_::_,_,0,_,h,e=>by unfold Shs at h;obtain⟨v,ws,h1,h2,_⟩:=h;subst h1;simp at e;subst e;exact⟨v,rfl,h2⟩
 |_::_,_,i+1,d,h,e=>by unfold Shs at h;obtain⟨v,ws,h1,_,h3⟩:=h;subst h1;exact Shs.get (i:=i) h3 (by simpa using e)
theorem Sh.leaf{K:qg}{Ha H:Hp}{k:Nat}:∀{p:List Nat}{d:D}{v:V},Sh K Ha H k d v->leaf d p=true->∃a us,AtP K H v p (.ref a)/\H a=some (.lst us)/\Ha a=none/\us.length<=1000+k
 |[],.lst n xs,v,h,e=>by
  unfold Fd.leaf at e;rw[YAJ]at e;unfold Sh at h;obtain⟨a,us,h1,h2,h3,h4⟩:=h e.1;exact⟨a,us,h1,h2,h3,by have:=YA7 e.2;omega⟩
 |i::p,.tup ds,v,h,e=>by
  unfold Fd.leaf at e;unfold Sh at h;obtain⟨a,vs,h1,h2,h3⟩:=h;cases ed:ds[i]? with
  |none=>rw[ed]at e;cases e
  |some d=>
   rw[ed]at e;obtain⟨w,k1,k2⟩:=h3.get ed;obtain⟨b,us,m1,m2,m3,m4⟩:=Sh.leaf k2 e;exact⟨b,us,⟨a,vs,w,h1,h2,k1,m1⟩,m2,m3,m4⟩
 |[],.non,_,_,e=>by simp[Fd.leaf]at e
 |[],.bl _,_,_,e=>by simp[Fd.leaf]at e
 |[],.int _,_,_,e=>by simp[Fd.leaf]at e
 |[],.str _,_,_,e=>by simp[Fd.leaf]at e
 |[],.box,_,_,e=>by simp[Fd.leaf]at e
 |[],.tup _,_,_,e=>by simp[Fd.leaf]at e
 |_::_,.non,_,_,e=>by simp[Fd.leaf]at e
 |_::_,.bl _,_,_,e=>by simp[Fd.leaf]at e
 |_::_,.int _,_,_,e=>by simp[Fd.leaf]at e
 |_::_,.str _,_,_,e=>by simp[Fd.leaf]at e
 |_::_,.box,_,_,e=>by simp[Fd.leaf]at e
 |_::_,.lst _ _,_,_,e=>by simp[Fd.leaf]at e
@[reducible] def mNil:D->Bool:=λ_=>true
@[reducible] def mApp(p:List Nat)(qf:D->Bool):D->Bool:=λd=>leaf d p&&qf d
def newB:D->Bool
 |.tup ds=>newBs ds
 |.lst n xs=>n&&newBs xs
 |_=>true
where newBs:List D->Bool
 |[]=>true
 |d::ds=>newB d&&newBs ds
mutual
theorem Rep.retag{c c':Bk}{G:Hp}(hk:c.K=c'.K)(hb:c.β=c'.β)(hn:∀a o,G a=some (.lst o)->c.H0 a=none->c'.H0 a=none):∀{d:D}{v:V},Rep c G d v->Rep c' G d v
 |.non,_,h=>h
 |.bl _,_,h=>h
 |.int _,_,h=>h
 |.str _,_,h=>h
 |.box,_,h=>by show _=V.ref c'.β;rw[<-hb];exact h
 |.tup xs,_,⟨a,vs,h1,h2,h3⟩=>⟨a,vs,h1,hk▸h2,Reps.retag hk hb hn h3⟩
 |.lst n xs,_,⟨a,vs,h1,h2,h4,h3⟩=>⟨a,vs,h1,h2,λz=>hn a vs h2 (h4 z),Reps.retag hk hb hn h3⟩
theorem Reps.retag{c c':Bk}{G:Hp}(hk:c.K=c'.K)(hb:c.β=c'.β)(hn:∀a o,G a=some (.lst o)->c.H0 a=none->c'.H0 a=none):∀{ds:List D}{vs:List V},Reps c G ds vs->Reps c' G ds vs
 |[],_,h=>h
 |_::_,_,⟨v,ws,h1,h2,h3⟩=>⟨v,ws,h1,Rep.retag hk hb hn h2,Reps.retag hk hb hn h3⟩
end
def zc6:Option HO->Option HO
 |some (.tup xs)=>some (.tup xs)
 |some (.frz o u)=>some (.frz o u)
 |_=>none
def zfO{o:Option HO}{u:HO}(h:zc6 o=some u):o=some u/\zkB u:=by
 unfold zc6 at h;split at h
 .cases h;exact⟨rfl,trivial⟩
 .cases h;exact⟨rfl,trivial⟩
 .cases h
def keepG(Ga G Hm:Hp):Hp:=λa=>match Ga a,Hm a with
 |some o,_=>some o
 |none,none=>G a
 |none,some _=>zc6 (G a)
def zhY{Ga G Hm:Hp}(s:Same Ga G){a:Addr}{o:HO}(h:keepG Ga G Hm a=some o):G a=some o:=by
 unfold keepG at h;split at h
 .cases h;apply s;assumption
 .exact h
 .exact(zfO h).1
mutual
theorem Rep.kept{c c':Bk}{Ga G Hm:Hp}(hk:c.K=c'.K)(hb:c.β=c'.β)(s:Same Ga G)(hm:∀a,c.H0 a=none->Hm a=none)(h0:∀a,c.H0 a=none->c'.H0 a=none):∀{d:D}{v:V},newB d=true->Rep c G d v->Rep c' (keepG Ga G Hm) d v
 |.non,_,_,h=>h
 |.bl _,_,_,h=>h
 |.int _,_,_,h=>h
 |.str _,_,_,h=>h
 |.box,_,_,h=>by show _=V.ref c'.β;rw[<-hb];exact h
 |.tup xs,_,n,⟨a,vs,h1,h2,h3⟩=>by
  unfold newB at n;refine⟨a,vs,h1,hk▸?_,Reps.kept hk hb s hm h0 n h3⟩;have key:∀u,zkB u->G a=some u->keepG Ga G Hm a=some u:=λu su e=>by
   unfold keepG;cases e1:Ga a with
   |some o=>have:=s a o e1;rw[e]at this;cases this;rfl
   |none=>
    cases e2:Hm a with
    |none=>exact e
    |some x=>
     show zc6 (G a)=some u;rw[e];cases u with
     |tup xs=>rfl
     |frz o u=>rfl
     |_=>exact su.elim
  rcases h2 with(h2|⟨o,h2⟩)|h2
  .exact .inl (.inl (key _ trivial h2))
  .exact .inl (.inr ⟨o,key _ trivial h2⟩)
  .exact .inr h2
 |.lst n xs,_,nn,⟨a,vs,h1,h2,h4,h3⟩=>by
  unfold newB at nn;rw[YAJ]at nn;refine⟨a,vs,h1,?_,λz=>h0 a (h4 z),Reps.kept hk hb s hm h0 nn.2 h3⟩;have hz:=hm a (h4 nn.1);unfold keepG;rw[hz];cases e1:Ga a with
  |some o=>have:=s a o e1;rw[h2]at this;cases this;rfl
  |none=>exact h2
theorem Reps.kept{c c':Bk}{Ga G Hm:Hp}(hk:c.K=c'.K)(hb:c.β=c'.β)(s:Same Ga G)(hm:∀a,c.H0 a=none->Hm a=none)(h0:∀a,c.H0 a=none->c'.H0 a=none):∀{ds:List D}{vs:List V},newB.newBs ds=true->Reps c G ds vs->Reps c' (keepG Ga G Hm) ds vs
 |[],_,_,h=>h
 |_::_,_,n,⟨v,ws,h1,h2,h3⟩=>by
  unfold newB.newBs at n;rw[YAJ]at n;exact⟨v,ws,h1,Rep.kept hk hb s hm h0 n.1 h2,Reps.kept hk hb s hm h0 n.2 h3⟩
end
def Rel.unset{c:Bk}{M:Env}{Y:St}{H G:Hp}(r:Rel c M Y H G)(i:Nat)(w:V):Rel c (M.set i .un) (Y.set i (some w)) H G:=by
 refine⟨by simp[r.len],r.stp,λj s e=>?_,λj k a xs ys e1 e2 e3 e4=>?_⟩
 .by_cases z:i=j
  .subst z;have hi:i<M.length:=by have:=(YAh.mp e).1;simpa using this
   rw[YAI hi]at e;cases e
   trivial
  .rw[YAD z]at e ⊢;exact r.slot j s e
 .have f:∀(m:Nat) zs,(M.set i .un)[m]?=some (.own zs)->i≠m/\M[m]?=some (.own zs):=λm zs e=>by
   by_cases z:i=m
   .subst z;have hi:i<M.length:=by have:=(YAh.mp e).1;simpa using this
    rw[YAI hi]at e;cases e
   .rw[YAD z]at e;exact⟨z,e⟩
  obtain⟨n1,f1⟩:=f j xs e1;obtain⟨n2,f2⟩:=f k ys e2;rw[YAD n1]at e3;rw[YAD n2]at e4;exact r.dis j k a xs ys f1 f2 e3 e4
def zii(Ha H3 H5:Hp):Hp:=λa=>match Ha a,H3 a with
 |some o,_=>some o
 |none,none=>H5 a
 |none,some _=>zc6 (H5 a)
def zla{Ha H3 H5:Hp}{a:Addr}{xs:List V}(h1:Ha a=none)(h2:H3 a≠none)(h3:H5 a=some (.lst xs)):zii Ha H3 H5 a=none:=by
 unfold zii;rw[h1];cases e2:H3 a with
 |none=>exact absurd e2 h2
 |some x=>show zc6 (H5 a)=none;rw[h3];rfl
def zn2{β:Addr}{Ha Ga H3 G3 H5 G5 H6:Hp}(gha:Same Ga Ha)(bxa:BoxD β Ha Ga)(t3:Stp β Ha Ga H3 G3)(t5:Stp β H3 G3 H5 G5)(fz:∀a,zii Ha H3 H5 a≠none->H6 a=H5 a):Stp β Ha Ga H6 (keepG Ga G5 H3):=by
 have t:=t3.trans t5;have at0:∀a o,Ha a=some o->H6 a=H5 a:=λa o e=>fz a (by unfold zii;rw[e];simp);have eβ:H6 β=H5 β:=by
  cases e:Ha β with
  |none=>exact absurd e t.b0
  |some o=>exact at0 β o e
 have gβ:Ga β=none:=by
  cases e:Ga β with
  |none=>rfl
  |some o=>have:=t.gg β o e;rw[t.bx.still]at this;cases this
 have gg:Same Ga (keepG Ga G5 H3):=λa o e=>by unfold keepG;rw[e]
 refine⟨gg,λa o e=>?_,λa o n e=>?_,λa e=>?_,⟨?_,?_⟩,t.b0,λcc p r d e=>?_⟩
 .have e5:H5 a=some o:=t5.gh a o (zhY t.gg e);rw[<-e5];refine fz a ?_;unfold keepG at e;unfold zii;cases ha:Ha a with
  |some u=>simp
  |none=>
   have ga:Ga a=none:=zar gha ha;rw[ga]at e;cases h3:H3 a with
   |none=>show H5 a≠none;rw[e5];simp
   |some u=>
    rw[h3]at e;have e:zc6 (G5 a)=some o:=e;obtain⟨_,so⟩:=zfO e;show zc6 (H5 a)≠none;rw[e5];cases o with
    |tup xs=>simp[zc6]
    |frz o u=>simp[zc6]
    |_=>exact so.elim
 .rw[at0 a o e];exact t.fr a o n e
 .cases k:keepG Ga G5 H3 a with
  |none=>exact absurd k e
  |some o=>
   cases ga:Ga a with
   |some u=>exact .inl (by simp)
   |none=>
    rcases t.nw a (by rw[zhY t.gg k];simp)with z|z|z
    .exact absurd ga z
    .exact .inr (.inl z)
    .exact .inr (.inr z)
 .obtain⟨cc,p,r,d,ns,e,p0,r0,d0,d1,gc,few⟩:=t.bx.ex;obtain⟨cc0,p',r',d',ns0,e0,_,_,_,_,gc0,few0⟩:=bxa.ex;obtain⟨p2,r2,d2,e2⟩:=t.bc cc0 p' r' d' e0;rw[e]at e2;cases e2;exact⟨_,p,r,d,ns0,by rw[eβ];exact e,p0,r0,d0,d1,gg _ _ gc0,few0⟩
 .unfold keepG;rw[gβ];cases h3:H3 β with
  |none=>exact absurd h3 t5.b0
  |some u=>show zc6 (G5 β)=none;rw[t5.bx.still];rfl
 .rw[eβ];exact t.bc cc p r d e
end Fd
namespace L2
open PySem PySem.Spec PyProof.Rows PySem.W
def zdz:Bool->Keyed->Array Keyed->Nat->Nat->Nat->StateT SortSt Sem (Option Nat):=sortPriv% PySem.Builtin.gallop
section
variable{qf:Model}{A:Around}{E:Value->Shared->Prop}{s:Shared}{κ:SortKind}{U:Keyed->Prop}
def CmpS(qf:Model)(A:Around)(E:Value->Shared->Prop)(s:Shared)(κ:SortKind)(U:Keyed->Prop):Prop:=
 ∀(x y:Keyed)(st:SortSt)(Q:Option Bool->SortSt->Prop),U x->U y->kindOf st=κ->(∀b,Q (some b) st)->wpS qf A E s (lt' x y) Q st
def zaH{arr:Array Keyed}{i:Nat}{p:Keyed}{st:SortSt}{Q:Keyed->SortSt->Prop}(h:arr[i]?=some p)(q:Q p st):wpS qf A E s (elem' arr i) Q st:=by
 rw[elem'_eq,h];exact YAG q
def zqs(hc:CmpS qf A E s κ U){left:Bool}{k p:Keyed}{arr:Array Keyed}{i:Nat}{st:SortSt}{Q:Option Bool->SortSt->Prop}(hk:kindOf st=κ)(uk:U k)(up:U p)(h:arr[i]?=some p)(q:∀b,Q (some b) st) :
  wpS qf A E s (elem' arr i >>=λx=>if left=true then lt' x k else lt' k x >>=λr=>pure (r.map (!·))) Q st:=by
 refine YAw (zaH h ?_);cases left with
 |true=>exact hc _ _ _ _ up uk hk q
 |false=>exact YAw (hc _ _ _ _ uk up hk λb=>YAG (q _))
def zdk(hc:CmpS qf A E s κ U){left:Bool}{k:Keyed}{arr:Array Keyed}{base n hint:Nat}{st:SortSt}{Q:Option Nat->SortSt->Prop}(hk:kindOf st=κ)(uk:U k)(hh:hint<n)
  (hb:∀i,i<n->∃p,arr[base+i]?=some p/\U p) (q:∀c,c<=n->Q (some c) st):wpS qf A E s (zdz left k arr base n hint) Q st:=by
 have ask:∀{i:Nat}{Q:Option Bool->SortSt->Prop},i<n->(∀b,Q (some b) st)->wpS qf A E s (elem' arr (base+i) >>=λx=>if left=true then lt' x k else lt' k x >>=λr=>pure (r.map (!·))) Q st:=λ{i Q} hi hq=>by
  obtain⟨p,h1,h2⟩:=hb i hi;exact zqs hc hk uk h2 h1 hq
 refine YAw (ask hh λb=>?_);have fin:∀{lo hi:Nat}{Q':(Option (Option Nat)×Nat×Nat)->SortSt->Prop},lo<=hi->hi<=n->(∀hi',hi'<=n->∀lo',Q' (none,lo',hi') st) ->
   ∀{f:Nat->(Option (Option Nat)×Nat×Nat)->StateT SortSt Sem (ForInStep (Option (Option Nat)×Nat×Nat))},(∀t lo hi R,hi<=n->(if lo ≥ hi then R (ForInStep.done (none,lo,hi)) st else R (ForInStep.yield (none,lo+(hi-lo) / 2+1,hi)) st/\R (ForInStep.yield (none,lo,lo+(hi-lo) / 2)) st)->wpS qf A E s (f t (none,lo,hi)) R st)->wpS qf A E s (forIn [:n] (none,lo,hi) f) Q' st:=λ{lo hi Q'} h1 h2 q' {f} hf=>by
  refine YBX (λt c st'=>st'=st/\∃lo hi:Nat,c=(none,lo,hi)/\hi<=n) ?_ ?_ ⟨rfl,lo,hi,rfl,h2⟩
  .rintro t c st' _ ht ⟨rfl,lo,hi,rfl,g2⟩;refine hf t lo hi _ g2 ?_;by_cases z:lo ≥ hi
   .rw[if_pos z];exact q' hi g2 lo
   .rw[if_neg z];exact⟨⟨rfl,_,hi,rfl,g2⟩,rfl,lo,_,rfl,by omega⟩
  .rintro c st' ⟨rfl,lo,hi,rfl,g2⟩;exact q' hi g2 lo
 cases b with
 |true=>
  refine YAw (YDM (YBX (β:=Option (Option Nat)×Nat×Nat) (λt c st'=>st'=st/\∃la of:Nat,c=(none,la,of)/\la<of/\la<n-hint) (Q:=λc st'=>st'=st/\∃la of:Nat,c=(none,la,of)/\la<of/\la<n-hint) ?_ ?_ ⟨rfl,0,1,rfl,by omega,by omega⟩) ?_)
  .rintro t c st' _ ht ⟨rfl,la,of,rfl,h2,h3⟩;dsimp only;by_cases z:of ≥ n-hint
   .rw[if_pos z];exact YAG ⟨rfl,la,of,rfl,h2,h3⟩
   .rw[if_neg z];refine YAw (ask (i:=hint+of) (by omega) λb=>?_);cases b with
    |true=>exact YAG ⟨rfl,of,2*of+1,rfl,by omega,by omega⟩
    |false=>exact YAG ⟨rfl,la,of,rfl,h2,h3⟩
  .rintro c st' ⟨rfl,la,of,rfl,h2,h3⟩;exact⟨rfl,la,of,rfl,h2,h3⟩
  .rintro c st' ⟨rfl,la,of,rfl,h2,h3⟩;dsimp only;refine YAw (fin (lo:=hint+la+1) (hi:=hint+min of (n-hint)) (by omega) (by omega) (λhi' r1 lo'=>YAG (q hi' r1)) λt lo hi R hn r=>?_);dsimp only;by_cases z:lo ≥ hi
   .rw[if_pos z]at r ⊢;exact YAG r
   .rw[if_neg z]at r ⊢;refine YAw (ask (by omega) λb=>?_);cases b with
    |true=>exact YAG r.1
    |false=>exact YAG r.2
 |false=>
  refine YAw (YDM (YBX (β:=Option (Option Nat)×Nat×Nat) (λt c st'=>st'=st/\∃la of:Nat,c=(none,la,of)/\la<of/\la<=hint) (Q:=λc st'=>st'=st/\∃la of:Nat,c=(none,la,of)/\la<of/\la<=hint) ?_ ?_ ⟨rfl,0,1,rfl,by omega,by omega⟩) ?_)
  .rintro t c st' _ ht ⟨rfl,la,of,rfl,h2,h3⟩;dsimp only;by_cases z:of ≥ hint+1
   .rw[if_pos z];exact YAG ⟨rfl,la,of,rfl,h2,h3⟩
   .rw[if_neg z];refine YAw (ask (i:=hint-of) (by omega) λb=>?_);cases b with
    |false=>exact YAG ⟨rfl,of,2*of+1,rfl,by omega,by omega⟩
    |true=>exact YAG ⟨rfl,la,of,rfl,h2,h3⟩
  .rintro c st' ⟨rfl,la,of,rfl,h2,h3⟩;exact⟨rfl,la,of,rfl,h2,h3⟩
  .rintro c st' ⟨rfl,la,of,rfl,h2,h3⟩;dsimp only;refine YAw (fin (lo:=hint+1-min of (hint+1)) (hi:=hint-la) (by omega) (by omega) (λhi' r1 lo'=>YAG (q hi' r1)) λt lo hi R hn r=>?_);dsimp only;by_cases z:lo ≥ hi
   .rw[if_pos z]at r ⊢;exact YAG r
   .rw[if_neg z]at r ⊢;refine YAw (ask (by omega) λb=>?_);cases b with
    |true=>exact YAG r.1
    |false=>exact YAG r.2
end
section
variable{α:Type}{a b:List α}
structure Mg(a b out:List α)(ia ib:Nat):Prop where
 la:ia<=a.length
 lb:ib<=b.length
 perm:out.Perm (a.take ia++b.take ib)
def zkb(l:List α)(i k:Nat):l.take (i+k)=l.take i++(l.drop i).take k:=List.take_add
def Mg.addA{out:List α}{ia ib:Nat}(h:Mg a b out ia ib)(k:Nat)(hk:ia+k<=a.length):Mg a b (out++(a.drop ia).take k) (ia+k) ib:=by
 refine⟨hk,h.lb,?_⟩;rw[zkb];refine(h.perm.append_right _).trans ?_;rw[YAB,YAB];exact YCv.append_left _
def Mg.addB{out:List α}{ia ib:Nat}(h:Mg a b out ia ib)(k:Nat)(hk:ib+k<=b.length):Mg a b (out++(b.drop ib).take k) ia (ib+k):=by
 refine⟨h.la,hk,?_⟩;rw[zkb,<-YAB];exact h.perm.append_right _
abbrev zcS(a b out:List α):Prop:=out.Perm (a++b)
def Mg.all{out:List α}{ia ib:Nat}(h:Mg a b out ia ib):zcS a b (out++a.drop ia++b.drop ib):=by
 have h1:=(h.addA (a.length-ia) (by have:=h.la;omega)).addB (b.length-ib) (by have:=h.lb;omega);have e1:(a.drop ia).take (a.length-ia)=a.drop ia:=YAT (by rw[YBf];exact YAj _);have e2:(b.drop ib).take (b.length-ib)=b.drop ib:=YAT (by rw[YBf];exact YAj _);rw[e1,e2]at h1;have p:=h1.perm;rw[YAT (by have:=h.la;omega),YAT (l:=b) (by have:=h.lb;omega)]at p;exact p
def Mg.lastA{out:List α}{ia ib:Nat}(h:Mg a b out ia ib):zcS a b (out++b.drop ib++a.drop ia):=by
 refine List.Perm.trans ?_ h.all;rw[YAB,YAB];exact YCv.append_left _
end
def zjV:Array Keyed->Array Keyed->StateT SortSt Sem (Array Keyed):=sortPriv% PySem.Builtin.mergeLo
def ziz:Nat->StateT SortSt Sem Unit:=sortPriv% PySem.Builtin.setMinGallop
structure SmG(st st':SortSt):Prop where
 kind:kindOf st'=kindOf st
 arr:arrOf st'=arrOf st
 pend:pendingOf st'=pendingOf st
 fail:failedOf st'=failedOf st
def SmG.refl(st:SortSt):SmG st st:=⟨rfl,rfl,rfl,rfl⟩
section
variable{qf:Model}{A:Around}{E:Value->Shared->Prop}{s:Shared}{κ:SortKind}{U:Keyed->Prop}
def zea{g:Nat}{st0 st:SortSt}{Q:Unit->SortSt->Prop}(h:SmG st0 st)(q:∀st',SmG st0 st'->Q () st'):wpS qf A E s (ziz g) Q st:=
 YCP (q _ ⟨h.kind,h.arr,h.pend,h.fail⟩)
def zau{α:Type}{c:Prop}[Decidable c]{x y:StateT SortSt Sem α}{Q:α->SortSt->Prop}{st:SortSt}(h1:c->wpS qf A E s x Q st)(h2:¬ c->wpS qf A E s y Q st):wpS qf A E s (if c then x else y) Q st:=by
 by_cases h:c
 .rw[if_pos h];exact h1 h
 .rw[if_neg h];exact h2 h
structure MR{δ:Type}(N:Nat->δ->SortSt->Prop)(Z:Array Keyed->SortSt->Prop)(d:Prop)(m:Nat)(R:ForInStep (Option (Array Keyed)×δ)->SortSt->Prop):Prop where
 dn:∀{st x c},Z x st->R (.done (some x,c)) st
 go:∀{st c},N (m+1) c st->(d->R (.done (none,c)) st)/\R (.yield (none,c)) st
def zgS{δ:Type}{N:Nat->δ->SortSt->Prop}{Z:Array Keyed->SortSt->Prop}{d:Prop}{f:Nat->(Option (Array Keyed)×δ)->StateT SortSt Sem (ForInStep (Option (Array Keyed)×δ))}{T n:Nat}{c:δ}{st:SortSt}{Q:(Option (Array Keyed)×δ)->SortSt->Prop}(no:∀{m c st},N m c st->m<T)
  (hf:∀{u c st R},MR N Z d (n+u) R->N (n+u) c st->wpS qf A E s (f u (none,c)) R st) (h:N n c st) (q1:∀{x c st},Z x st->Q (some x,c) st) (q2:∀{k c st},d->N (n+k+1) c st->Q (none,c) st):wpS qf A E s (forIn [0:T] (none,c) f) Q st:=by
 refine YBX (λt c st=>c.1=none/\N (n+t) c.2 st) ?_ ?_ ⟨rfl,h⟩
 .rintro t ⟨r,c⟩ st _ _ ⟨rfl,h⟩;exact hf ⟨q1,λh=>⟨λd=>q2 d h,rfl,h⟩⟩ h
 .rintro c st ⟨_,h⟩
  have:=no h
  omega
def zkk{α:Type}{c:Prop}[Decidable c]{k:Nat->StateT SortSt Sem α}{i j:Nat}{Q:α->SortSt->Prop}{st:SortSt}(h:∀i,wpS qf A E s (k i) Q st):wpS qf A E s (if c then k i else k j) Q st:=zau (λ_=>h i) λ_=>h j
def zgc{i n:Nat}(h:¬ (i==n)=true)(k:i<=n):i<n:=by
 have:i≠n:=by simpa using h
 omega
def zo6{l:List Keyed}{a:Array Keyed}(e:l=a.toList){i:Nat}(h:i<a.size):(l.drop i).take 1=[a[i]]:=by
 subst e;rw[YAL (by simpa using h),YB2,List.take_zero]
 simp
def zbG(a:Array Keyed)(i j:Nat):(a.extract i j).toList=(a.toList.drop i).take (j-i):=by simp
structure MPre(U:Keyed->Prop)(a b:Array Keyed):Prop where
 ua:∀x∈a.toList,U x
 ub:∀x∈b.toList,U x
 na:0<a.size
 nb:0<b.size
def zcT{a:Array Keyed}{i:Nat}(h:i<a.size):a[i]∈a.toList:=by simp
def zaK{a:Array Keyed}{i:Nat}(h:i<a.size):a[i]?=some a[i]:=by simp[h]
section
variable{a b:Array Keyed}{out:Array Keyed}{ia ib:Nat}
def mg_b(h:Mg a.toList b.toList out.toList ia ib)(hj:ib<b.size):Mg a.toList b.toList (out.push b[ib]).toList ia (ib+1):=by
 have:=h.addB 1 (by rw[YBc];exact hj)
 rw[zo6 rfl hj]at this;rw[YBY];exact this
def mg_a(h:Mg a.toList b.toList out.toList ia ib)(hi:ia<a.size):Mg a.toList b.toList (out.push a[ia]).toList (ia+1) ib:=by
 have:=h.addA 1 (by rw[YBc];exact hi)
 rw[zo6 rfl hi]at this;rw[YBY];exact this
def zr9(h:Mg a.toList b.toList out.toList ia ib)(k:Nat)(hk:ia+k<=a.size):Mg a.toList b.toList (out++a.extract ia (ia+k)).toList (ia+k) ib:=by
 rw[YB4,zbG,show ia+k-ia=k by omega];exact h.addA k (by simpa using hk)
def zqZ(h:Mg a.toList b.toList out.toList ia ib)(k:Nat)(hk:ib+k<=b.size):Mg a.toList b.toList (out++b.extract ib (ib+k)).toList ia (ib+k):=by
 rw[YB4,zbG,show ib+k-ib=k by omega];exact h.addB k (by simpa using hk)
def zfS(h:Mg a.toList b.toList out.toList ia ib):zcS a.toList b.toList (out++a.extract ia a.size++b.extract ib b.size).toList:=by
 rw[YB4,YB4,zbG,zbG,YAT (by simp),YAT (by simp)];exact h.all
def zhd(h:Mg a.toList b.toList out.toList ia ib):zcS a.toList b.toList (out++b.extract ib b.size++a.extract ia a.size).toList:=by
 rw[YB4,YB4,zbG,zbG,YAT (by simp),YAT (by simp)];exact h.lastA
def zqu(hc:CmpS qf A E s κ U)(ua:∀x∈a.toList,U x){left:Bool}{x:Keyed}(ux:U x){st:SortSt}{Q:Option Nat->SortSt->Prop}(hk:kindOf st=κ)(hi:ia<a.size)
  (q:∀k,ia+k<=a.size->Q (some k) st):wpS qf A E s (zdz left x a ia (a.size-ia) 0) Q st:=
 zdk hc hk ux (by omega) (λi h=>⟨a[ia+i]'(by omega),zaK (by omega),ua _ (zcT _)⟩) λc h=>q c (by omega)
structure LoN(st0:SortSt)(a b:Array Keyed)(m:Nat)(out:Array Keyed)(ia ib:Nat)(st:SortSt):Prop where
 sm:SmG st0 st
 g:Mg a.toList b.toList out.toList ia ib
 i:ia+1<a.size
 j:ib<b.size
 h:m<=ia+ib
abbrev LoZ(st0:SortSt)(a b x:Array Keyed)(st:SortSt):Prop:=SmG st0 st/\zcS a.toList b.toList x.toList
def loD(a b out:Array Keyed)(ia ib:Nat):Array Keyed:=out++a.extract ia a.size++b.extract ib b.size
def loL(a b out:Array Keyed)(ia ib:Nat):Array Keyed:=out++b.extract ib b.size++a.extract ia a.size
abbrev SM:=StateT SortSt Sem
abbrev LoS(γ:Type):=ForInStep (Option (Array Keyed)×Array Keyed×Nat×Nat×γ)
def lo4{γ:Type}(p:Prop)[Decidable p](out:Array Keyed)(ia ib:Nat)(c:γ):SM (LoS γ):=if p then pure (.done (none,out,ia,ib,c))else pure (.yield (none,out,ia,ib,c))
def lo3(a b out:Array Keyed)(ia ib mg ac bc:Nat):SM (LoS (Nat×Nat×Nat)):=do
 let x <-elem' a ia
 if ia+1+1==a.size then pure (.done (some (loL a b (out.push x) (ia+1) ib),out.push x,ia+1,ib,mg,ac,bc))
 else lo4 (ac<7&&bc<7) (out.push x) (ia+1) ib (mg,ac,bc)
noncomputable def lo2(a b out:Array Keyed)(ia ib mg ac bc:Nat):SM (LoS (Nat×Nat×Nat)):=do
 let o:=out.push (<-elem' b ib)
 let ib:=ib+1
 if ib==b.size then pure (.done (some (loD a b o ia ib),o,ia,ib,mg,ac,bc))else do
  match <-zdz true (<-elem' a ia) b ib (b.size-ib) 0 with
  |some k=>
   if k>0 then
    let o:=o++b.extract ib (ib+k)
    if ib+k==b.size then pure (.done (some (loD a b o ia (ib+k)),o,ia,ib+k,mg,ac,k))
    else lo3 a b o ia (ib+k) mg ac k
   else lo3 a b o ia ib mg ac k
  |_=>pure (.done (some (loD a b o ia ib),o,ia,ib,mg,ac,bc))
noncomputable def lo1(a b out:Array Keyed)(ia ib mg ac bc:Nat):SM (LoS (Nat×Nat×Nat)):=do
 ziz mg
 match <-zdz false (<-elem' b ib) a ia (a.size-ia) 0 with
 |some k=>
  if k>0 then
   let o:=out++a.extract ia (ia+k)
   if ia+k+1==a.size then pure (.done (some (loL a b o (ia+k) ib),o,ia+k,ib,mg,k,bc))
   else if ia+k==a.size then pure (.done (some (loD a b o (ia+k) ib),o,ia+k,ib,mg,k,bc))
   else lo2 a b o (ia+k) ib mg k bc
  else lo2 a b out ia ib mg k bc
 |_=>pure (.done (some (loD a b out ia ib),out,ia,ib,mg,ac,bc))
noncomputable def loA(a b:Array Keyed)(mg:Nat)(out:Array Keyed)(ia ib ac bc:Nat):SM (LoS (Nat×Nat)):=do
 match <-lt' (<-elem' b ib) (<-elem' a ia)with
 |some w=>
  if w then do
   let o:=out.push (<-elem' b ib)
   if ib+1==b.size then pure (.done (some (loD a b o ia (ib+1)),o,ia,ib+1,0,bc+1))
   else lo4 (bc+1 ≥ mg) o ia (ib+1) (0,bc+1)
  else do
   let o:=out.push (<-elem' a ia)
   if ia+1+1==a.size then pure (.done (some (loL a b o (ia+1) ib),o,ia+1,ib,ac+1,0))
   else lo4 (ac+1 ≥ mg) o (ia+1) ib (ac+1,0)
 |_=>pure (.done (some (loD a b out ia ib),out,ia,ib,ac,bc))
noncomputable def loC(a b:Array Keyed)(mg:Nat)(r:Option (Array Keyed))(out:Array Keyed)(ia ib ac bc:Nat):SM (LoS Nat):=
 match r with
 |some r=>pure (.done (some r,out,ia,ib,mg))
 |none=>do
  rule "list.sort.gallop"
  let(r,out,ia,ib,mg,_) <-forIn [0:a.size+b.size] (none,out,ia,ib,mg+1,ac,bc) λ_ (_,o,i,j,m,x,y)=>if m>1 then lo1 a b o i j (m-1) x y else lo1 a b o i j m x y
  match r with
  |some r=>pure (.done (some r,out,ia,ib,mg))
  |none=>do
   ziz (mg+1)
   pure (.yield (none,out,ia,ib,mg+1))
def loB(a b out:Array Keyed)(ia ib mg:Nat):SM (LoS Nat):=do
 let(r,out,ia,ib,x,y) <-forIn [0:a.size+b.size] (none,out,ia,ib,0,0) λ_ (_,o,i,j,x,y)=>loA a b mg o i j x y
 loC a b mg r out ia ib x y
noncomputable def loZ(a b:Array Keyed):StateT SortSt Sem (Array Keyed):=do
 rule "list.sort.merge-lo"
 let x <-elem' b 0
 if 1==b.size then pure (loD a b #[x] 0 1)else
  if 0+1==a.size then pure (loL a b #[x] 0 1)else do
   let(r,_) <-forIn [0:a.size+b.size] (none,#[x],0,1,gallopOf (<-get)) λ_ (_,o,i,j,m)=>loB a b o i j m
   match r with
   |some r=>pure r
   |none=>unsupported "internal:list.sort.merge-bound"
def zsl(a b:Array Keyed):zjV a b=loZ a b:=by kernel_rfl
section
variable{st0 st:SortSt}{m mg ac bc:Nat}(hc:CmpS qf A E s κ U)(P:MPre U a b)(hk:kindOf st0=κ)
abbrev LoC{γ:Type}(st0:SortSt)(a b:Array Keyed)(m:Nat)(c:Array Keyed×Nat×Nat×γ)(st:SortSt):Prop:=LoN st0 a b m c.1 c.2.1 c.2.2.1 st
def LoN.no(h:LoN st0 a b m out ia ib st):m<a.size+b.size:=by have:=h.h;have:=h.i;have:=h.j;omega
def LoN.to{k:Nat}{st':SortSt}(h:LoN st0 a b k out ia ib st)(sm:SmG st0 st')(l:m<=k):LoN st0 a b m out ia ib st':=⟨sm,h.g,h.i,h.j,YAU l h.h⟩
def zlH{γ:Type}{p:Prop}[Decidable p]{c:γ}{R:LoS γ->SortSt->Prop}(r:MR (LoC st0 a b) (LoZ st0 a b) True m R)(h:LoN st0 a b (m+1) out ia ib st):wpS qf A E s (lo4 p out ia ib c) R st:=
 have q:=r.go (c:=(out,ia,ib,c)) h
 zau (λ_=>YAG (q.1 trivial)) λ_=>YAG q.2
def zoT{R}(r:MR (LoC st0 a b) (LoZ st0 a b) True m R)(h:LoN st0 a b m out ia ib st):wpS qf A E s (lo3 a b out ia ib mg ac bc) R st:=by
 have i:=YBZ h.i;have G:=mg_a h.g i;exact YAw (zaH (zaK i) (zau (λ_=>YAG (r.dn ⟨h.sm,zhd G⟩)) λy=>zlH r ⟨h.sm,G,zgc y h.i,h.j,by have:=h.h;omega⟩))
include hc P hk
def zoP{R}(r:MR (LoC st0 a b) (LoZ st0 a b) True m R)(h:LoN st0 a b m out ia ib st):wpS qf A E s (lo2 a b out ia ib mg ac bc) R st:=by
 have i:=YBZ h.i;have G:=mg_b h.g h.j;refine YAw (zaH (zaK h.j) (zau (λ_=>YAG (r.dn ⟨h.sm,zfS G⟩)) λy=>?_));have w:=zgc y h.j;refine YAw (zaH (zaK i) (YAw (zqu hc P.ub (P.ua _ (zcT i)) (h.sm.kind.trans hk) w λk k4=>?_)));exact zau (λ_=>zau (λ_=>YAG (r.dn ⟨h.sm,zfS (zqZ G k k4)⟩)) λx=>zoT r ⟨h.sm,zqZ G k k4,h.i,zgc x k4,by have:=h.h;omega⟩) λ_=>zoT r ⟨h.sm,G,h.i,w,by have:=h.h;omega⟩
def zqO{R}(r:MR (LoC st0 a b) (LoZ st0 a b) True m R)(h:LoN st0 a b m out ia ib st):wpS qf A E s (lo1 a b out ia ib mg ac bc) R st:=by
 refine YAw (zea h.sm λst sm=>YAw (zaH (zaK h.j) (YAw (zqu hc P.ua (P.ub _ (zcT h.j)) (sm.kind.trans hk) (YBZ h.i) λk k1=>?_))));have G:=zr9 h.g k k1;exact zau (λ_=>zau (λ_=>YAG (r.dn ⟨sm,zhd G⟩)) λx=>zau (λ_=>YAG (r.dn ⟨sm,zfS G⟩)) λy=>zoP hc P hk r ⟨sm,G,zgc x (zgc y k1),h.j,by have:=h.h;omega⟩) λ_=>zoP hc P hk r (h.to sm (YAj _))
def zrC{R}(r:MR (LoC st0 a b) (LoZ st0 a b) True m R)(h:LoN st0 a b m out ia ib st):wpS qf A E s (loA a b mg out ia ib ac bc) R st:=by
 have i:=YBZ h.i;have A:=mg_a h.g i;have B:=mg_b h.g h.j;refine YAw (zaH (zaK h.j) (YAw (zaH (zaK i) (YAw (hc _ _ _ _ (P.ub _ (zcT h.j)) (P.ua _ (zcT i)) (h.sm.kind.trans hk) λw=>?_)))));exact zau (λ_=>YAw (zaH (zaK h.j) (zau (λ_=>YAG (r.dn ⟨h.sm,zfS B⟩)) λy=>zlH r ⟨h.sm,B,h.i,zgc y h.j,by have:=h.h;omega⟩))) λ_=>YAw (zaH (zaK i) (zau (λ_=>YAG (r.dn ⟨h.sm,zhd A⟩)) λy=>zlH r ⟨h.sm,A,zgc y h.i,h.j,by have:=h.h;omega⟩))
def zqk{R}(r:MR (LoC st0 a b) (LoZ st0 a b) False m R)(h:LoN st0 a b m out ia ib st):wpS qf A E s (loB a b out ia ib mg) R st:=by
 refine YAw (zgS (N:=LoC st0 a b) (Z:=LoZ st0 a b) (d:=True) (n:=m) LoN.no (λr h=>zrC hc P hk r h) h (λh=>YAG (r.dn h)) λ_ h=>?_);refine YAw (YD9 (YBr ⟨rfl,YAw (zgS (N:=LoC st0 a b) (Z:=LoZ st0 a b) (d:=True) LoN.no (λr h=>zkk (k:=λmg=>lo1 a b _ _ _ mg _ _) λmg=>zqO hc P hk r h) h (λh=>YAG (r.dn h)) λ_ h=>?_)⟩));exact YAw (zea h.sm λst sm=>YAG (r.go (h.to sm (by omega))).2)
def zjr{Q:Array Keyed->SortSt->Prop}(q:∀x st',zcS a.toList b.toList x.toList->SmG st0 st'->Q x st'):wpS qf A E s (zjV a b) Q st0:=by
 rw[zsl];have m1:Mg a.toList b.toList (#[b[0]'P.nb]:Array Keyed).toList 0 1:=mg_b (out:=#[]) ⟨YAC _,YAC _,by simp⟩ P.nb;refine YAw (YD9 (YBr ⟨rfl,YAw (zaH (zaK P.nb) (zau (λ_=>YAG (q _ _ (zfS m1) (SmG.refl _))) λz1=>zau (λ_=>YAG (q _ _ (zhd m1) (SmG.refl _))) λz2=>?_))⟩));exact YAw (YDv (YAw (zgS (N:=LoC st0 a b) (Z:=LoZ st0 a b) (d:=False) (n:=0) LoN.no (λr h=>zqk hc P hk r h) ⟨SmG.refl _,m1,zgc z2 P.na,zgc z1 P.nb,YAC _⟩ (λh=>YAG (q _ _ h.2 h.1)) λd=>d.elim)))
end
end
end
def zkH:Array Keyed->Array Keyed->StateT SortSt Sem (Array Keyed):=sortPriv% PySem.Builtin.mergeHi
section
variable{α:Type}{a b:List α}
structure Mh(a b out:List α)(na nb:Nat):Prop where
 la:na<=a.length
 lb:nb<=b.length
 perm:out.Perm (a.drop na++b.drop nb)
def zkA(l:List α){m n:Nat}(h:m<=n):l.drop m=(l.take n).drop m++l.drop n:=by
 have:l.drop m=(l.drop m).take (n-m)++l.drop (m+(n-m)):=by rw[<-YDw,YBb]
 rw[show m+(n-m)=n by omega]at this;rw[this,YDx]
def Mh.addA{out:List α}{na nb m:Nat}(h:Mh a b out na nb)(hm:m<=na):Mh a b ((a.take na).drop m++out) m nb:=by
 refine⟨by have:=h.la;omega,h.lb,?_⟩;rw[zkA a hm,YAB];exact h.perm.append_left _
def Mh.addB{out:List α}{na nb m:Nat}(h:Mh a b out na nb)(hm:m<=nb):Mh a b ((b.take nb).drop m++out) na m:=by
 refine⟨h.la,by have:=h.lb;omega,?_⟩;rw[zkA b hm];refine(h.perm.append_left _).trans ?_;rw[<-YAB,<-YAB];exact YCv.append_right _
def Mh.all{out:List α}{na nb:Nat}(h:Mh a b out na nb):zcS a b (a.take na++(b.take nb++out)):=by
 have:=((h.addB (YAC _)).addA (YAC _)).perm
 rw[YCQ,YCQ]at this;exact this
end
section
variable{qf:Model}{A:Around}{E:Value->Shared->Prop}{s:Shared}{κ:SortKind}{U:Keyed->Prop}{a b:Array Keyed}{out:Array Keyed}{na nb:Nat}
abbrev MhA(a b out:Array Keyed)(na nb:Nat):Prop:=Mh a.toList b.toList out.toList.reverse na nb
def zno{a:Array Keyed}{i:Nat}(h:i<a.size):(a.toList.take (i+1)).drop i=[a[i]]:=by
 rw[YDx,show i+1-i=1 by omega];exact zo6 rfl h
def mh_a(h:MhA a b out (na+1) nb)(hi:na<a.size):MhA a b (out.push a[na]) na nb:=by
 have:=h.addA (m:=na) (by omega)
 rw[zno hi]at this;show Mh _ _ (out.push a[na]).toList.reverse _ _;rw[YBY,YDh];exact this
def mh_b(h:MhA a b out na (nb+1))(hj:nb<b.size):MhA a b (out.push b[nb]) na nb:=by
 have:=h.addB (m:=nb) (by omega)
 rw[zno hj]at this;show Mh _ _ (out.push b[nb]).toList.reverse _ _;rw[YBY,YDh];exact this
def zlv(out x:Array Keyed):(out++x.reverse).toList.reverse=x.toList++out.toList.reverse:=by simp
def zr5(h:MhA a b out na nb){m:Nat}(hm:m<=na):MhA a b (out++(a.extract m na).reverse) m nb:=by
 show Mh _ _ (out++(a.extract m na).reverse).toList.reverse _ _;rw[zlv,zbG,<-YDx];exact h.addA hm
def zsq(h:MhA a b out na nb){m:Nat}(hm:m<=nb):MhA a b (out++(b.extract m nb).reverse) na m:=by
 show Mh _ _ (out++(b.extract m nb).reverse).toList.reverse _ _;rw[zlv,zbG,<-YDx];exact h.addB hm
def zlD(a b out:Array Keyed)(na nb:Nat):(a.extract 0 na++b.extract 0 nb++out.reverse).toList=a.toList.take na++(b.toList.take nb++out.toList.reverse):=by simp
def zfZ(h:MhA a b out na nb):zcS a.toList b.toList (a.extract 0 na++b.extract 0 nb++out.reverse).toList:=by
 rw[zlD];exact h.all
def ze8(h:MhA a b out na nb):zcS a.toList b.toList (b.extract 0 nb++a.extract 0 na++out.reverse).toList:=by
 rw[zlD];refine List.Perm.trans ?_ h.all;rw[<-YAB,<-YAB];exact YCv.append_right _
def gah(hc:CmpS qf A E s κ U)(ua:∀x∈a.toList,U x){left:Bool}{x:Keyed}(ux:U x){st:SortSt}{Q:Option Nat->SortSt->Prop}(hk:kindOf st=κ)(ha:na<=a.size)(h0:0<na)
  (q:∀k,k<=na->Q (some k) st):wpS qf A E s (zdz left x a 0 na (na-1)) Q st:=
 zdk hc hk ux (by omega) (λi h=>⟨a[i]'(by omega),by rw[Nat.zero_add];exact zaK (by omega),ua _ (zcT _)⟩) q
end
section
variable{qf:Model}{A:Around}{E:Value->Shared->Prop}{s:Shared}{κ:SortKind}{U:Keyed->Prop}{a b:Array Keyed}
def zqm{out:Array Keyed}{na nb:Nat}(h:MhA a b out na nb)(h0:0<na)(hi:na-1<a.size):MhA a b (out.push a[na-1]) (na-1) nb:=
 mh_a (by rw[show na-1+1=na by omega];exact h) hi
def zrV{out:Array Keyed}{na nb:Nat}(h:MhA a b out na nb)(h0:0<nb)(hj:nb-1<b.size):MhA a b (out.push b[nb-1]) na (nb-1):=
 mh_b (by rw[show nb-1+1=nb by omega];exact h) hj
def zhg{i n:Nat}(h:¬ (i==n)=true)(k:n<=i):n<i:=by
 have:i≠n:=by simpa using h
 omega
structure HiN(st0:SortSt)(a b:Array Keyed)(m:Nat)(out:Array Keyed)(na nb:Nat)(st:SortSt):Prop where
 sm:SmG st0 st
 g:MhA a b out na nb
 i0:0<na
 i:na<=a.size
 j0:1<nb
 j:nb<=b.size
 h:m+na+nb<=a.size+b.size
def hiD(a b out:Array Keyed)(na nb:Nat):Array Keyed:=a.extract 0 na++b.extract 0 nb++out.reverse
def hiF(a b out:Array Keyed)(na nb:Nat):Array Keyed:=b.extract 0 nb++a.extract 0 na++out.reverse
abbrev HiS(γ:Type):=ForInStep (Option (Array Keyed)×Nat×Nat×Array Keyed×γ)
def hi4{γ:Type}(p:Prop)[Decidable p](out:Array Keyed)(na nb:Nat)(c:γ):SM (HiS γ):=if p then pure (.done (none,na,nb,out,c))else pure (.yield (none,na,nb,out,c))
def hi3(a b out:Array Keyed)(na nb mg ac bc:Nat):SM (HiS (Nat×Nat×Nat)):=do
 let o:=out.push (<-elem' a (na-1))
 if na-1==0 then pure (.done (some (hiD a b o (na-1) nb),na-1,nb,o,mg,ac,bc))
 else hi4 (ac<7&&bc<7) o (na-1) nb (mg,ac,bc)
noncomputable def hi2(a b out:Array Keyed)(na nb mg ac bc:Nat):SM (HiS (Nat×Nat×Nat)):=do
 let nb:=nb-1
 let o:=out.push (<-elem' b nb)
 if nb==1 then pure (.done (some (hiF a b o na nb),na,nb,o,mg,ac,bc))else do
  match <-zdz true (<-elem' a (na-1)) b 0 nb (nb-1)with
  |some k=>
   if nb-k>0 then
    let p:=o++(b.extract k nb).reverse
    if k==1 then pure (.done (some (hiF a b p na k),na,k,p,mg,ac,nb-k))
    else if k==0 then pure (.done (some (hiD a b p na k),na,k,p,mg,ac,nb-k))
    else hi3 a b p na k mg ac (nb-k)
   else hi3 a b o na nb mg ac (nb-k)
  |_=>pure (.done (some (hiD a b o na nb),na,nb,o,mg,ac,bc))
noncomputable def hi1(a b out:Array Keyed)(na nb mg ac bc:Nat):SM (HiS (Nat×Nat×Nat)):=do
 ziz mg
 match <-zdz false (<-elem' b (nb-1)) a 0 na (na-1)with
 |some k=>
  if na-k>0 then
   let o:=out++(a.extract k na).reverse
   if k==0 then pure (.done (some (hiD a b o k nb),k,nb,o,mg,na-k,bc))
   else hi2 a b o k nb mg (na-k) bc
  else hi2 a b out na nb mg (na-k) bc
 |_=>pure (.done (some (hiD a b out na nb),na,nb,out,mg,ac,bc))
noncomputable def hiA(a b:Array Keyed)(mg:Nat)(out:Array Keyed)(na nb ac bc:Nat):SM (HiS (Nat×Nat)):=do
 match <-lt' (<-elem' b (nb-1)) (<-elem' a (na-1))with
 |some w=>
  if w then do
   let o:=out.push (<-elem' a (na-1))
   if na-1==0 then pure (.done (some (hiD a b o (na-1) nb),na-1,nb,o,ac+1,0))
   else hi4 (ac+1 ≥ mg) o (na-1) nb (ac+1,0)
  else do
   let o:=out.push (<-elem' b (nb-1))
   if nb-1==1 then pure (.done (some (hiF a b o na (nb-1)),na,nb-1,o,0,bc+1))
   else hi4 (bc+1 ≥ mg) o na (nb-1) (0,bc+1)
 |_=>pure (.done (some (hiD a b out na nb),na,nb,out,ac,bc))
noncomputable def hiC(a b:Array Keyed)(mg:Nat)(r:Option (Array Keyed))(na nb:Nat)(out:Array Keyed)(ac bc:Nat):SM (HiS Nat):=
 match r with
 |some r=>pure (.done (some r,na,nb,out,mg))
 |none=>do
  rule "list.sort.gallop"
  let(r,na,nb,out,mg,_) <-forIn [0:a.size+b.size] (none,na,nb,out,mg+1,ac,bc) λ_ (_,i,j,o,m,x,y)=>if m>1 then hi1 a b o i j (m-1) x y else hi1 a b o i j m x y
  match r with
  |some r=>pure (.done (some r,na,nb,out,mg))
  |none=>do
   ziz (mg+1)
   pure (.yield (none,na,nb,out,mg+1))
def hiB(a b out:Array Keyed)(na nb mg:Nat):SM (HiS Nat):=do
 let(r,na,nb,out,x,y) <-forIn [0:a.size+b.size] (none,na,nb,out,0,0) λ_ (_,i,j,o,x,y)=>hiA a b mg o i j x y
 hiC a b mg r na nb out x y
noncomputable def hiZ(a b:Array Keyed):StateT SortSt Sem (Array Keyed):=do
 rule "list.sort.merge-hi"
 let n:=a.size-1
 let x <-elem' a n
 if n==0 then pure (hiD a b #[x] n b.size)else
  if b.size==1 then pure (hiF a b #[x] n b.size)else do
   let(r,_) <-forIn [0:a.size+b.size] (none,n,b.size,#[x],gallopOf (<-get)) λ_ (_,i,j,o,m)=>hiB a b o i j m
   match r with
   |some r=>pure r
   |none=>unsupported "internal:list.sort.merge-bound"
def zsw(a b:Array Keyed):zkH a b=hiZ a b:=by kernel_rfl
def zm7{n k:Nat}(h0:0<n)(h:n<=k):n-1<k:=by omega
section
variable{st0 st:SortSt}{m mg ac bc na nb:Nat}{out:Array Keyed}(hc:CmpS qf A E s κ U)(P:MPre U a b)(hk:kindOf st0=κ)
abbrev HiC{γ:Type}(st0:SortSt)(a b:Array Keyed)(m:Nat)(c:Nat×Nat×Array Keyed×γ)(st:SortSt):Prop:=HiN st0 a b m c.2.2.1 c.1 c.2.1 st
def HiN.no(h:HiN st0 a b m out na nb st):m<a.size+b.size:=by have:=h.h;have:=h.i0;omega
def HiN.to{k:Nat}{st':SortSt}(h:HiN st0 a b k out na nb st)(sm:SmG st0 st')(l:m<=k):HiN st0 a b m out na nb st':=⟨sm,h.g,h.i0,h.i,h.j0,h.j,by have:=h.h;omega⟩
def HiN.ai(h:HiN st0 a b m out na nb st):na-1<a.size:=zm7 h.i0 h.i
def HiN.bj(h:HiN st0 a b m out na nb st):nb-1<b.size:=zm7 (YBZ h.j0) h.j
def HiN.ga(h:HiN st0 a b m out na nb st):MhA a b (out.push (a[na-1]'h.ai)) (na-1) nb:=zqm h.g h.i0 h.ai
def HiN.gb(h:HiN st0 a b m out na nb st):MhA a b (out.push (b[nb-1]'h.bj)) na (nb-1):=zrV h.g (YBZ h.j0) h.bj
def HiN.nb1(h:HiN st0 a b m out na nb st)(y:¬ (nb-1==1)=true):1<nb-1:=zhg y (Nat.le_sub_one_of_lt h.j0)
def HiN.nextA(h:HiN st0 a b m out na nb st)(y:¬ (na-1==0)=true):HiN st0 a b (m+1) (out.push (a[na-1]'h.ai)) (na-1) nb st:=⟨h.sm,h.ga,zhg y (YAC _),YBP h.ai,h.j0,h.j,by have:=h.h;have:=h.i0;omega⟩
def HiN.nextB(h:HiN st0 a b m out na nb st)(y:¬ (nb-1==1)=true):HiN st0 a b (m+1) (out.push (b[nb-1]'h.bj)) na (nb-1) st:=⟨h.sm,h.gb,h.i0,h.i,h.nb1 y,YBP h.bj,by have:=h.h;have:=h.j0;omega⟩
def zlV{γ:Type}{p:Prop}[Decidable p]{c:γ}{R:HiS γ->SortSt->Prop}(r:MR (HiC st0 a b) (LoZ st0 a b) True m R)(h:HiN st0 a b (m+1) out na nb st):wpS qf A E s (hi4 p out na nb c) R st:=
 have q:=r.go (c:=(na,nb,out,c)) h
 zau (λ_=>YAG (q.1 trivial)) λ_=>YAG q.2
def zoR{R}(r:MR (HiC st0 a b) (LoZ st0 a b) True m R)(h:HiN st0 a b m out na nb st):wpS qf A E s (hi3 a b out na nb mg ac bc) R st:=
 YAw (zaH (zaK h.ai) (zau (λ_=>YAG (r.dn ⟨h.sm,zfZ h.ga⟩)) λy=>zlV r (h.nextA y)))
include hc P hk
def zoG{R}(r:MR (HiC st0 a b) (LoZ st0 a b) True m R)(h:HiN st0 a b m out na nb st):wpS qf A E s (hi2 a b out na nb mg ac bc) R st:=by
 refine YAw (zaH (zaK h.bj) (zau (λ_=>YAG (r.dn ⟨h.sm,ze8 h.gb⟩)) λy=>?_));refine YAw (zaH (zaK h.ai) (YAw (gah hc P.ub (P.ua _ (zcT h.ai)) (h.sm.kind.trans hk) (YBP h.bj) (YBZ (h.nb1 y)) λk k1=>?_)));have G:=zsq h.gb k1;exact zau (λ_=>zau (λ_=>YAG (r.dn ⟨h.sm,ze8 G⟩)) λx=>zau (λ_=>YAG (r.dn ⟨h.sm,zfZ G⟩)) λz=>zoR r ⟨h.sm,G,h.i0,h.i,zhg x (zhg z (YAC _)),YAU k1 (YBP h.bj),by have:=h.h;omega⟩) λ_=>zoR r ((h.nextB y).to h.sm (YDL _))
def zrH{R}(r:MR (HiC st0 a b) (LoZ st0 a b) True m R)(h:HiN st0 a b m out na nb st):wpS qf A E s (hi1 a b out na nb mg ac bc) R st:=by
 refine YAw (zea h.sm λst sm=>YAw (zaH (zaK h.bj) (YAw (gah hc P.ua (P.ub _ (zcT h.bj)) (sm.kind.trans hk) h.i h.i0 λk k1=>?_))));have G:=zr5 h.g k1;exact zau (λ_=>zau (λ_=>YAG (r.dn ⟨sm,zfZ G⟩)) λx=>zoG hc P hk r ⟨sm,G,zhg x (YAC _),YAU k1 h.i,h.j0,h.j,by have:=h.h;omega⟩) λ_=>zoG hc P hk r (h.to sm (YAj _))
def zqC{R}(r:MR (HiC st0 a b) (LoZ st0 a b) True m R)(h:HiN st0 a b m out na nb st):wpS qf A E s (hiA a b mg out na nb ac bc) R st:=by
 refine YAw (zaH (zaK h.bj) (YAw (zaH (zaK h.ai) (YAw (hc _ _ _ _ (P.ub _ (zcT h.bj)) (P.ua _ (zcT h.ai)) (h.sm.kind.trans hk) λw=>?_)))));exact zau (λ_=>YAw (zaH (zaK h.ai) (zau (λ_=>YAG (r.dn ⟨h.sm,zfZ h.ga⟩)) λy=>zlV r (h.nextA y)))) λ_=>YAw (zaH (zaK h.bj) (zau (λ_=>YAG (r.dn ⟨h.sm,ze8 h.gb⟩)) λy=>zlV r (h.nextB y)))
def zqM{R}(r:MR (HiC st0 a b) (LoZ st0 a b) False m R)(h:HiN st0 a b m out na nb st):wpS qf A E s (hiB a b out na nb mg) R st:=by
 refine YAw (zgS (N:=HiC st0 a b) (Z:=LoZ st0 a b) (d:=True) (n:=m) HiN.no (λr h=>zqC hc P hk r h) h (λh=>YAG (r.dn h)) λ_ h=>?_);refine YAw (YD9 (YBr ⟨rfl,YAw (zgS (N:=HiC st0 a b) (Z:=LoZ st0 a b) (d:=True) HiN.no (λr h=>zkk (k:=λmg=>hi1 a b _ _ _ mg _ _) λmg=>zrH hc P hk r h) h (λh=>YAG (r.dn h)) λ_ h=>?_)⟩));exact YAw (zea h.sm λst sm=>YAG (r.go (h.to sm (by omega))).2)
def zjD{Q:Array Keyed->SortSt->Prop}(q:∀x st',zcS a.toList b.toList x.toList->SmG st0 st'->Q x st'):wpS qf A E s (zkH a b) Q st0:=by
 rw[zsw];have pa:=zm7 P.na (YAj _);have m1:MhA a b #[a[a.size-1]] (a.size-1) b.size:=zqm (out:=#[]) ⟨by simp,by simp,by simp⟩ P.na pa;refine YAw (YD9 (YBr ⟨rfl,YAw (zaH (zaK pa) (zau (λ_=>YAG (q _ _ (zfZ m1) (SmG.refl _))) λz1=>zau (λ_=>YAG (q _ _ (ze8 m1) (SmG.refl _))) λz2=>?_))⟩));exact YAw (YDv (YAw (zgS (N:=HiC st0 a b) (Z:=LoZ st0 a b) (d:=False) (n:=0) HiN.no (λr h=>zqM hc P hk r h) ⟨SmG.refl _,m1,zhg z1 (YAC _),YBP pa,zhg z2 P.nb,YAj _,by dsimp only;omega⟩ (λh=>YAG (q _ _ h.2 h.1)) λd=>d.elim)))
end
end
section
variable{qf:Model}{A:Around}{E:Value->Shared->Prop}{s:Shared}{κ:SortKind}{U:Keyed->Prop}{a₀:Array Keyed}
structure SB(κ:SortKind)(a₀:Array Keyed)(st:SortSt):Prop where
 kind:kindOf st=κ
 perm:(arrOf st).toList.Perm a₀.toList
 fail:failedOf st=none
theorem SB.size{st:SortSt}(B:SB κ a₀ st):(arrOf st).size=a₀.size:=by have:=B.perm.length_eq;simpa using this
def zes(hc:CmpS qf A E s κ U)(D:∀x∈a₀.toList,U x){st:SortSt}(B:SB κ a₀ st){i j:Nat}{Q:Option Bool->SortSt->Prop}(hi:i<a₀.size)(hj:j<a₀.size)(q:∀b,Q (some b) st):wpS qf A E s (ltAt' i j) Q st:=by
 have hs:=B.size;have h1:i<(arrOf st).size:=by omega
 have h2:j<(arrOf st).size:=by omega
 have u:∀{k},∀h:k<(arrOf st).size,U (arrOf st)[k]:=λh=>D _ (B.perm.mem_iff.mp (zcT h));exact YAw (YDv (YAw (zaH (zaK h1) (YAw (zaH (zaK h2) (hc _ _ _ _ (u h1) (u h2) B.kind q))))))
def Ch(κ:SortKind)(a₀:Array Keyed)(st st':SortSt):Prop:=SB κ a₀ st'/\pendingOf st'=pendingOf st
def Ch.set{st st':SortSt}(c:Ch κ a₀ st st'){xs:Array Keyed}(p:xs.Perm (arrOf st')):Ch κ a₀ st (setArr st' xs):=⟨⟨c.1.kind,(Array.perm_iff_toList_perm.mp p).trans c.1.perm,c.1.fail⟩,c.2⟩
def zll{β:Type}{c:Prop}[Decidable c]{t k:StateT SortSt Sem β}{st:SortSt}{Q:β->SortSt->Prop}(P:SortSt->Prop)(p:P st)(hk:∀st',P st'->wpS qf A E s k Q st')(ht:c->(∀st',P st'->wpS qf A E s k Q st')->wpS qf A E s t Q st):wpS qf A E s (if c then t else k) Q st:=
 zau (λh=>ht h hk) λ_=>hk st p
def zjR{st:SortSt}{x nrem:Nat}{Q:(Option (Option Nat)×Nat)->SortSt->Prop}{f:Nat->(Option (Option Nat)×Nat)->StateT SortSt Sem (ForInStep (Option (Option Nat)×Nat))}(hx:1<=x)(hxn:x<=nrem)
  (hf:∀(t n:Nat)(R:ForInStep (Option (Option Nat)×Nat)->SortSt->Prop),1<=n->n<nrem->R (ForInStep.done (none,n)) st->R (ForInStep.yield (none,n+1)) st->wpS qf A E s (f t (none,n)) R st)
  (q:∀n,1<=n->n<=nrem->Q (none,n) st):wpS qf A E s (forIn [x:nrem] (none,x) f) Q st:=by
 refine YBX (λt c st'=>st'=st/\c=(none,t)/\t<=nrem) ?_ ?_ ⟨rfl,rfl,hxn⟩
 .rintro t c st' h1 h2 ⟨rfl,rfl,h4⟩;exact hf t t _ (by omega) h2 (q t (by omega) h4) ⟨rfl,rfl,h2⟩
 .rintro c st' ⟨rfl,rfl,h4⟩;exact q _ (by omega) h4
def zhf{st st':SortSt}(c:Ch κ a₀ st st'){i j:Nat}{Q:Unit->SortSt->Prop}(q:∀st',Ch κ a₀ st st'->Q () st'):wpS qf A E s (reverseSlice' i j) Q st':=
 YCP (q _ (c.set (mirror_perm _ _ _ _)))
def zmT(hc:CmpS qf A E s κ U)(D:∀x∈a₀.toList,U x){st:SortSt}(B:SB κ a₀ st){lo nrem:Nat}{Q:Option Nat->SortSt->Prop}(h1:1<=nrem)(hn:lo+nrem<=a₀.size)
  (q:∀n st',1<=n->n<=nrem->Ch κ a₀ st st'->Q (some n) st'):wpS qf A E s (countRun' lo nrem) Q st:=by
 refine YAw (zjR (YAj 1) h1 (λt n R n1 n2 r1 r2=>YAw (zes hc D B (by omega) (by omega) λb=>?_)) λn n1 n2=>?_)
 .exact zau (λ_=>YAG r1) λ_=>YAG r2
 refine zau (λy=>?_) λy=>?_
 .exact YAG (q n st n1 n2 ⟨B,rfl⟩)
 have y':=zgc y n2;refine zll (Ch κ a₀ st) ⟨B,rfl⟩ (λst1 c1=>?_) λz K=>?_
 .refine YAw (YD9 (YBr ⟨rfl,?_⟩));refine YAw (YDM (YBX (β:=Option (Option Nat)×Nat×Nat) (λt c st'=>∃e,c=(none,t,e)/\t<=nrem/\Ch κ a₀ st st') (Q:=λc st'=>∃n e,c=(none,n,e)/\1<=n/\n<=nrem/\Ch κ a₀ st st') ?_ ?_ ⟨0,rfl,y',c1⟩) ?_)
  .rintro t c st' a1 a2 ⟨e,rfl,a4,c2⟩;dsimp only;refine YAw (zes hc D c2.1 (by omega) (by omega) λb=>?_);refine zau (λl=>?_) λl=>?_
   .exact zll (Ch κ a₀ st) c2 (λst3 c3=>YAG ⟨0,rfl,a2,c3⟩) λ_ K=>YAw (zhf c2 K)
   .refine YAw (zes hc D c2.1 (by omega) (by omega) λb=>?_);exact zau (λ_=>YAG ⟨t,e,rfl,by omega,a4,c2⟩) λ_=>YAG ⟨e+1,rfl,a2,c2⟩
  .rintro c st' ⟨e,rfl,a4,c2⟩;exact⟨_,e,rfl,by omega,a4,c2⟩
  .rintro c st' ⟨n,e,rfl,a3,a4,c2⟩;refine zll (Ch κ a₀ st) c2 (λst3 c3=>YAw (zhf c3 λst4 c4=>?_)) λ_ K=>YAw (zhf c2 K);refine YAw (zjR a3 a4 (λt n R n1 n2 r1 r2=>YAw (zes hc D c4.1 (by omega) (by omega) λb=>?_)) λn n1 n2=>YAG (q n st4 n1 n2 c4));exact zau (λ_=>YAG r1) λ_=>YAG r2
 .refine YAw (zes hc D B (by omega) (by omega) λb=>?_);exact zau (λ_=>YAG (q n st n1 n2 ⟨B,rfl⟩)) λ_=>YAw (zhf ⟨B,rfl⟩ K)
def zkJ(hc:CmpS qf A E s κ U)(D:∀x∈a₀.toList,U x){st st₀:SortSt}(C:Ch κ a₀ st₀ st){lo n ok:Nat}{Q:Bool->SortSt->Prop}(h2:ok<=n)(hn:lo+n<=a₀.size)
  (q:∀st',Ch κ a₀ st₀ st'->Q true st'):wpS qf A E s (binarySort' lo n ok) Q st:=by
 refine YAw (YDM (YBX (β:=Option Bool×Unit) (λk c st'=>c=(none,())/\Ch κ a₀ st₀ st') (Q:=λc st'=>c=(none,())/\Ch κ a₀ st₀ st') ?_ (λ_ _ h=>h) ⟨rfl,C⟩) ?_)
 .rintro k c st' k1 k2 ⟨rfl,ch⟩;refine YAw (YDM (YBX (β:=Option Bool×Nat×Nat) (λt c st2=>st2=st'/\∃l r:Nat,c=(none,l,r)/\r<=k) (Q:=λc st2=>st2=st'/\∃l r:Nat,c=(none,l,r)) ?_ ?_ ⟨rfl,0,k,rfl,YAj _⟩) ?_)
  .rintro t c st2 _ ht ⟨rfl,l,r,rfl,g2⟩;dsimp only;refine zau (λz=>YAG ⟨rfl,l,r,rfl⟩) λz=>?_;refine YAw (zes hc D ch.1 (by omega) (by omega) λb=>?_);exact zau (λ_=>YAG ⟨rfl,l,_,rfl,by omega⟩) λ_=>YAG ⟨rfl,_,r,rfl,g2⟩
  .rintro c st2 ⟨rfl,l,r,rfl,_⟩;exact⟨rfl,l,r,rfl⟩
  .rintro c st2 ⟨rfl,l,r,rfl⟩;exact YAw (YCP (YAG ⟨rfl,ch.set (bubble_perm _ _ _)⟩))
 .rintro c st' ⟨rfl,ch⟩;exact YAG (q st' ch)
end
section
variable{qf:Model}{A:Around}{E:Value->Shared->Prop}{s:Shared}{κ:SortKind}{U:Keyed->Prop}{a₀:Array Keyed}
def zls(xs:Array Keyed)(o:Nat)(l:List Keyed):Array Keyed:=l.zipIdx.foldl (λa (p,j)=>a.setIfInBounds (o+j) p) xs
theorem zmz(o:Nat):∀(l:List Keyed)(k:Nat)(xs:Array Keyed),o+k+l.length<=xs.size->∀i,((l.zipIdx k).foldl (λa (p,j)=>a.setIfInBounds (o+j) p) xs)[i]?=if o+k<=i/\i<o+k+l.length then l[i-(o+k)]? else xs[i]?
 |[],k,xs,_,i=>by rw[if_neg (by simp)];rfl
 |x::l,k,xs,h,i=>by
  rw[YAS]at h;rw[YCY,YDa];have ih:=zmz o l (k+1) (xs.setIfInBounds (o+k) x) (by simp;omega) i;refine Eq.trans ih ?_;by_cases z:o+(k+1)<=i/\i<o+(k+1)+l.length
  .rw[if_pos z,if_pos (by rw[YAS];omega),show i-(o+k)=(i-(o+(k+1)))+1 by omega,YBV]
  .rw[if_neg z,Array.getElem?_setIfInBounds];by_cases e:o+k=i
   .rw[if_pos e,if_pos (by omega),if_pos (by rw[YAS];omega),show i-(o+k)=0 by omega,List.getElem?_cons_zero]
   .rw[if_neg e,if_neg (by rw[YAS];omega)]
def zrr{xs:Array Keyed}{o:Nat}{l:List Keyed}(h:o+l.length<=xs.size)(i:Nat):(zls xs o l)[i]?=if o<=i/\i<o+l.length then l[i-o]? else xs[i]?:=zmz o l 0 xs h i
def znt{xs:Array Keyed}{o:Nat}{l:List Keyed}(h:o+l.length<=xs.size):(zls xs o l).toList=xs.toList.take o++(l++xs.toList.drop (o+l.length)):=by
 apply YDE;intro i;have hl:(xs.toList.take o).length=o:=by simp;omega
 rw[YA6,zrr h,List.getElem?_append,hl];by_cases h1:i<o
 .rw[if_neg (by omega),if_pos h1,List.getElem?_take,if_pos h1,YA6]
 .rw[if_neg h1,List.getElem?_append];by_cases h2:i<o+l.length
  .rw[if_pos (by omega),if_pos (by omega)]
  .rw[if_neg (by omega),if_neg (by omega),YDq,YA6];congr 1;omega
def znD{xs:Array Keyed}{o:Nat}{l:List Keyed}(h:o+l.length<=xs.size)(p:l.Perm ((xs.toList.drop o).take l.length)):(zls xs o l).toList.Perm xs.toList:=by
 rw[znt h];have e:xs.toList=xs.toList.take o++((xs.toList.drop o).take l.length++xs.toList.drop (o+l.length)):=by rw[<-YDw,YBb,YBb]
 refine List.Perm.trans ?_ (YDf e.symm);exact(p.append_right _).append_left _
def zpW{x st:SortSt}{Q:PUnit->SortSt->Prop}(h:Q ⟨⟩ x):wpS qf A E s (set x:StateT SortSt Sem PUnit) Q st:=by
 unfold wpS;exact YAf ⟨rfl,h⟩
def zpz{xs:Array Keyed}{i j:Nat}{x:Keyed}(h:x∈(xs.extract i j).toList):x∈xs.toList:=by
 rw[zbG]at h;exact YCB (YCa h)
def zpE{xs m:Array Keyed}{i j l:Nat}(h1:i<=j)(h2:j<=l)(h3:l<=xs.size)(mg:zcS (xs.extract i j).toList (xs.extract j l).toList m.toList):(zls xs i m.toList).toList.Perm xs.toList:=by
 have e:(xs.extract i j).toList++(xs.extract j l).toList=(xs.toList.drop i).take (l-i):=by
  rw[zbG,zbG,show l-i=j-i+(l-j) by omega,List.take_add,YDw,show i+(j-i)=j by omega]
 have mg:=List.Perm.trans mg (YDf e);have len:=mg.length_eq;rw[YA8,YBf,YBc,YBc]at len;have len:m.toList.length=l-i:=by rw[YBc];omega
 exact znD (by omega) (by rw[len];exact mg)
def zmx{xs:Array Keyed}{i j:Nat}(h:j<=xs.size)(l:i<j):0<(xs.extract i j).size:=by simp;omega
def zjf(hc:CmpS qf A E s κ U)(Du:∀x∈a₀.toList,U x){st:SortSt}(B:SB κ a₀ st){i sa na pw sb nb pw':Nat}{Q:Bool->SortSt->Prop}(h1:(pendingOf st)[i]?=some (sa,na,pw))(h2:(pendingOf st)[i+1]?=some (sb,nb,pw'))(es:sb=sa+na)(ha:1<=na)(hb:1<=nb)(hz:sb+nb<=a₀.size)
  (q:∀st',SB κ a₀ st'->pendingOf st'=((pendingOf st).setIfInBounds i (sa,na+nb,pw)).eraseIdxIfInBounds (i+1)->Q true st'):wpS qf A E s (mergeAt' i) Q st:=by
 have hs:=B.size;have u:∀{k},∀h:k<(arrOf st).size,U (arrOf st)[k]:=λh=>Du _ (B.perm.mem_iff.mp (zcT h));refine YAw (YDv ?_);rw[h1,h2];dsimp only;refine YAw (zpW ?_);have hsb:sb<(arrOf st).size:=by omega
 refine YAw (zaH (zaK hsb) ?_);refine YAw (zdk hc B.kind (u hsb) (by omega) (λj hj=>⟨(arrOf st)[sa+j]'(by omega),zaK (show sa+j<(arrOf st).size by omega),u _⟩) λk k1=>?_);dsimp only;have B1:SB κ a₀ (SortSt.mk' (kindOf st) (arrOf st) (((pendingOf st).setIfInBounds i (sa,na+nb,pw)).eraseIdxIfInBounds (i+1)) (gallopOf st) (failedOf st)):=⟨B.kind,B.perm,B.fail⟩;refine zau (λz=>?_) λz=>?_
 .exact YAG (q _ B1 rfl)
 have z:=zhg z (YAC _);have hla:sa+k+(na-k)-1<(arrOf st).size:=by omega
 refine YAw (zaH (zaK hla) ?_);refine YAw (zdk hc B.kind (u hla) (by omega) (λj hj=>⟨(arrOf st)[sb+j]'(by omega),zaK (show sb+j<(arrOf st).size by omega),u _⟩) λc c1=>?_);dsimp only;refine zau (λw=>?_) λw=>?_
 .exact YAG (q _ B1 rfl)
 have w:=zhg w (YAC _);have ue:∀{i j:Nat},∀x∈((arrOf st).extract i j).toList,U x:=λx hx=>Du _ (B.perm.mem_iff.mp (zpz hx));have i1:sa+k<sb:=by omega
 have i3:sb+c<=(arrOf st).size:=by omega
 have P:MPre U ((arrOf st).extract (sa+k) sb) ((arrOf st).extract sb (sb+c)):=⟨ue,ue,zmx (YBP hsb) i1,zmx i3 (Nat.lt_add_of_pos_right w)⟩;have fin:∀(m:Array Keyed)(st2:SortSt),zcS ((arrOf st).extract (sa+k) sb).toList ((arrOf st).extract sb (sb+c)).toList m.toList->SmG (SortSt.mk' (kindOf st) (arrOf st) (((pendingOf st).setIfInBounds i (sa,na+nb,pw)).eraseIdxIfInBounds (i+1)) (gallopOf st) (failedOf st)) st2 ->
   Q (failedOf st2).isNone (SortSt.mk' (kindOf st2) (zls (arrOf st2) (sa+k) m.toList) (pendingOf st2) (gallopOf st2) (failedOf st2)):=λm st2 mg sm=>by
  have ea:arrOf st2=arrOf st:=sm.arr;have ef:failedOf st2=none:=sm.fail.trans B.fail;rw[ef,ea];exact q _ ⟨sm.kind.trans B.kind,(zpE (YBP i1) (YBI _ _) i3 mg).trans B.perm,rfl⟩ sm.pend
 refine zau (λ_=>?_) λ_=>?_
 .exact YAw (zjr hc P B1.kind λm st2 mg sm=>YAw (YCP (YAw (YDv (YAG (fin m st2 mg sm))))))
 .exact YAw (zjD hc P B1.kind λm st2 mg sm=>YAw (YCP (YAw (YDv (YAG (fin m st2 mg sm))))))
end
section
variable{qf:Model}{A:Around}{E:Value->Shared->Prop}{s:Shared}{κ:SortKind}{U:Keyed->Prop}{a₀:Array Keyed}
abbrev Pn:=Nat×Nat×Nat
def PdL:Nat->List Pn->Nat->Prop
 |b,[],e=>b=e
 |b,x::r,e=>x.1=b/\1<=x.2.1/\PdL (b+x.2.1) r e
theorem PdL.len:∀{l:List Pn}{b e:Nat},PdL b l e->b+l.length<=e
 |[],b,e,h=>by have h:b=e:=h;simp;omega
 |x::r,b,e,h=>by have:=PdL.len h.2.2;have:=h.2.1;simp;omega
theorem PdL.app:∀{l m:List Pn}{b e:Nat},PdL b (l++m) e↔∃c,PdL b l c/\PdL c m e
 |[],m,b,e=>⟨λh=>⟨b,rfl,h⟩,λ⟨c,h1,h2⟩=>by have h1:b=c:=h1;subst h1;exact h2⟩
 |x::r,m,b,e=>by
  show(_/\_/\PdL _ (r++m) e)↔_;rw[PdL.app];exact⟨λ⟨h1,h2,c,h4,h5⟩=>⟨c,⟨h1,h2,h4⟩,h5⟩,λ⟨c,⟨h1,h2,h4⟩,h5⟩=>⟨h1,h2,c,h4,h5⟩⟩
theorem PdL.modify{f:Pn->Pn}(hf:∀x,(f x).1=x.1/\(f x).2.1=x.2.1):∀{l:List Pn}{i b e:Nat},PdL b l e->PdL b (l.modify i f) e
 |[],i,b,e,h=>by simpa using h
 |x::r,0,b,e,⟨h1,h2,h4⟩=>by
  rw[List.modify_zero_cons];refine⟨(hf x).1.trans h1,by rw[(hf x).2];exact h2,by rw[(hf x).2];exact h4⟩
 |x::r,i+1,b,e,⟨h1,h2,h4⟩=>by
  rw[List.modify_succ_cons];exact⟨h1,h2,PdL.modify hf h4⟩
def zf1(hc:CmpS qf A E s κ U)(D:∀x∈a₀.toList,U x){st:SortSt}(B:SB κ a₀ st){i e:Nat}{Q:Bool->SortSt->Prop}(pd:PdL 0 (pendingOf st).toList e)(he:e<=a₀.size)(hi:i+1<(pendingOf st).size)
  (q:∀st',SB κ a₀ st'->(pendingOf st').size+1=(pendingOf st).size->PdL 0 (pendingOf st').toList e->Q true st'):wpS qf A E s (mergeAt' i) Q st:=by
 have h0:i<(pendingOf st).toList.length:=by simp;omega
 have h1:i+1<(pendingOf st).toList.length:=by simp;omega
 obtain⟨l1,x,y,l2,el,ei⟩:∃l1 x y l2,(pendingOf st).toList=l1++x::y::l2/\l1.length=i:=by
  refine⟨(pendingOf st).toList.take i,(pendingOf st).toList[i],(pendingOf st).toList[i+1],(pendingOf st).toList.drop (i+1+1),?_,by rw[YA8];omega⟩;rw[<-YAL h1,<-YAL h0,YBb]
 rw[el,PdL.app]at pd;obtain⟨c,p1,⟨x1,x2,y1,y2,p4⟩⟩:=pd;obtain⟨sa,na,pw⟩:=x;obtain⟨sb,nb,pw'⟩:=y;dsimp only at x1 x2 y1 y2 p4;subst x1;have g1:(pendingOf st)[i]?=some (sa,na,pw):=by rw[<-YA6,el,YBq (by omega),ei,Nat.sub_self];rfl
 have g2:(pendingOf st)[i+1]?=some (sb,nb,pw'):=by rw[<-YA6,el,YBq (by omega),ei,show i+1-i=1 by omega];rfl
 have l4:=p4.len;have l1':=p1.len;refine zjf hc D B g1 g2 y1 x2 y2 (by omega) λst' B' ep=>?_;have epl:(pendingOf st').toList=l1++(sa,na+nb,pw)::l2:=by
  rw[ep]
  have:(((pendingOf st).setIfInBounds i (sa,na+nb,pw)).eraseIdxIfInBounds (i+1)).toList=((pendingOf st).toList.set i (sa,na+nb,pw)).eraseIdx (i+1):=by
   simp
  rw[this,el,<-ei,List.set_append_right _ _ (YAj _),Nat.sub_self,List.set_cons_zero,List.eraseIdx_append_of_length_le (YDL _),show l1.length+1-l1.length=1 by omega];rfl
 refine q st' B' ?_ ?_
 .have a1:=congrArg List.length epl;have a2:=congrArg List.length el;simp at a1 a2;omega
 .rw[epl,PdL.app];refine⟨sa,p1,rfl,by dsimp only;omega,?_⟩;dsimp only;rw[<-Nat.add_assoc];exact p4
def zoe{n:Nat}(h:n>1):n-2+1<n:=by omega
def zpt{c:Prop}[Decidable c]{n:Nat}(h:¬ n<=1):(if c then n-2-1 else n-2)+1<n:=by split<;>omega
def zh3(hc:CmpS qf A E s κ U)(D:∀x∈a₀.toList,U x){st:SortSt}(B:SB κ a₀ st){Q:Unit->SortSt->Prop}(hp:pendingOf st=#[])(h1:1<=a₀.size)
  (q:∀st',SB κ a₀ st'->Q () st'):wpS qf A E s sortRuns' Q st:=by
 refine YAw (YDv ?_);have es:(arrOf st).size=a₀.size:=B.size;rw[es];have new:∀{st:SortSt}{t lo n:Nat},SB κ a₀ st->PdL 0 (pendingOf st).toList lo->1<=n->lo+n<=a₀.size/\t<=lo->(∃lo',((none,lo+n):Option Unit×Nat)=(none,lo')/\t+1<=lo'/\lo'<=a₀.size/\SB κ a₀ (SortSt.mk' (kindOf st) (arrOf st) ((pendingOf st).push (lo,n,0)) (gallopOf st) (failedOf st))/\PdL 0 ((pendingOf st).push (lo,n,0)).toList lo'):=λ{st t lo n} B pd hn hl=>
  ⟨lo+n,rfl,by omega,hl.1,⟨B.kind,B.perm,B.fail⟩,by rw[YBY,PdL.app];exact⟨lo,pd,rfl,hn,rfl⟩⟩
 refine YAw (YDM (YBX (β:=Option Unit×Nat) (λt c st'=>∃lo,c=(none,lo)/\t<=lo/\lo<=a₀.size/\SB κ a₀ st'/\PdL 0 (pendingOf st').toList lo) (Q:=λc st'=>c=(none,a₀.size)/\SB κ a₀ st'/\PdL 0 (pendingOf st').toList a₀.size) ?_ ?_ ⟨0,rfl,YAj _,YAC _,B,by rw[hp];rfl⟩) ?_)
 .rintro t c st' _ ht ⟨lo,rfl,g1,g2,B',pd⟩;dsimp only;refine zau (λz=>?_) λz=>?_
  .have:lo=a₀.size:=by omega
   subst this;exact YAG ⟨rfl,B',pd⟩
  refine YAw (zmT hc D B' (by omega) (by omega) λn st2 n1 n2 c2=>?_);dsimp only;refine zau (λy=>YAw (YD9 (YBr ⟨rfl,YAw (zkJ hc D c2 (by omega) (by omega) λst2 c2=>zau (λz=>absurd z (by decide)) λ_=>?_)⟩))) λy=>?_
  all_goals
   have B3:=c2.1;have pd3:PdL 0 (pendingOf st2).toList lo:=by rw[c2.2];exact pd
   refine YAw (YDv ?_);rcases hb:(pendingOf st2).back? with _|⟨s1,n1,w1⟩
   .exact YAw (YCP (YAG (new B3 pd3 (by omega) (by omega))))
   .refine YAw (YDM (YBX (β:=Option Unit×Unit) (λ_ c st4=>c=(none,())/\SB κ a₀ st4/\PdL 0 (pendingOf st4).toList lo) (Q:=λc st4=>c=(none,())/\SB κ a₀ st4/\PdL 0 (pendingOf st4).toList lo) ?_ (λ_ _ h=>h) ⟨rfl,B3,pd3⟩) ?_)
    .rintro u c st4 _ _ ⟨rfl,B4,pd4⟩;refine YAw (YDv ?_);by_cases hz:(pendingOf st4).size>1
     .rw[if_pos hz,YA5 (show(pendingOf st4).size-2<(pendingOf st4).size by omega)];refine zau (λ_=>YAG ⟨rfl,B4,pd4⟩) λ_=>?_;exact YAw (zf1 hc D B4 pd4 (by omega) (zoe hz) λst5 B5 _ pd5=>YAG ⟨rfl,B5,pd5⟩)
     .rw[if_neg hz];exact YAG ⟨rfl,B4,pd4⟩
    .rintro c st4 ⟨rfl,B4,pd4⟩;refine YAw (YCP ?_);refine YAw (YCP (YAG (new (st:=SortSt.mk' (kindOf st4) (arrOf st4) _ (gallopOf st4) (failedOf st4)) ⟨B4.kind,B4.perm,B4.fail⟩ ?_ (by omega) (by omega))));show PdL 0 (Array.modify _ _ _).toList lo;rw[Array.toList_modify];exact pd4.modify λ⟨a,b,c⟩=>⟨rfl,rfl⟩
 .rintro c st' ⟨lo,rfl,g1,g2,B',pd⟩
  have:lo=a₀.size:=by omega
  subst this;exact⟨rfl,B',pd⟩
 .rintro c st' ⟨rfl,B',pd⟩;dsimp only;have hl:=pd.len;refine YAw (YDM (YBX (β:=Option Unit×Unit) (λu c st4=>c=(none,())/\SB κ a₀ st4/\PdL 0 (pendingOf st4).toList a₀.size/\u+(pendingOf st4).size<=a₀.size) (Q:=λc st4=>c=(none,())/\SB κ a₀ st4/\PdL 0 (pendingOf st4).toList a₀.size/\(pendingOf st4).size<=1) ?_ ?_ ⟨rfl,B',pd,by simp at hl;omega⟩) ?_)
  .rintro u c st4 _ _ ⟨rfl,B4,pd4,h4⟩;refine YAw (YDv ?_);refine zau (λz=>YAG ⟨rfl,B4,pd4,z⟩) λz=>?_;have z:¬ (pendingOf st4).size<=1:=z;refine YAw (zf1 hc D B4 pd4 (YAj _) (zpt z) λst5 B5 e5 pd5=>?_);exact YAG ⟨rfl,B5,pd5,by omega⟩
  .rintro c st4 ⟨rfl,B4,pd4,h4⟩;exact⟨rfl,B4,pd4,by omega⟩
  .rintro c st4 ⟨rfl,B4,pd4,h4⟩;exact YAG (q st4 B4)
end
section
variable{prog:Program}{w:World}{A:Around}{E:Value->Shared->Prop}{s:Shared}{vs:List Value}{κ:SortKind}
def znM{i:Nat}(h:i<vs.length):(pairsOf vs).toList[i]?=some (vs.getD i Value.none,vs.getD i Value.none):=by
 rw[YEh,List.getElem?_zip_eq_some,YAs,YAe h];exact⟨rfl,rfl⟩
def zkC:(pairsOf vs).toList=(List.range vs.length).map λi=>(vs.getD i Value.none,vs.getD i Value.none):=by
 apply YDE;intro i;rw[YAo];by_cases h:i<vs.length
 .rw[znM h,YCG h];rfl
 .rw[YBQ (by rw[YEh];simp;omega),YBQ (by simp;omega)];rfl
theorem zj9{α:Type}{f:Nat->α}:∀{l:List α}{m:List Nat},l.Perm (m.map f)->∃p:List Nat,p.Perm m/\l=p.map f
 |[],m,h=>by
  have:=h.length_eq
  rw[YAc]at this;exact⟨[],by rw[YCk.mp this.symm],rfl⟩
 |x::l,m,h=>by
  obtain⟨i,hi,rfl⟩:=YAF.mp (h.mem_iff.mp YAi);have e:=List.perm_cons_erase hi;obtain⟨p,h1,rfl⟩:=zj9 (h.trans (e.map f)).cons_inv;exact⟨i::p,(h1.cons i).trans e.symm,rfl⟩
def zgq{a:Addr}{n:Nat}{P:PySem.Fin->Shared->Prop}(ho:s.heap.get? a=some (seqObj "list" vs.toArray n))(hz:vs.length<=5000)
  (hkind:2<=vs.length->∀(h':Heap)(Q':SortKind->Shared->Prop),(∀b o,b≠a->s.heap.get? b=some o->h'.get? b=some o)->Q' κ {s with heap:=h'}->wpAny (model prog w) A (keyKind' vs.toArray) Q' (λ_ _=>False) {s with heap:=h'})
  (hlt:∀(i j:Nat)(h':Heap)(C:Bool->Shared->Prop),i<vs.length->j<vs.length->(∀b o,b≠a->s.heap.get? b=some o->h'.get? b=some o)->(∀b,C b {s with heap:=h'})->wpAny (model prog w) A (keyLt' κ (vs.getD i Value.none) (vs.getD j Value.none)) C (λ_ _=>False) {s with heap:=h'})
  (h:∀out:List Value,zmL vs out->P (.done (.ret .none)) {s with heap:=sortedHeap s.heap a vs out.toArray}) :
  wpAny (model prog w) A (Builtin.«list.sort» ⟨[.ref a],[]⟩) P E s:=by
 rw[list_sort_plain];have ha:a<s.heap.objs.size:=YAm ho;refine YAa (listItems_at ho rfl ?_);refine YAa (listUpdate_at ho rfl ?_ (by rw[YAu,YAO];omega) (YAC _));obtain⟨e1,ho1⟩:∃e1,(s.heap.update a (Obj.mapSeq λ_=>#[])).get? a=some (seqObj "list" #[] e1):=⟨_,get?_update_seq ho (λ_=>#[])⟩;refine YAa (seqEpoch_at ho1 rfl ?_);refine YAa (YEc ?_ (by show vs.length<=_;rw[YAO];omega));refine YAa (YCM ?_ (YAC _));refine YAZ ?_;have ho6:(((s.heap.update a (Obj.mapSeq λ_=>#[])).push (seqObj "tuple" vs.toArray 0)).push (seqObj "list" #[] 0)).get? a=some (seqObj "list" #[] e1):=by
  rw[YCh _ _ _ (by rw[YD8,YCF];exact YAv (YA9 ha)),YCh _ _ _ (by rw[YCF];exact YAv ha)];exact ho1
 have kept:∀b o,b≠a->s.heap.get? b=some o->(((s.heap.update a (Obj.mapSeq λ_=>#[])).push (seqObj "tuple" vs.toArray 0)).push (seqObj "list" #[] 0)).get? b=some o:=λb o hb q=>by
  have hlt:b<s.heap.objs.size:=YAm q;rw[YCh _ _ _ (by rw[YD8,YCF];exact YAv (YA9 hlt)),YCh _ _ _ (by rw[YCF];exact YAv hlt),Heap.get?_update_ne _ _ _ _ hb];exact q
 show wpAny (model prog w) A _ P E {s with heap:=((s.heap.update a (Obj.mapSeq λ_=>#[])).push (seqObj "tuple" vs.toArray 0)).push (seqObj "list" #[] 0)};dsimp only;by_cases h2:vs.toArray.size<2
 .rw[if_pos h2,if_pos h2];refine YAa (YAf ?_);rw[StateT.run_pure];refine YAa (YAf ?_);dsimp only;refine YAa (seqEpoch_at ho6 rfl ?_);refine YAa (listUpdate_at ho6 rfl ?_ (YAC _) (by rw[Array.size_map];show(pairsOf vs).size<=_;rw[pairsOf_size,YAO];omega));simp only[YCf,YA0,YB6];refine YAf ?_;have e:((vs.toArray.zip vs.toArray).map (·.2))=vs.toArray:=by
   apply Array.toList_inj.mp;rw[Array.toList_map];show(pairsOf vs).toList.map _=_;rw[YEh,List.map_snd_zip (YAj _)]
  have:=h vs ⟨List.range vs.length,List.Perm.refl _,?_⟩
  .show P _ {s with heap:=sortedHeap s.heap a vs ((vs.toArray.zip vs.toArray).map (·.2))};rw[e];exact this
  .apply YCo
   .simp
   .intro i h1 h3;simp[h1]
 .rw[if_neg h2,if_neg h2];rw[YAu]at h2;refine YAa (YA2 (hkind (by omega) _ _ kept ?_) (λ_ _ z=>z) λ_ _ z=>z.elim);generalize hs6:({s with heap:=((s.heap.update a (Obj.mapSeq λ_=>#[])).push (seqObj "tuple" vs.toArray 0)).push (seqObj "list" #[] 0)}:Shared)=s6 at *;have hc:CmpS (model prog w) A E s6 κ (λx=>x∈(pairsOf vs).toList):=λx y st Q hx hy hk' hq=>by
   rw[zkC]at hx hy;obtain⟨i,hi,rfl⟩:=YAF.mp hx;obtain⟨j,hj,rfl⟩:=YAF.mp hy;rw[lt'_eq];refine YAw (YDv ?_);rw[hk'];refine YAw (YD9 (YCK (YA2 (?_:wpAny (model prog w) A (keyLt' κ (vs.getD i Value.none) (vs.getD j Value.none)) (λr s'=>s'=s6) (λ_ _=>False) s6) (λr s' e2=>?_) λ_ _ z=>z.elim)))
   .rw[<-hs6];exact hlt i j _ _ (YBg.mp hi) (YBg.mp hj) kept λ_=>rfl
   .subst e2;exact⟨rfl,YAG (hq r)⟩
  have run:=zh3 (a₀:=pairsOf vs) (Q:=λ_ st'=>SB κ (pairsOf vs) st') hc (λ_ h=>h) (st:=SortSt.mk' κ (vs.toArray.zip vs.toArray) #[] 7 none) ⟨rfl,List.Perm.refl _,rfl⟩ rfl (by rw[pairsOf_size];omega) λst' h1=>h1;unfold wpS at run;refine YAa (YA2 run ?_ λ_ _ e=>e);rintro⟨⟨⟩,st'⟩ s' ⟨es,SBt⟩;subst es;have hf:failedOf st'=none:=SBt.fail;have pe:=SBt.perm;rw[zkC]at pe;obtain⟨p,pm,ep⟩:=zj9 pe;have hout:(arrOf st').map (·.2)=List.toArray (p.map λi=>vs.getD i Value.none):=by
   apply Array.toList_inj.mp;rw[Array.toList_map,ep,YAK];rfl
  subst hs6;dsimp only;have hsz:(List.toArray (p.map λi=>vs.getD i Value.none)).size=vs.length:=by rw[YAu,YAc,pm.length_eq,YBz]
  rw[hout];refine YAa (seqEpoch_at ho6 rfl ?_);refine YAa (listUpdate_at ho6 rfl ?_ (YAC _) (YAU (Nat.le_of_eq hsz) (by rw[YAO];omega)));rw[hf];simp only[YCf,YA0,YB6];exact YAf (h _ ⟨p,pm,rfl⟩)
def zi8{l:Addr}{Q:Value->Shared->Prop}(hl:s.heap.IsList l vs.toArray)(hz:vs.length<=5000)
  (hkind:2<=vs.length->∀(h':Heap)(Q':SortKind->Shared->Prop),(∀b o,s.heap.get? b=some o->h'.get? b=some o)->Q' κ {s with heap:=h'}->wpAny (model prog w) A.in1.in1 (keyKind' vs.toArray) Q' (λ_ _=>False) {s with heap:=h'})
  (hlt:∀(i j:Nat)(h':Heap)(C:Bool->Shared->Prop),i<vs.length->j<vs.length->(∀b o,s.heap.get? b=some o->h'.get? b=some o)->(∀b,C b {s with heap:=h'})->wpAny (model prog w) A.in1.in1 (keyLt' κ (vs.getD i Value.none) (vs.getD j Value.none)) C (λ_ _=>False) {s with heap:=h'})
  (h:∀out:List Value,zmL vs out->Q (.ref (s.heap.objs.size+1)) {s with heap:=sortedAll s.heap vs out.toArray}) :
  wpAny (model prog w) A (call (.builtin "sorted") [.ref l]) Q E s:=by
 refine YCC kind_sorted plain_sorted entry_sorted (args_sorted1 _) ?_;unfold Builtin.«sorted»;refine YAa (m:=checkCount "sorted" 1 1 _) (YAf ?_);refine YAa (collect_list hl ?_ (by rw[YAO];omega));refine YAa (YCM ?_ (by rw[YAO];omega));have hsz:((s.heap.push (seqObj "list" #[] 0)).update s.heap.objs.size (Obj.mapSeq (·++vs.toArray))).objs.size=s.heap.objs.size+1:=by
  rw[YCF,YD8]
 have hoL:(((s.heap.push (seqObj "list" #[] 0)).update s.heap.objs.size (Obj.mapSeq (·++vs.toArray))).push (seqObj "list" vs.toArray 0)).get? (s.heap.objs.size+1)=some (seqObj "list" vs.toArray 0):=by
  rw[<-hsz];exact YAr _ rfl
 have keep:∀b o,s.heap.get? b=some o->(((s.heap.push (seqObj "list" #[] 0)).update s.heap.objs.size (Obj.mapSeq (·++vs.toArray))).push (seqObj "list" vs.toArray 0)).get? b=some o:=λb o q=>by
  have hlt:b<s.heap.objs.size:=YAm q;rw[YCh _ _ _ (by rw[hsz];exact YAv (YA9 hlt)),Heap.get?_update_ne _ _ _ _ (YAv hlt),YCh _ _ _ (YAv hlt)];exact q
 show wpAny _ _ _ _ _ {s with heap:=((s.heap.push (seqObj "list" #[] 0)).update s.heap.objs.size (Obj.mapSeq (·++vs.toArray))).push (seqObj "list" vs.toArray 0)};rw[hsz];have low:∀b o,s.heap.get? b=some o->b≠s.heap.objs.size+1:=λb o q=>YAv (YA9 (YAm q));refine YAa (YAZ (YAY YEd ⟨_,hoL,rfl⟩ YD0 (zgq (κ:=κ) hoL hz (λh2 h' Q' kp q=>hkind h2 h' Q' (λb o e=>kp b o (low b o e) (keep b o e)) q) (λi j h' C hi hj kp c=>hlt i j h' C hi hj (λb o e=>kp b o (low b o e) (keep b o e)) c) λout ho=>⟨_,rfl,?_⟩) (YEe _)));exact YAf ⟨_,rfl,h out ho⟩
end
end L2
namespace L2
open PySem PySem.Spec PyProof.Rows PySem.W HT
section
variable{X:Cx}
def ziJ(hu:X.A.units+64<cLine):CallR X (.builtin "sorted") (λvs H Q=>∃(p:Addr)(us:List V)(ps:List Pr),vs=[.ref p]/\SqL X.K H p us/\us.length=ps.length/\ps.length<=5000/\(∀(i:Nat)(u:V)(x:Pr),us[i]?=some u->ps[i]?=some x->znN X.K H u x) /\
  ∀(l:Addr)(idx:List Nat),H l=none->idx.Perm (List.range ps.length)->Q (.ref l) (upd H l (.lst (idx.map λi=>us.getD i .non)))):=by
 intro O s Y H vs us' Q I r h;obtain⟨p,us,ps,rfl,hq,hlen,h64,hp,q⟩:=h;obtain⟨u,rfl,rx⟩:=zen r;cases rx;obtain⟨its,rv,pl,hz⟩:=I.list hq;have hil:=rv.length;have pa:∀(i:Nat)(v:Value)(x:Pr),its[i]?=some v->ps[i]?=some x->PairAt s.heap v x:=λi v x e1 e2=>by
  have hi:i<us.length:=by have:=(YAh.mp e2).1;omega
  obtain⟨v',e3,r'⟩:=rv.get (YAe hi);rw[e1]at e3;cases e3;exact zmc I r' (hp i _ x (YAe hi) e2)
 have at1:∀(h':Heap),(∀b o,s.heap.get? b=some o->h'.get? b=some o)->∀i,i<its.length->PairAt h' (its.getD i Value.none) (ps.getD i (0,[])):=λh' kp i hi=>by
  have hi2:i<ps.length:=by omega
  rw[YAs,YAs,YAe hi,YAe hi2];exact(pa i _ _ (YAe hi) (YAe hi2)).kept kp
 have hun:X.A.in1.in1.units<cLine:=by
  have:X.A.in1.in1.units=X.A.units+2:=rfl
  omega
 refine zi8 (κ:=tuples' true) pl.isList (by omega) (λh2 h' Q' kp q'=>?_) (λi j h' C hi hj kp c=>?_) λout ⟨idx,pm,eo⟩=>?_
 .obtain⟨fs,f1,f2,f3⟩:=zml (h:=h') (vs:=its) (ps:=ps) (by omega) λi v x e1 e2=>(pa i v x e1 e2).kept kp;refine kat_kind (T:=.type "int") f2 (by omega) (λv hv=>?_) rfl q';obtain⟨n,t,rfl⟩:=f3 v hv;exact Looks.of_pure rfl
 .refine zpU hun (at1 h' kp i hi) (at1 h' kp j hj) c
 .have hn:H (s.heap.objs.size+1)=none:=I.hok.fresh (YBI _ _);have hk:∀b o,s.heap.get? b=some o->(sortedAll s.heap its out.toArray).get? b=some o:=λb o e=>sortedAll_old e;obtain⟨e,he⟩:=sortedAll_at s.heap its out.toArray;have hil2:its.length=ps.length:=by omega
  rw[hil2]at pm;have hb:∀i∈idx,i<ps.length:=λi hi=>YBg.mp (pm.mem_iff.mp hi);have hle:(idx.map λi=>us.getD i .non).length<=sizeLine:=by rw[YAc,pm.length_eq,YBz,YAO];omega
  have hv:Vals (idx.map λi=>us.getD i .non) out:=by
   rw[eo];clear pm hle eo
   induction idx with
   |nil=>exact .nil
   |cons i idx ih=>
    have hi:=hb i YAi;have hi2:i<us.length:=by omega
    obtain⟨v',e3,r'⟩:=rv.get (YAe hi2);refine .cons ?_ (ih λj hj=>hb j (YAp _ hj));show RelV (us.getD i .non) (its.getD i Value.none);rw[YAs,YAs,YAe hi2,e3];exact r'
  refine⟨.ref (s.heap.objs.size+1),upd H (s.heap.objs.size+1) (.lst (idx.map λi=>us.getD i .non)),I.laid (t':=s.toks) hk (YBI _ _) ⟨hle,out,e,hv,by simpa[seqObj]using he⟩,rfl,q _ idx hn pm⟩
end
end L2
namespace Fd
open PySem L2
section
variable{X:Cx}{c:Bk}
def zgv:FL
 |[.lst _ xs],Q=>∃(b:Bool)(ps:List Pr),xs=ps.map (prP b)/\ps.length<=5000/\(∀x∈ps,x.1=x.2.length)/\∀qs:List Pr,qs.Perm ps->Q (.lst true (qs.map (prP b)))
 |_,_=>False
def zqa:zdt zgv:=λds Q Q' k q=>by
 unfold zgv at q ⊢;split at q
 .obtain⟨b,ps,e,h1,h3,q⟩:=q;exact⟨b,ps,e,h1,h3,λms a=>k _ (q ms a)⟩
 .exact q.elim
def znQ:zhB c zgv (λvs H Q=>∃(p:Addr)(us:List V)(ps:List Pr),vs=[.ref p]/\SqL c.K H p us/\us.length=ps.length/\ps.length<=5000/\(∀(i:Nat)(u:V)(x:Pr),us[i]?=some u->ps[i]?=some x->znN c.K H u x) /\
  ∀(l:Addr)(idx:List Nat),H l=none->idx.Perm (List.range ps.length)->Q (.ref l) (upd H l (.lst (idx.map λi=>us.getD i .non)))):=by
 intro H G ds vs Q gh bx h0 rv q;unfold zgv at q;split at q
 .obtain⟨b,ps,rfl,h1,h3,q⟩:=q;obtain⟨v,rfl,a,us,rfl,ha,_,hw⟩:=ziI rv;have hl:=hw.length;rw[YAc]at hl;refine⟨a,us,ps,rfl,SqL.of (gh _ _ ha),hl.symm,h1,λi u x e1 e2=>?_,λl idx hl' pm=>?_⟩
  .obtain⟨v',e3,r⟩:=hw.get (i:=i) (d:=prP b x) (by rw[YAo,e2];rfl);rw[e1]at e3;cases e3;exact zq0 gh r (h3 x (YAz e2))
  .refine q _ (zf7 pm) (.ref l) _ _ (Stp.new gh bx hl') ⟨l,_,rfl,zac,λ_=>h0 l hl',?_⟩;have hg:=zar gh hl';have hw':=hw.mono (zb8 (o:=.lst (idx.map λi=>us.getD i .non)) hg);have hb:∀i∈idx,i<ps.length:=λi hi=>YBg.mp (pm.mem_iff.mp hi);clear pm;generalize upd G l _=G' at hw'
   induction idx with
   |nil=>rfl
   |cons i idx ih=>
    have hi:=hb i YAi;obtain⟨v',e3,r⟩:=hw'.get (i:=i) (d:=prP b (ps.getD i (0,[]))) (by rw[YAo,YAe hi,YAs,YAe hi];rfl);exact⟨us.getD i .non,_,rfl,by rw[YAs,e3];exact r,ih λj hj=>hb j (YAp _ hj)⟩
 .exact q.elim
def zps{R:WL}(hR:DA X c [e] R)(hg:Gl X "sorted":=by rfl)(he:starEach [e] X.env=(false,eval e X.env)::starEach [] X.env:=by rfl)(hK:c.K=X.K:=by rfl)(hm:X.mg "sorted"=none:=by decreasing_trivial)(hu:X.A.units+64<cLine:=by decreasing_trivial):DE X c (.Call (.Name "sorted" p) [e] [] pos) (cbW zgv R):=
 zi6 zqa (ziJ hu) (hK▸znQ) hm YCg hR hg (by decide) (by decide) he rfl
end
noncomputable def zbk:Fn:=fnW 4 ((seqW (asgW (.nm 2) (valW (lstW (zab (valW (lstW nilA)) nilA))))
  (seqW (forW (seqI (vW 0)) (.nm 3) (asgW (.nm 2) (binW addD (vW 2) (valW (zaQ [none,some 3,some 1] (seqI (vW 2)) (.nm 0) (blW (binW ltD (zdp 0) (vW 2))) (binW addD (vW 0) (valW (lstW (zab (vW 1) nilA)))))))))
  (retW (valW (zaQ [none,none] (seqI (cbW zgv (zab (valW (zaQ [none] (seqI (vW 2)) (.nm 0) noIf (tupW (zab (zdp 0) (zab (vW 0) nilA))))) nilA))) (.tp 2 (.cons (.nm 0) (.cons (.nm 1) .nil))) noIf (vW 1)))))))
def zo4(many:Nat)(oY:List Int):(allL many oY).length<=2^oY.length:=by
 refine zj3 (P:=λoY=>(allL many oY).length<=2^oY.length) (by show 1<=1;decide) (λl x ih=>?_) oY;rw[ziS,YAq,YBy,Nat.pow_succ]
 have:=ziH many (allL many l) x
 omega
def zf9(a:Bool)(oY:List Int)(many:Nat)(hm:many<=1000)(hfew:(allL many oY).length<=5000):zbk [.lst a (oY.map D.int),.int many] (λd=>∃ms:List (List Int),d=.lst true (ms.map lsD)/\ms.Perm (allL many oY)):=by
 unfold zbk fnW zaM;rw[YAb,YAb,za3,zap];refine⟨by show 0<=100000;decide,by show 1<=100000;decide,?_⟩;show zbt _ _ _ (oY.map D.int) _;refine zaS (λds M=>∃(oZ:List Int)(ls:List (List Int))(s3:Sl),ds=oZ.map D.int/\oZ.foldl (ze5 many) ls=allL many oY/\M=[.val (.lst false (oY.map D.int)),.val (.int many),.val (.lst true (ls.map lsD)),s3]) ?_ ?_ _ _ ⟨oY,[[]],.un,rfl,rfl,rfl⟩
 .rintro x ds M E' hn hc hr hb ⟨oZ,ls,s3,e1,e2,rfl⟩;cases oZ with
  |nil=>cases e1
  |cons h oZ=>
   rw[YAb]at e1;injection e1 with e1 e3
   subst e1;have l1:=znf many (h::oZ) ls;rw[e2]at l1;have l2:=ziH many ls h;refine⟨by rw[YAc];omega,zcP lsD (λl=>if l.length<many then some (lsD (l++[h]))else none) ls [] (λl hl qe N y=>?_) ?_⟩
   .show if decide ((((l.map D.int).length:Nat):Int)<(many:Int))=true then _ else _;rw[YAc];by_cases z:l.length<many
    .rw[YAH (by omega),if_pos rfl];rw[if_pos z]at y;refine⟨by show 1<=100000;decide,by rw[YAc];show _+1<=_;omega,?_⟩;unfold lsD at y;rw[YAy]at y;exact y
    .rw[YAN (by omega),if_neg YAA];rw[if_neg z]at y;exact y
   .rw[YBs];have e4:ls.filterMap (λl=>if l.length<many then some (lsD (l++[h]))else none)=((ls.filter λl=>decide (l.length<many)).map (·++[h])).map lsD:=by
     rw[YAK];clear e2 l1 l2
     induction ls with
     |nil=>rfl
     |cons l ls ih=>
      by_cases z:l.length<many
      .rw[YA1,if_pos z,YBo,if_pos (YAH z),YAb,ih];rfl
      .rw[YA1,if_neg z,YBo,if_neg (by simp[z]),ih]
    rw[e4];refine⟨?_,?_⟩
    .show(ls.map lsD).length+_<=100000;unfold ze5 at l2;rw[YAq,YAc]at l2;rw[YAc,YAc,YAc];omega
    .refine hn _ ⟨oZ,ze5 many ls h,.val (.int h),e3,e2,?_⟩;unfold ze5;rw[YAy];rfl
 .rintro M ⟨oZ,ls,s3,e1,e2,rfl⟩;cases oZ with
  |cons h oZ=>cases e1
  |nil=>
   have e2:ls=allL many oY:=e2;subst e2;refine⟨by rw[YAc];omega,zaW lsD (λl=>prP true (keyL l)) _ (λl hl qe N y=>⟨by show 2<=100000;decide,?_⟩) ?_⟩
   .have:(((l.map D.int).length:Nat):Int)=l.length:=by rw[YAc]
    unfold prP keyL at y;rw[<-this]at y;exact y
   refine⟨true,(allL many oY).map keyL,by rw[YAK];rfl,by rw[YAc];exact hfew,?_,λqs pm=>?_⟩
   .intro x hx;obtain⟨l,_,rfl⟩:=YAF.mp hx;rfl
   .have hlen:=pm.length_eq;rw[YAc]at hlen;refine⟨by rw[YAc];omega,zaW (prP true) (λq=>lsD q.2) qs (λq hq qe N y=>⟨rfl,y⟩) ?_⟩;refine⟨qs.map (·.2),by rw[YAK];rfl,?_⟩
    have:=pm.map (·.2)
    rw[YAK]at this;have e:(allL many oY).map ((·.2)∘keyL)=allL many oY:=List.map_id' _
    rwa[e]at this
def tMut(X:Cx)(i n:Nat)(qf:D->Bool)(u:TS):TS:=λDs Y H=>∃Ha k d,k+n<=1000/\qf d=true/\∃v,Y[i]?=some (some v)/\Sh X.K Ha H k d v/\∀H',(∀a,Ha a≠none->H' a=H a)->u Ds Y H'
def MutR(X:Cx)(i n:Nat)(qf:D->Bool)(rest sts:List Stmt):Prop:=∀{u:TS},PSs X rest u->PSs X sts (tMut X i n qf u)
def oldS:Sl->Sl
 |.val d=>.val d.old
 |_=>.un
def oldE(M:Env):Env:=M.map oldS
section
variable{X:Cx}{e ke:Expr}{pos pos' apos cpos:Pos}{i n:Nat}{qf:D->Bool}{rest sts:List Stmt}
def zq4:MutR X i 0 mNil rest rest:=λh=>zfB h λDs Y H ⟨Ha,k,d,_,_,v,h1,h2,q⟩=>q H λ_ _=>rfl
def zmZ{p:List Nat}{kv:V}(h:PE X e (zlM X.K i p))(hk:PE X ke (tC kv))(hr:MutR X i n qf rest sts)(hbase:attributeBase e "append" X.env (eval e X.env)=eval e X.env:=by rfl)
  (hfew:((backTo cpos (starEach [ke] X.env)).all (λx=>!x.1)&&(backToKw cpos (keywordEach [] X.env)).all (λx=>x.1.isSome)
   && decide (([ke]:List Expr).length+([]:List Keyword).length+(if ([]:List Keyword).isEmpty then 0 else 1)<30))=true:=by rfl)
  (hline:(apos.endLine==cpos.line)=true:=by rfl) (hs:starEach [ke] X.env=(false,eval ke X.env)::starEach [] X.env:=by rfl)
  (hsw:swapsWith (.Call (.Attribute e "append" apos) [ke] [] cpos) none pos.line X.env=pure false:=by rfl):MutR X i (n+1) (mApp p qf) rest (.Expr (.Call (.Attribute e "append" apos) [ke] [] cpos) pos::sts):=λh0=>by
 refine zfB (zam (zqb h hk hbase hfew hline hs hsw) (hr h0)) λDs Y H ⟨Ha,k,d,hkn,hm,v,h1,h2,q⟩=>?_;have hm:(leaf d p&&qf d)=true:=hm;rw[YAJ]at hm;obtain⟨a,us,m1,m2,m3,m4⟩:=h2.leaf hm.1;refine⟨v,a,us,h1,m1,m2,by omega,Ha,k+1,d,by omega,hm.2,v,h1,h2.app m2,λH' f=>q H' λb hb=>?_⟩;rw[f b hb,zaf (λz=>hb (by rw[z];exact m3))]
end
def Rel.old{c:Bk}{M:Env}{Y:St}{H G:Hp}(r:Rel c M Y H G){K:qg}(hk:c.K=K):Rel ⟨K,c.β,H,G⟩ (oldE M) Y H G:=by
 refine⟨by unfold oldE;rw[YAc];exact r.len,Stp.refl r.gh r.bx,λj s e=>?_,λj k a xs ys e1 _ _ _=>?_⟩
 .unfold oldE at e;rw[YAo]at e;cases h:M[j]? with
  |none=>rw[h]at e;cases e
  |some s0=>
   rw[h]at e;have e:oldS s0=s:=Option.some.inj e;subst e;cases s0 with
   |un=>trivial
   |own xs=>trivial
   |val d=>
    obtain⟨v,h1,h2⟩:=r.slot j _ h;exact⟨v,h1,Rep.hand (c:=c) (c':=⟨K,c.β,H,G⟩) hk rfl h2⟩
 .unfold oldE at e1;rw[YAo]at e1;cases h:M[j]? with
  |none=>rw[h]at e1;cases e1
  |some s0=>rw[h]at e1;cases s0<;>cases e1
section
variable{X:Cx}{c:Bk}{e te te0 te2 ey:Expr}{es:List Expr}{pos pos0 pos2 p p1 p2 p3 p4 p5 p6 p7 q4 q5:Pos}{n:Nat}{qf:D->Bool}{rest sts:List Stmt}
@[reducible] def zpO(i j n:Nat)(F:Fn)(R:WL)(C C0 C2:WT)(qe:WE)(qf:D->Bool)(B:WS):WS:=λE M=>R M λds=>ds.length=n/\up F ds λd=>i<M.length/\C (M.set i (.val d)) λb=>if b=true then E.rt (.bl false)else C0 (M.set i (.val d)) λb=>if b=true then(qf d=true/\C2 (M.set i (.val d)) λb=>if b=true then E.rt (.bl false)else qe (oldE (M.set i (.val d))) λy=>newB y=true/\B E ((M.set i .un).set j (.val y)))else E.nx (M.set i (.val d))
def zrv(i j:Nat){x f y:Str}{k m nn tk tk2:Nat}{ps:List Str}{F:Fn}{R:WL}{C C0 C2:WT}{qe:WE}{B:WS}(Cf:Cal X.prog X.w X.K X.mg X.base f k ps (spD X.K m F))(hR:DA X c (e::es) R)(hC:DT X c te C)(hC0:DT X c te0 C0)(hC2:DT X c te2 C2)(hY:∀ β H G,DE X ⟨X.K,β,H,G⟩ ey qe)(hM:MutR X i nn qf rest sts)(hB:DSs X c rest B)(hnn:nn<=1000:=by decide)(hij:i≠j:=by decide)
  (hi:X.N[i]?=some x:=by rfl) (hx:Loc X.env.scope x:=by first|exact Or.inl rfl|exact Or.inr rfl) (hsw:swapsWith (.Call (.Name f p) (e::es) [] p1) (some (.Name x p2)) p3.line X.env=pure false:=by rfl) (hf:X.fn x=true\/X.env.scope.names.lookup x=some .local:=by first|exact .inl rfl|exact .inr rfl|assumption) (hN:X.N.Nodup:=by decreasing_trivial)
  (hj:X.N[j]?=some y:=by rfl) (hy:Loc X.env.scope y:=by first|exact Or.inl rfl|exact Or.inr rfl) (hsw2:swapsWith ey (some (.Name y q4)) q5.line X.env=pure false:=by rfl) (hfy:X.fn y=true\/X.env.scope.names.lookup y=some .local:=by first|exact .inl rfl|exact .inr rfl|assumption)
  (hg:Gl X f:=by rfl) (hdb:(f==("__debug__":Str))=false:=by decide) (he:starEach (e::es) X.env=(false,eval e X.env)::starEach es X.env:=by rfl) (hpl:(backTo p1 (starEach es X.env)).any (·.1)=false:=by rfl) (hK:c.K=X.K:=by rfl) (hr:Room k X.A:=by decreasing_trivial) :
  DSs X c [.Assign [.Name x p2] (.Call (.Name f p) (e::es) [] p1) p3,.If te [.Return (some (.Constant (.bool false) tk p4)) p5] [] pos,.If te0 (.If te2 [.Return (some (.Constant (.bool false) tk2 p6)) p7] [] pos2::.Assign [.Name y q4] ey q5::sts) [] pos0] (zpO i j m F R C C0 C2 qe qf B)where
 mono:=λE E' M l q=>hR.mono M _ _ (λds z=>⟨z.1,zhq F ds _ _ (λd z=>⟨z.1,hC.mono _ _ _ (λb z=>by
  cases b
  .refine hC0.mono _ _ _ (λb z=>?_) z;cases b
   .exact l.nx _ z
   .refine⟨z.1,hC2.mono _ _ _ (λb z=>?_) z.2⟩;cases b
    .exact(hY c.β (λ_=>none) (λ_=>none)).mono _ _ _ (λy z=>⟨z.1,hB.mono _ _ _ l z.2⟩) z
    .exact l.rt _ z
  .exact l.rt _ z) z.2⟩) z.2⟩) q
 pss:=by
  obtain⟨fa,fd,FO,hm,hk,hb⟩:=Cf.ex;have PY:PE X ey λY H Q=>∃ β H0 G0,tD ⟨X.K,β,H0,G0⟩ qe Y H Q:=λO s Y H Q I ⟨β,H0,G0,z⟩=>(hY β H0 G0).pe O s Y H Q I z;refine zfB (zam (zbn hN hi hx (zhy FO hr hg hm hk hb .nil zot hR.pa hdb he hpl) hsw hf) (zam (zeu hC.pt (zaA (zbI zo2)) zbL) (zaA (zeu hC0.pt (zam (zeu hC2.pt (zaA (zbI zo2)) zbL) (zam (zbn hN hj hy PY hsw2 hfy) (hM hB.pss))) zbL)))) λDs Y H ⟨M,G,r,q⟩=>⟨M,G,r,hR.mono M _ _ (λds z vs Ha Ga t ev=>?_) q⟩;show spD X.K m F (vs++[]) Ha _ E0;rw[YAR];have ra:=r.step t;refine⟨c.β,Ga,ds,t.gh,t.bx,Reps.back (c':=c) (c:=⟨X.K,c.β,λ_=>none,Ga⟩) hK rfl (λ_ _=>rfl) ev,by rw[<-ev.length];exact z.1,zhq F ds _ _ (λd z v H2 G2 t2 e2=>?_) z.2⟩;obtain⟨hil,z⟩:=z;rw[r.len]at hil;have r2:=(ra.step t2).put (i:=i) (Rep.back (c':=⟨X.K,c.β,Ha,Ga⟩) (c:=c) hK.symm rfl (λa h=>ra.new0 h) e2);refine⟨M.set i (.val d),G2,r2,hC.mono _ _ _ (λb z H3 G3 t3=>?_) z⟩;cases b with
  |true=>exact z (.bl false) H3 G3 ((ra.stp.trans t2).trans t3) rfl
  |false=>
   have r3:=r2.step t3;refine⟨M.set i (.val d),G3,r3,hC0.mono _ _ _ (λb z H4 G4 t4=>?_) z⟩;cases b with
   |false=>exact z _ H4 G4 (r3.step t4) (((t.gg.trans t2.gg).trans t3.gg).trans t4.gg)
   |true=>
    obtain⟨hMd,z⟩:=z;have r4:=r3.step t4;refine⟨M.set i (.val d),G4,r4,hC2.mono _ _ _ (λb z H5 G5 t5=>?_) z⟩;cases b with
    |true=>exact z (.bl false) H5 G5 ((((ra.stp.trans t2).trans t3).trans t4).trans t5) rfl
    |false=>
     have r5:=r4.step t5;refine⟨c.β,H5,G5,oldE (M.set i (.val d)),G5,r5.old hK,(hY c.β H5 G5).mono _ _ _ (λy z v2 H6 G6 t6 e6=>?_) z⟩;have t25:=((t2.trans t3).trans t4).trans t5;have e5:=e2.mono ((t3.trans t4).trans t5).gg;have hσ:((Y.set i (some v)).set j (some v2))[i]?=some (some v):=by rw[YAD (Ne.symm hij),YAI hil]
     refine⟨zii Ha H5 H6,0,d,by omega,hMd,v,hσ,Sh.of (c:=⟨X.K,c.β,zii Ha H5 H6,Ga⟩) (G:=G6) t6.gh ((Rep.retag (c:=⟨X.K,c.β,Ha,Ga⟩) (c':=⟨X.K,c.β,zii Ha H5 H6,Ga⟩) rfl rfl (λa o h1 h2=>zla h2 (by rw[t5.gh _ _ h1];simp) (t6.gh _ _ (t6.gg _ _ h1))) e5).mono t6.gg),λH7 fz=>?_⟩;have st:=zn2 ra.gh ra.bx t25 t6 fz;have hG:Same G (keepG Ga G6 H5):=t.gg.trans st.gg;exact⟨(M.set i .un).set j (.val y),keepG Ga G6 H5,((ra.step st).unset i v).put (Rep.kept (c:=⟨X.K,c.β,H5,G5⟩) (c':=c) hK.symm rfl (t25.trans t6).gg (λa h=>h) (λa h=>ra.new0 (t25.free h)) z.1 e6),hB.mono _ _ _ (zfR hG) z.2⟩
end
noncomputable def zaV:Fn:=fnW 9 ((seqW (ifS (orT (notT (truW (isiW "tuple" (vW 5)))) (orT (blW (binW neD (zdp 5) (kW (.int 3)))) (notT (truW (zas 2 zaU (zab (ixvW 5 (kW (.int 0))) (zab (zdp 1) nilA))))))) (retW (kW (.bl false))) nilS)
  (seqW (asgW (.nm 6) (valW (zaQ [none,none] (zipI (vW 1) (ixvW 5 (kW (.int 0)))) (.tp 2 (.cons (.nm 0) (.cons (.nm 1) .nil))) noIf (binW addD (slW (vW 0) noO (ze1 (kW (.int 2)))) (tupW (zab (vW 1) (zab (ixvW 0 (kW (.int 3))) nilA)))))))
  (seqW (ifS (notT (truW (cbW allF (zab (valW (zaQ [none,some 0,some 6,some 2] (seqI (slW (vW 5) (ze1 (kW (.int 1))) noO)) (.nm 0) noIf (zas 4 zaZ (zab (vW 1) (zab (vW 2) (zab (vW 3) (zab (vW 0) nilA))))))) nilA)))) (retW (kW (.bl false))) nilS)
  (seqW (asgW (.tp 2 (.cons (.nm 7) (.cons (.nm 8) .nil))) (valW (zaQ [none,some 4,some 3] (seqI (slW (vW 5) (ze1 (kW (.int 1))) noO)) (.nm 0) noIf (binW subD (binW ixD (ixvW 0 (kW (.int 1))) (vW 1)) (binW ixD (ixvW 0 (kW (.int 1))) (vW 2))))))
  (retW (andW (binW neD (vW 7) (vW 8)) (binW eqD (binW ixD (zas 5 zfA (zab (vW 0) (zab (vW 6) (zab (vW 2) (zab (vW 3) (zab (vW 4) nilA)))))) (kW (.int 0))) (kW (.str "open"))))))))))
noncomputable def zec:WS:=(seqW (asgW (.tp 4 (.cons (.nm 2) (.cons (.nm 3) (.cons (.nm 4) (.cons (.nm 5) .nil))))) (zas 4 zbz (zab (vW 1) (zab (kW (.int 12)) (zab (binW ixD (valW (lstW (zab (kW (.int 10)) (zab (kW (.int 4)) nilA)))) (zas 2 zah (zab (vW 1) (zab (kW (.int 2)) nilA)))) (zab (binW ixD (valW (lstW (zab (kW (.int 40)) (zab (kW (.int 10)) nilA)))) (zas 2 zah (zab (vW 1) (zab (kW (.int 2)) nilA)))) nilA))))))
  (seqW (asgW (.nm 6) (zas 2 zah (zab (vW 1) (zab (kW (.int 4)) nilA))))
  (seqW (forW (zew (kW (.int 2))) (.nm 7) (seqW (asgW (.nm 8) (zas 2 zah (zab (vW 1) (zab (vW 2) nilA))))
  (seqW (asgW (.nm 9) (zas 2 zah (zab (vW 1) (zab (vW 2) nilA))))
  (seqW (asgW (.nm 10) (kW (.bl false)))
  (seqW (forW (seqI (zas 2 zbk (zab (zas 1 za9 (zab (vW 3) nilA)) (zab (binW mulD (kW (.int 2)) (vW 6)) nilA)))) (.nm 11) (seqW (asgW (.nm 12) (zas 2 zbm (zab (vW 2) (zab (zas 2 zbj (zab (vW 3) (zab (vW 11) nilA))) nilA))))
  (asgW (.nm 10) (orW (vW 10) (binW neD (ixvW 12 (vW 8)) (ixvW 12 (vW 9)))))))
  (seqW (asgW (.nm 13) (valW (zbV (vW 3))))
  (zpO 14 15 5 ziT (zab (vW 2) (zab (vW 13) (zab (vW 6) (zab (vW 8) (zab (vW 9) nilA))))) (orT (blW (binW neD (zgj (vW 14)) (vW 10))) (blW (binW neD (vW 13) (vW 3)))) (blW (zgj (vW 14))) (notT (truW (zas 6 zaV (zab (vW 2) (zab (vW 3) (zab (vW 6) (zab (vW 8) (zab (vW 9) (zab (vW 14) nilA))))))))) (binW addD (tupW (zab (valW (zbV (ixvW 14 (kW (.int 0))))) nilA)) (cbW zdu (zab (valW (zaQ [none] (seqI (slW (vW 14) (ze1 (kW (.int 1))) noO)) (.nm 0) noIf (tupW (zab (valW (zbV (ixvW 0 (kW (.int 0))))) (zab (valW (zbV (ixvW 0 (kW (.int 1))))) nilA))))) nilA))) (mApp [0] (mApp [1,1] (mApp [2,0] mNil)))
  (ifS (notT (truW (zas 2 (zbi 6) (zab (zas 5 ziT (zab (vW 2) (zab (vW 13) (zab (vW 6) (zab (vW 8) (zab (vW 9) nilA)))))) (zab (vW 15) nilA))))) (retW (kW (.bl false))) nilS))))))))
  (retW (kW (.bl true))))))
def zqn{n:Nat}{h h':List Int}(a:h.length=n)(b:h'.length=n)(k:∀m:Nat,m<n->Fen.gI h m=Fen.gI h' m):h=h':=by
 refine YCo (by omega) λi h1 h2=>?_
 have:=k i (by omega)
 unfold Fen.gI at this;rw[YAs,YAs,YAE,YAe h1,YAe h2]at this;exact this
def zmC{n:Nat}{rs:List Rn}{mark:Int}{h x y:List Int}(a:LiftOk n rs mark h x)(b:LiftOk n rs mark h y):x=y:=by
 refine zqn a.len b.len λm hm=>?_;by_cases z:Fen.Conn rs mark m
 .rw[a.yes m (by omega) (by omega) z,b.yes m (by omega) (by omega) z]
 .rw[a.no m (by omega) (by omega) z,b.no m (by omega) (by omega) z]
def zdC(l:List Int)(many:Nat)(h':List Int)(r:Rn):Int:=if (l.take many).contains r.hand=true then Fen.gI h' r.oW-Fen.gI h' r.one else 0
def foeD(l:List Int)(many n:Nat)(h':List Int)(rs:List Rn):D:=.tup [lsD (rs.map (zdC l many h')),.tup [lsD (l.take many),lsD (List.replicate n 0)],.tup [lsD (l.drop many),lsD h']]
structure FoeIs(n:Nat)(rs:List Rn)(many:Nat)(one oW:Int)(l h':List Int):Prop where
 part:PartAt rs (cntR (2*(many:Int)) rs) one oW l
 lift:LiftOk n (zaC rs l) oW (List.replicate n 0) h'
 small:l.length<=2*many/\l.Pairwise (·<·)/\∀h∈l,h∈zaj rs
def zm6(a:Bool)(n:Nat)(rs:List Rn)(many:Nat)(one oW:Int)(F:Few n rs)(hm:many<=5)(o0:0<=one)(o1:one<n)(p0:0<=oW)(p1:oW<n) :
  ziT [.int n,.lst a (rs.map runD),.int many,.int one,.int oW] (λd=>(d=.non/\zl6 rs (cntR (2*(many:Int)) rs) one oW)\/∃l h',FoeIs n rs many one oW l h'/\d=foeD l many n h' rs):=by
 have hl:=F.len;have hn:=F.n1;unfold ziT fnW zaM;rw[YAb,YAb,YAb,YAb,YAb,zaP,zap,zap,zap,zap];refine⟨.inl ⟨by omega,by omega⟩,rfl,zaT (zjG _ n rs (2*(many:Int)) one oW F (by omega) (by omega) o0 o1) λd hd=>?_⟩;rcases hd with⟨rfl,no⟩|⟨l,rfl,pa⟩
 .exact .inl ⟨rfl,no⟩
 have lsm:l.length<=2*many/\l.Pairwise (·<·)/\∀h∈l,h∈zaj rs:=by
  obtain⟨j,hj,_,done,oZ,e,_⟩:=pa.ex;obtain⟨q1,q2,q3⟩:=mem_lists.mp (show l∈zaD (zaj rs) j by rw[e];simp);refine⟨?_,q2,q3⟩;unfold cntR at hj;split at hj<;>omega
 have hll:l.length<=10:=by
  obtain⟨j,hj,_,done,oZ,e,_⟩:=pa.ex;obtain⟨q1,q2,q3⟩:=mem_lists.mp (show l∈zaD (zaj rs) j by rw[e];simp)
  have:=L2.zaX (zem q2) q3
  have:=F.oY
  omega
 refine⟨by show 2<=100000;decide,rfl,by show 1<=100000;decide,⟨by omega,by omega,by show 1<=1000;decide⟩,?_⟩;have e2:(List.replicate (n:Int).toNat [D.int 0]).flatten=(List.replicate n (0:Int)).map D.int:=by
  rw[YAE,YDr];clear hn p1 o1 pa hl F
  induction n with
  |zero=>rfl
  |succ n ih=>rw[YAV,YBj,ih,YAV];rfl
 show gD (.nm 8) (.lst true (List.replicate (n:Int).toNat [D.int 0]).flatten) _ _;rw[e2];refine⟨rfl,zaT (zfd false true rs l (by omega)) λd hd=>?_⟩;subst hd;have ll:=zct rs l;refine⟨rfl,zaT (zgQ true true n (zaC rs l) (List.replicate n 0) oW (F.left l) (by omega) (by omega) (by simp) p0 p1) λd ⟨h',hd,lo⟩=>?_⟩;subst hd;have ecut:cutD (l.map D.int) none (some (many:Int))=(l.take many).map D.int:=by rw[zmi,List.map_take]
 refine⟨by rw[YAc];omega,zaW runD (λr=>.int (if (l.take many).contains r.hand=true then Fen.gI h' r.oW-Fen.gI h' r.one else 0)) rs (λr hr qe N y=>⟨rfl,?_⟩) ?_⟩
 .obtain⟨a1,a2,a3,a4⟩:=F.marks r hr;have hl':=lo.len;refine⟨by rw[ecut];exact zcA _ _,?_⟩;show if inB (.int r.hand) (cutD (l.map D.int) none (some (many:Int)))=true then _ else _;rw[ecut,zcM];cases z:(l.take many).contains r.hand with
  |true=>
   rw[if_pos rfl];refine zaJ a3 (by omega) (zaJ a1 (by omega) ?_);rw[if_pos z]at y;exact y
  |false=>
   rw[if_neg (by rw[z];decide)]at y;exact y
 .refine⟨by show 2<=100000;decide,by show 2<=100000;decide,by show 3<=100000;decide,.inr ⟨l,h',⟨pa,lo,lsm⟩,?_⟩⟩;unfold foeD lsD;rw[zmi,zmA,List.map_take,List.map_drop,YAK];rfl
def rowF(l:List Int)(many:Nat)(h':List Int)(r:Rn):Rn:={r with rise:=zdC l many h' r}
def zbx(l:List Int)(many:Nat)(h':List Int)(rs:List Rn):List Rn:=rs.map (rowF l many h')
section
variable{n:Nat}{rs:List Rn}{many:Nat}{one oW:Int}{l h':List Int}
def zdE:zaj (zbx l many h' rs)=zaj rs:=by
 unfold zaj zbx;rw[YAK];rfl
def zh4(F:Few2 n rs):Few2 n (zbx l many h' rs):=by
 have mem:∀r∈zbx l many h' rs,∃r0∈rs,r=rowF l many h' r0:=λr hr=>by
  obtain⟨r0,h0,e⟩:=YAF.mp hr;exact⟨r0,h0,e.symm⟩
 refine{marks:=λr hr=>?_,n1:=F.n1,len:=by unfold zbx;rw[YAc];exact F.len,oY:=by rw[zdE];exact F.oY,apart:=λr hr=>?_}
 .obtain⟨r0,h0,rfl⟩:=mem r hr;exact F.marks r0 h0
 .obtain⟨r0,h0,rfl⟩:=mem r hr;exact F.apart r0 h0
def zmy(m:Int):cntR m (zbx l many h' rs)=cntR m rs:=by unfold cntR;rw[zdE]
def zgw{fs:List Int}{r:Rn}(hr:r∈zaC (zbx l many h' rs) fs):∃r0∈rs,r=rowF l many h' r0/\fs.contains r0.hand=false:=by
 obtain⟨h1,h2⟩:=YBa.mp hr;obtain⟨r0,h0,rfl⟩:=YAF.mp h1;have h2:(!fs.contains r0.hand)=true:=h2;exact⟨r0,h0,rfl,by simpa using h2⟩
def zbX(i:Int):Fen.gI (List.replicate n 0) i=0:=by
 unfold Fen.gI;rw[YAs,YBD];split<;>rfl
def fit1:∀r∈zaC (zbx l many h' rs) (l.take many),Fen.gI (List.replicate n 0) r.oW-Fen.gI (List.replicate n 0) r.one=r.rise:=λr hr=>by
 obtain⟨r0,h0,rfl,hc⟩:=zgw hr;rw[zbX,zbX];show _=zdC l many h' r0;unfold zdC;rw[hc,if_neg (by decide)];rfl
def fit2(F:Few n rs)(A:FoeIs n rs many one oW l h'):∀r∈zaC (zbx l many h' rs) (l.drop many),Fen.gI h' r.oW-Fen.gI h' r.one=r.rise:=λr hr=>by
 obtain⟨r0,h0,rfl,hc⟩:=zgw hr;show Fen.gI h' r0.oW-Fen.gI h' r0.one=zdC l many h' r0;unfold zdC;split
 .rfl
 .rename_i ht
  have hl:r0∈zaC rs l:=YBa.mpr ⟨h0,by
   have:l.contains r0.hand=false:=by
    rw[<-YBb many l];cases z:(l.take many++l.drop many).contains r0.hand with
    |false=>rfl
    |true=>
     rcases YAk.mp (YBn.mp z)with y|y
     .exact absurd (YBn.mpr y) ht
     .rw[YBn.mpr y]at hc;cases hc
   rw[this];rfl⟩
  obtain⟨a,b,c,d⟩:=F.marks r0 h0;by_cases z:Fen.Conn (zaC rs l) oW r0.one
  .rw[A.lift.yes _ a b z,A.lift.yes _ c d (z.trans (Fen.Conn.edge hl)),zbX,zbX];rfl
  .rw[A.lift.no _ a b z,A.lift.no _ c d (λy=>z (y.trans (Fen.Conn.edge' hl))),zbX,zbX];rfl
def znn{fs:List Int}{f:Int->Int}(hl:(fs.length:Int)<=many)(up:fs.Pairwise (·<·))(hh:∀h∈fs,h∈zaj rs)(fit:∀r∈zaC (zbx l many h' rs) fs,f r.oW-f r.one=r.rise):Rdg (zbx l many h' rs) (cntR many (zbx l many h' rs)) fs f:=by
 refine⟨mem_sets.mpr ⟨⟨fs.length,?_,mem_lists.mpr ⟨rfl,up,by rw[zdE];exact hh⟩⟩,hasH_t.mpr λno=>no f fit⟩,fit⟩;rw[zmy]
 have:=L2.zaX (zem up) hh
 unfold cntR;split<;>omega
def FoeIs.r1(A:FoeIs n rs many one oW l h'):Rdg (zbx l many h' rs) (cntR many (zbx l many h' rs)) (l.take many) (Fen.gI (List.replicate n 0)):=
 znn (by rw[YA8];omega) (A.small.2.1.sublist (List.take_sublist _ _)) (λh hh=>A.small.2.2 h (YCa hh)) fit1
def FoeIs.r2(F:Few n rs)(A:FoeIs n rs many one oW l h'):Rdg (zbx l many h' rs) (cntR many (zbx l many h' rs)) (l.drop many) (Fen.gI h'):=
 znn (by have:=A.small.1;rw[YBf];omega) (A.small.2.1.sublist (YDI _ _)) (λh hh=>A.small.2.2 h (YCB hh)) (fit2 F A)
def FoeIs.rise(A:FoeIs n rs many one oW l h')(o0:0<=one)(o1:one<n)(p0:0<=oW)(p1:oW<n):Fen.gI h' oW-Fen.gI h' one=1:=by
 rw[A.lift.yes _ p0 p1 (Fen.Conn.refl _),A.lift.no _ o0 o1 (λz=>A.part.cut z.symm),zbX,zbX];rfl
theorem FoeIs.open(F:Few n rs)(A:FoeIs n rs many one oW l h')(o0:0<=one)(o1:one<n)(p0:0<=oW)(p1:oW<n){d:D}(T:zoK n (zbx l many h' rs) many one oW d):∃p q,d=.tup [.str "open",p,q]:=by
 rcases T with T|⟨r,T⟩|T
 .have:=A.r1.mem
  rw[T.emp]at this;cases this
 .have a:=T.all _ _ A.r1;have b:=T.all _ _ (A.r2 F);rw[zbX,zbX]at a;rw[A.rise o0 o1 p0 p1]at b;omega
 .obtain⟨_,_,_,_,e,_⟩:=T.ex;exact⟨_,_,e⟩
end
section
variable{n:Nat}{rs:List Rn}{many:Nat}{one oW:Int}{l h':List Int}
def zlG:D.old (foeD l many n h' rs)=.tup [.lst false ((rs.map (zdC l many h')).map D.int),.tup [.lst false ((l.take many).map D.int),.lst false ((List.replicate n 0).map D.int)],.tup [.lst false ((l.drop many).map D.int),.lst false (h'.map D.int)]]:=by
 unfold foeD lsD;rw[D.old];show D.tup [_,_,_]=_;rw[za3,ze9,ze9,za3,za3,za3,za3]
theorem zkx(g:Rn->Int):∀rs:List Rn,zipL (rs.map runD) ((rs.map g).map D.int)=rs.map λr=>.tup [runD r,.int (g r)]
 |[]=>rfl
 |r::rs=>by
  rw[YAb,YAb,YAb,YAb,zipL,zkx g rs]
def zeq{i:Nat}{M:Env}{d k:D}{Q:D->Prop}(h:M[i]?=some (.val d))(q:ixD d k Q):ixvW i (kW k) M Q:=by unfold ixvW;rw[h];exact q
def zg6{x:D}{r:List D}{Q:D->Prop}(q:Q x):ixD (.tup (x::r)) (.int 0) Q:=by show itD (x::r) (.int 0) Q;exact zjU q
def zjk{x y:D}{r:List D}{Q:D->Prop}(q:Q y):ixD (.tup (x::y::r)) (.int 1) Q:=by
 show(match atI (x::y::r) 1 with|some d=>Q d|none=>False);have e:atI (x::y::r) 1=some y:=by unfold atI ixN;rw[if_pos (by decide),if_pos (by simp;omega)];rfl
 rw[e];exact q
def zn4{i j:Nat}{M:Env}{a b:Bool}{xs ys r:List D}{Q:List D->Prop}(h1:M[i]?=some (.val (.lst a xs)))(h2:M[j]?=some (.val (.tup (.lst b ys::r))))(q:Q (zipL xs ys)):zipI (vW i) (ixvW j (kW (.int 0))) M Q:=by
 show vW i M _;unfold vW;rw[h1];exact zeq h2 (zg6 q)
noncomputable def bk3:WS:=(seqW (asgW (.tp 2 (.cons (.nm 7) (.cons (.nm 8) .nil))) (valW (zaQ [none,some 4,some 3] (seqI (slW (vW 5) (ze1 (kW (.int 1))) noO)) (.nm 0) noIf (binW subD (binW ixD (ixvW 0 (kW (.int 1))) (vW 1)) (binW ixD (ixvW 0 (kW (.int 1))) (vW 2))))))
  (retW (andW (binW neD (vW 7) (vW 8)) (binW eqD (binW ixD (zas 5 zfA (zab (vW 0) (zab (vW 6) (zab (vW 2) (zab (vW 3) (zab (vW 4) nilA)))))) (kW (.int 0))) (kW (.str "open"))))))
def bk2:WS:=(seqW (ifS (notT (truW (cbW allF (zab (valW (zaQ [none,some 0,some 6,some 2] (seqI (slW (vW 5) (ze1 (kW (.int 1))) noO)) (.nm 0) noIf (zas 4 zaZ (zab (vW 1) (zab (vW 2) (zab (vW 3) (zab (vW 0) nilA))))))) nilA)))) (retW (kW (.bl false))) nilS) bk3)
noncomputable def bkE(n:Nat)(rs:List Rn)(many:Nat)(one oW:Int)(l h':List Int)(s6 s7 s8:Sl):Env:=[.val (.int n),.val (.lst false (rs.map runD)),.val (.int many),.val (.int one),.val (.int oW),.val (.tup [.lst false ((rs.map (zdC l many h')).map D.int),.tup [.lst false ((l.take many).map D.int),.lst false ((List.replicate n 0).map D.int)],.tup [.lst false ((l.drop many).map D.int),.lst false (h'.map D.int)]]),s6,s7,s8]
def pF(p:List Int×List Int):D:=.tup [.lst false (p.1.map D.int),.lst false (p.2.map D.int)]
def zlJ{fs hs:List Int}(R:Rdg (zbx l many h' rs) (cntR many (zbx l many h' rs)) fs (Fen.gI hs))(hl:fs.length<=many)(hh:hs.length=n):zhI n (zbx l many h' rs) many fs hs=true:=by
 obtain⟨⟨j,_,hm⟩,_⟩:=mem_sets.mp R.mem;obtain⟨_,m2,m3⟩:=mem_lists.mp hm;unfold zhI;have e:(zaC (zbx l many h' rs) fs).all (zgf hs)=true:=YCl.mpr λr hr=>YAH (R.fit r hr);rw[(zek fs).mpr m2,YAH (by omega),YAH (by omega),YCl.mpr λh hh=>YBn.mpr (m3 h hh),e];rfl
def zrO{E:En}(F:Few2 n rs)(hm:many<=5)(A:FoeIs n rs many one oW l h')(o0:0<=one)(o1:one<n)(p0:0<=oW)(p1:oW<n)(q:E.rt (.bl true)):bk3 E (bkE n rs many one oW l h' (.val (.lst true ((zbx l many h' rs).map runD))) .un .un):=by
 have hlen:=A.lift.len;have F':=zh4 (l:=l) (many:=many) (h':=h') F;have go:zbw (.nm 0) noIf (binW subD (binW ixD (ixvW 0 (kW (.int 1))) (vW 1)) (binW ixD (ixvW 0 (kW (.int 1))) (vW 2))) [.un,.val (.int oW),.val (.int one)] (λxs=>gD (.tp 2 (.cons (.nm 7) (.cons (.nm 8) .nil))) (.lst true xs) (bkE n rs many one oW l h' (.val (.lst true ((zbx l many h' rs).map runD))) .un .un) λM=>retW (andW (binW neD (vW 7) (vW 8)) (binW eqD (binW ixD (zas 5 zfA (zab (vW 0) (zab (vW 6) (zab (vW 2) (zab (vW 3) (zab (vW 4) nilA)))))) (kW (.int 0))) (kW (.str "open")))) E M) ([(l.take many,List.replicate n 0),(l.drop many,h')].map pF) []:=by
  refine zaW pF (λp=>.int (Fen.gI p.2 oW-Fen.gI p.2 one)) _ (λp hp qe N y=>?_) ?_
  .have hp2:p.2.length=n:=by
    rcases YAn.mp hp with rfl|hp
    .simp
    .rw[YAg.mp hp];exact hlen
   have g2:∀Q:D->Prop,Q (.int (Fen.gI p.2 one))->binW ixD (ixvW 0 (kW (.int 1))) (vW 2) [.val (pF p),.val (.int oW),.val (.int one)] Q:=λQ q=>zeq (d:=pF p) rfl (by unfold pF;exact zjk (zaJ (hs:=p.2) o0 (by omega) q));have g1:∀Q:D->Prop,Q (.int (Fen.gI p.2 oW))->binW ixD (ixvW 0 (kW (.int 1))) (vW 1) [.val (pF p),.val (.int oW),.val (.int one)] Q:=λQ q=>zeq (d:=pF p) rfl (by unfold pF;exact zjk (zaJ (hs:=p.2) p0 (by omega) q));have g:binW subD (binW ixD (ixvW 0 (kW (.int 1))) (vW 1)) (binW ixD (ixvW 0 (kW (.int 1))) (vW 2)) [.val (pF p),.val (.int oW),.val (.int one)] qe:=g1 _ (g2 _ y);exact g
  .refine⟨rfl,za4 _ _,?_⟩;rw[zcm];show blD (.bl (!decide (Fen.gI (List.replicate n 0) oW-Fen.gI (List.replicate n 0) one=Fen.gI h' oW-Fen.gI h' one))) _;rw[zbX,zbX,A.rise o0 o1 p0 p1];refine⟨rfl,zaT (znV true n (zbx l many h' rs) many one oW F' (by omega) o0 o1 p0 p1) λd T=>?_⟩;obtain⟨x,y,rfl⟩:=A.open F.toFew o0 o1 p0 p1 T;show ixD (.tup [.str "open",x,y]) (.int 0) _;refine zg6 ⟨okOO.1,?_⟩;rw[okOO.2];exact q
 exact⟨by show 2<=100000;decide,go⟩
def zqw{E:En}(F:Few2 n rs)(hm:many<=5)(A:FoeIs n rs many one oW l h')(o0:0<=one)(o1:one<n)(p0:0<=oW)(p1:oW<n)(q:E.rt (.bl true)):bk2 E (bkE n rs many one oW l h' (.val (.lst true ((zbx l many h' rs).map runD))) .un .un):=by
 have F':=zh4 (l:=l) (many:=many) (h':=h') F;have hlen:=A.lift.len;have hn:=F.n1;have hsm:=A.small.1;refine⟨by show 2<=100000;decide,?_⟩;have go:zbw (.nm 0) noIf (zas 4 zaZ (zab (vW 1) (zab (vW 2) (zab (vW 3) (zab (vW 0) nilA))))) [.un,.val (.int n),.val (.lst true ((zbx l many h' rs).map runD)),.val (.int many)] (λxs=>allF [.lst true xs] λd=>truD d λb=>if (!b)=true then E.rt (.bl false)else bk3 E (bkE n rs many one oW l h' (.val (.lst true ((zbx l many h' rs).map runD))) .un .un)) ([(l.take many,List.replicate n 0),(l.drop many,h')].map pF) []:=by
  refine zaW pF (λ_=>.bl true) _ (λp hp qe N y=>⟨rfl,?_⟩) ?_
  .have rd:zhI n (zbx l many h' rs) many p.1 p.2=true/\p.1.length<64/\p.2.length<=1000:=by
    rcases YAn.mp hp with rfl|hp
    .exact⟨zlJ A.r1 (by rw[YA8];omega) (by simp),by simp only[YA8];omega,by simp;omega⟩
    .rw[YAg.mp hp];exact⟨zlJ (A.r2 F.toFew) (by rw[YBf];omega) hlen,by simp only[YBf];omega,by simp only;omega⟩
   refine zaT (zez true false false n many (zbx l many h' rs) p.1 p.2 F'.len rd.2.1 rd.2.2 F'.marks) λd hd=>?_;subst hd;rw[rd.1];exact y
  .refine zdj (n:=true) (f:=λ_=>true) (xs:=[(l.take many,List.replicate n 0),(l.drop many,h')]) ?_;exact zrO F hm A o0 o1 p0 p1 q
 exact go
def znF(a:Bool)(F:Few2 n rs)(hm:many<=5)(A:FoeIs n rs many one oW l h')(o0:0<=one)(o1:one<n)(p0:0<=oW)(p1:oW<n) :
  zaV [.int n,.lst a (rs.map runD),.int many,.int one,.int oW,foeD l many n h' rs] (·=.bl true):=by
 have hl:=F.len;have hn:=F.n1;unfold zaV fnW zaM;rw[YAb,YAb,YAb,YAb,YAb,YAb,zaP,zlG,zap,zap,zap,zap];refine⟨za4 _ _,?_⟩;refine⟨rfl,zaT (zbY _ (rs.map (zdC l many h')) _ (by rw[YAc];omega)) λd hd=>?_⟩;have hd:d=.bl true:=by rw[hd,YAc,YAc,YAH rfl]
 subst hd;have go:∀E:En,E.rt (.bl true)->seqW (asgW (.nm 6) (valW (zaQ [none,none] (zipI (vW 1) (ixvW 5 (kW (.int 0)))) (.tp 2 (.cons (.nm 0) (.cons (.nm 1) .nil))) noIf (binW addD (slW (vW 0) noO (ze1 (kW (.int 2)))) (tupW (zab (vW 1) (zab (ixvW 0 (kW (.int 3))) nilA))))))) bk2 E (bkE n rs many one oW l h' .un .un .un):=λE q=>by
  refine zn4 rfl rfl ?_;rw[zkx];refine⟨by rw[YAc];omega,?_⟩;refine zaW (λr:Rn=>.tup [runD r,.int (zdC l many h' r)]) (λr=>runD (rowF l many h' r)) rs (λr hr qe N y=>?_) ?_
  .exact⟨rfl,by show 2<=100000;decide,by show 4<=100000;decide,y⟩
  .have e:rs.map (λr=>runD (rowF l many h' r))=(zbx l many h' rs).map runD:=by unfold zbx;rw[YAK];rfl
   rw[e];exact zqw F hm A o0 o1 p0 p1 q
 exact go _ rfl
end
theorem zib{α:Type}{P:α->Prop}:∀{d d2 t t2:List α}{x y:α},d++x::t=d2++y::t2->(∀m∈d,P m)->(∀m∈d2,P m)->¬ P x->¬ P y->x=y
 |[],[],_,_,_,_,e,_,_,_,_=>(List.cons.inj e).1
 |[],b::d2,_,_,_,_,e,_,h2,hx,_=>absurd (h2 b YAi) (by rw[<-(List.cons.inj e).1];exact hx)
 |a::d,[],_,_,_,_,e,h1,_,_,hy=>absurd (h1 a YAi) (by rw[(List.cons.inj e).1];exact hy)
 |a::d,b::d2,_,_,_,_,e,h1,h2,hx,hy=>zib (List.cons.inj e).2 (λm hm=>h1 m (YAp _ hm)) (λm hm=>h2 m (YAp _ hm)) hx hy
def PartAt.uniq{rs:List Rn}{c:Nat}{one oW:Int}{l l2:List Int}(a:PartAt rs c one oW l)(b:PartAt rs c one oW l2):l=l2:=by
 obtain⟨j,hj,n1,d,t,e,k⟩:=a.ex;obtain⟨j2,hj2,n2,d2,t2,e2,k2⟩:=b.ex;have ej:j=j2:=by
  rcases Nat.lt_trichotomy j j2 with h|h|h
  .exact absurd (n2 j h l (by rw[e];simp)) a.cut
  .exact h
  .exact absurd (n1 j2 h l2 (by rw[e2];simp)) b.cut
 subst ej;exact zib (P:=λm=>Fen.Conn (zaC rs m) one oW) (e.symm.trans e2) k k2 a.cut b.cut
def PartAt.no{rs:List Rn}{c:Nat}{one oW:Int}{l:List Int}(a:PartAt rs c one oW l)(b:zl6 rs c one oW):False:=by
 obtain⟨j,hj,_,d,t,e,_⟩:=a.ex;exact a.cut (b j hj l (by rw[e];simp))
theorem FoeIs.uniq{n:Nat}{rs:List Rn}{many:Nat}{one oW:Int}{l h l2 h2:List Int}(a:FoeIs n rs many one oW l h)(b:FoeIs n rs many one oW l2 h2):l=l2/\h=h2:=by
 have e:=a.part.uniq b.part;subst e;exact⟨rfl,zmC a.lift b.lift⟩
def zro(l:List Int):newB (lsD l)=true:=by
 have:∀l:List Int,newB.newBs (l.map D.int)=true:=λl=>by
  induction l with
  |nil=>rfl
  |cons x xs ih=>rw[YAb,newB.newBs,ih];rfl
 unfold lsD;rw[newB,this];rfl
section
variable{n:Nat}{rs:List Rn}{many:Nat}{one oW:Int}{l h':List Int}
def zpC:newB (foeD l many n h' rs)=true:=by
 simp only[foeD,newB,newB.newBs,zro,Bool.and_true]
def zf2(l:List Int)(m:Nat)(h:l.length<=1000):za0 (lsD l) (m+1)=true:=by
 have hi:∀(xs:List Int)(m:Nat),zcb (xs.map D.int) m=true:=λxs m=>by
  induction xs with
  |nil=>rfl
  |cons x xs ih=>rw[YAb,zcb,ih];rfl
 unfold lsD;rw[za0,hi,YAc,YAH h];rfl
def zow(h1:rs.length<=1000)(h2:l.length<=1000)(h3:n<=1000)(h4:h'.length<=1000):za0 (foeD l many n h' rs) 5=true:=by
 have e1:=zf2 (rs.map (zdC l many h')) 3 (by rw[YAc];exact h1);have e2:=zf2 (l.take many) 2 (by rw[YA8];omega);have e3:=zf2 (List.replicate n 0) 2 (by rw[YCS];exact h3);have e4:=zf2 (l.drop many) 2 (by rw[YBf];omega);have e5:=zf2 h' 2 h4;show(decide (3<=1000)&&(za0 (lsD (rs.map (zdC l many h'))) 4&&((decide (2<=1000)&&(za0 (lsD (l.take many)) 3&&(za0 (lsD (List.replicate n 0)) 3&&true)))&&((decide (2<=1000)&&(za0 (lsD (l.drop many)) 3&&(za0 (lsD h') 3&&true)))&&true))))=true;rw[e1,e2,e3,e4,e5];rfl
def znz(h1:rs.length<=1000)(h2:l.length<=1000)(h3:n<=1000):mApp [0] (mApp [1,1] (mApp [2,0] mNil)) (foeD l many n h' rs)=true:=by
 show((true&&decide (((rs.map (zdC l many h')).map D.int).length<=1000))&&((true&&decide (((List.replicate n 0).map D.int).length<=1000))&&((true&&decide (((l.drop many).map D.int).length<=1000))&&true)))=true;rw[YAH (by rw[YAc,YAc];exact h1),YAH (by rw[YAc,YCS];exact h3),YAH (by rw[YAc,YBf];omega)];rfl
def Y24:WE:=binW addD (tupW (zab (valW (zbV (ixvW 14 (kW (.int 0))))) nilA)) (cbW zdu (zab (valW (zaQ [none] (seqI (slW (vW 14) (ze1 (kW (.int 1))) noO)) (.nm 0) noIf (tupW (zab (valW (zbV (ixvW 0 (kW (.int 0))))) (zab (valW (zbV (ixvW 0 (kW (.int 1))))) nilA))))) nilA))
def zqX{M:Env}{Q:D->Prop}(h:M[14]?=some (.val (D.old (foeD l many n h' rs))))(q:Q (foeD l many n h' rs)):Y24 M Q:=by
 rw[zlG]at h;have g2:cbW zdu (zab (valW (zaQ [none] (seqI (slW (vW 14) (ze1 (kW (.int 1))) noO)) (.nm 0) noIf (tupW (zab (valW (zbV (ixvW 0 (kW (.int 0))))) (zab (valW (zbV (ixvW 0 (kW (.int 1))))) nilA))))) nilA) M λy=>addD (.tup [lsD (rs.map (zdC l many h'))]) y Q:=by
  show vW 14 M _;unfold vW;rw[h];refine⟨by show 2<=100000;decide,?_⟩;have go:zbw (.nm 0) noIf (tupW (zab (valW (zbV (ixvW 0 (kW (.int 0))))) (zab (valW (zbV (ixvW 0 (kW (.int 1))))) nilA))) [.un] (λxs=>addD (.tup [lsD (rs.map (zdC l many h'))]) (.tup xs) Q) ([(l.take many,List.replicate n 0),(l.drop many,h')].map pF) []:=by
   refine zaW pF (λp=>.tup [lsD p.1,lsD p.2]) _ (λp hp qe N y=>?_) ⟨by show 3<=100000;decide,q⟩;have k1:∀Q:D->Prop,Q (lsD p.1)->valW (zbV (ixvW 0 (kW (.int 0)))) [.val (pF p)] Q:=λQ q=>zeq (d:=pF p) rfl (by unfold pF;exact zg6 q);have k2:∀Q:D->Prop,Q (lsD p.2)->valW (zbV (ixvW 0 (kW (.int 1)))) [.val (pF p)] Q:=λQ q=>zeq (d:=pF p) rfl (by unfold pF;exact zjk q);have g:tupW (zab (valW (zbV (ixvW 0 (kW (.int 0))))) (zab (valW (zbV (ixvW 0 (kW (.int 1))))) nilA)) [.val (pF p)] qe:=by
    have g0:valW (zbV (ixvW 0 (kW (.int 0)))) [.val (pF p)] λa=>valW (zbV (ixvW 0 (kW (.int 1)))) [.val (pF p)] λb=>[a,b].length<=100000/\qe (.tup [a,b]):=k1 _ (k2 _ ⟨by show 2<=100000;decide,y⟩);exact g0
   exact g
  exact go
 exact zeq h (zg6 ⟨by show 1<=100000;decide,g2⟩)
end
noncomputable def E24(n:Nat)(rs:List Rn)(hts fs:List Int)(m:Nat)(s7:Sl)(one oW:Int)(s10 s11 s12 s13 s14 s15:Sl):Env:=[.un,.val .box,.val (.int n),.val (.lst true (rs.map runD)),.val (.lst true (hts.map D.int)),.val (.lst true (fs.map D.int)),.val (.int m),s7,.val (.int one),.val (.int oW),s10,s11,s12,s13,s14,s15]
noncomputable def k24d:WS:=forW (seqI (zas 2 zbk (zab (zas 1 za9 (zab (vW 3) nilA)) (zab (binW mulD (kW (.int 2)) (vW 6)) nilA)))) (.nm 11) (seqW (asgW (.nm 12) (zas 2 zbm (zab (vW 2) (zab (zas 2 zbj (zab (vW 3) (zab (vW 11) nilA))) nilA))))
  (asgW (.nm 10) (orW (vW 10) (binW neD (ixvW 12 (vW 8)) (ixvW 12 (vW 9))))))
def zss{n:Nat}{rs:List Rn}{hts fs:List Int}{m:Nat}{one oW:Int}{E:En}{s7 s11 s12 s13 s14 s15:Sl}(F:Few2 n rs)(hm:m<4)(o0:0<=one)(o1:one<n)(p0:0<=oW)(p1:oW<n)
  (q:∀b s11 s12,(b=true↔∃l∈allL (2*m) (zaj rs),¬ Fen.Conn (zaC rs l) one oW)->E.nx (E24 n rs hts fs m s7 one oW (.val (.bl b)) s11 s12 s13 s14 s15)) :
  k24d E (E24 n rs hts fs m s7 one oW (.val (.bl false)) s11 s12 s13 s14 s15):=by
 have hl:=F.len;have n1:=F.n1;refine⟨rfl,zaT (zdr true rs hl) λd hd=>?_⟩;subst hd;have al:=zo4 (2*m) (zaj rs);have hp:2^(zaj rs).length<=2^10:=YC4 (by decide) F.oY
 have:(2:Nat)^10=1024:=by decide
 have eq:(2:Int)*(m:Int)=((2*m:Nat):Int):=by omega
 refine⟨.inl ⟨by omega,by omega⟩,rfl,?_⟩;rw[eq];refine zaT (zf9 true (zaj rs) (2*m) (by omega) (by omega)) λd hd=>?_;obtain⟨ms,rfl,pm⟩:=hd;show zbt _ _ _ (ms.map lsD) _;refine zaS (λrest M=>∃(done oZ:List (List Int))(b:Bool)(s11 s12:Sl),M=E24 n rs hts fs m s7 one oW (.val (.bl b)) s11 s12 s13 s14 s15/\rest=oZ.map lsD/\ms=done++oZ/\(b=true↔∃l∈done,¬ Fen.Conn (zaC rs l) one oW)) ?_ ?_ _ _ ⟨[],ms,false,s11,s12,rfl,rfl,rfl,by simp⟩
 .rintro x rest M E' hn' hc hr hb ⟨done,oZ,b,s11,s12,rfl,e1,e2,fi⟩;cases oZ with
  |nil=>cases e1
  |cons l oZ=>
   rw[YAb]at e1;injection e1 with e1 e3
   subst e1;have e4:ms=(done++[l])++oZ:=by rw[e2,YAB];rfl
   refine⟨rfl,zaT (zd3 true true rs l (by omega)) λd hd=>?_⟩;subst hd;have ll:=zct rs l;refine⟨rfl,zaT (zfs true n (zaC rs l) (by omega) (by omega) (F.left l)) λd ⟨lab,hd,hlab,LO⟩=>?_⟩;subst hd;have lo:=LO one oW o0 o1 p0 p1;have st:∀c:Bool,(c=true↔∃x∈done++[l],¬ Fen.Conn (zaC rs x) one oW)->E'.nx (E24 n rs hts fs m s7 one oW (.val (.bl c)) (.val (lsD l)) (.val (.lst true (lab.map D.int))) s13 s14 s15):=λc h=>hn' _ ⟨done++[l],oZ,c,_,_,rfl,e3,e4,h⟩;cases b with
   |true=>
    refine st true ⟨λ_=>?_,λ_=>rfl⟩;obtain⟨x,hx,c⟩:=fi.mp rfl;exact⟨x,YAx _ hx,c⟩
   |false=>
    have go:itD (lab.map D.int) (.int one) λx=>itD (lab.map D.int) (.int oW) λy=>neD x y λd=>E'.nx (E24 n rs hts fs m s7 one oW (.val d) (.val (lsD l)) (.val (.lst true (lab.map D.int))) s13 s14 s15):=by
     refine zaJ (hs:=lab) o0 (by omega) (zaJ (hs:=lab) p0 (by omega) ⟨za4 _ _,?_⟩);rw[zcm];refine st _ ⟨λh=>⟨l,YAl _ YAi,λc=>?_⟩,λ⟨x,hx,c⟩=>?_⟩
     .rw[YAH (lo.mpr c)]at h;cases h
     .rcases YAk.mp hx with z|z
      .exact absurd (fi.mpr ⟨x,z,c⟩) (by decide)
      .rw[YAg.mp z]at c;rw[YAN λz=>c (lo.mp z)];rfl
    exact go
 .rintro M ⟨done,oZ,b,s11,s12,rfl,e1,e2,fi⟩;cases oZ with
  |cons l oZ=>cases e1
  |nil=>
   rw[YAR]at e2;refine q b s11 s12 (fi.trans ⟨λ⟨x,hx,c⟩=>⟨x,pm.mem_iff.mp (e2▸hx),c⟩,λ⟨x,hx,c⟩=>⟨x,e2▸pm.mem_iff.mpr hx,c⟩⟩)
def in_all{rs:List Rn}{m:Nat}{l:List Int}:l∈allL (2*m) (zaj rs)↔l.length<cntR (2*(m:Int)) rs/\l∈zaD (zaj rs) l.length:=by
 have u:=zdZ rs;rw[znW,zrN u,mem_lists];constructor
 .rintro⟨⟨h1,h2⟩,h3⟩
  have:=L2.zaX (zem h1) h2
  refine⟨?_,rfl,h1,h2⟩;unfold cntR;split<;>omega
 .rintro⟨h1,_,h2,h3⟩;refine⟨⟨h2,h3⟩,?_⟩;unfold cntR at h1;split at h1<;>omega
def k24B:WS:=ifS (notT (truW (zas 2 (zbi 6) (zab (zas 5 ziT (zab (vW 2) (zab (vW 13) (zab (vW 6) (zab (vW 8) (zab (vW 9) nilA)))))) (zab (vW 15) nilA))))) (retW (kW (.bl false))) nilS
noncomputable def k24m:WS:=zpO 14 15 5 ziT (zab (vW 2) (zab (vW 13) (zab (vW 6) (zab (vW 8) (zab (vW 9) nilA))))) (orT (blW (binW neD (zgj (vW 14)) (vW 10))) (blW (binW neD (vW 13) (vW 3)))) (blW (zgj (vW 14))) (notT (truW (zas 6 zaV (zab (vW 2) (zab (vW 3) (zab (vW 6) (zab (vW 8) (zab (vW 9) (zab (vW 14) nilA))))))))) Y24 (mApp [0] (mApp [1,1] (mApp [2,0] mNil))) k24B
def zqv{n:Nat}{rs:List Rn}{hts fs:List Int}{m:Nat}{one oW:Int}{E:En}{s7 s11 s12 s14 s15:Sl}{b:Bool}(F:Few2 n rs)(hm:m<4)(o0:0<=one)(o1:one<n)(p0:0<=oW)(p1:oW<n)(hb:b=true↔∃l∈allL (2*m) (zaj rs),¬ Fen.Conn (zaC rs l) one oW)
  (q:∀s10 s11 s12 s13 s14 s15,E.nx (E24 n rs hts fs m s7 one oW s10 s11 s12 s13 s14 s15)) :
  k24m E (E24 n rs hts fs m s7 one oW (.val (.bl b)) s11 s12 (.val (.lst true (rs.map runD))) s14 s15):=by
 have hl:=F.len;have n1:=F.n1;refine⟨rfl,zaT (zm6 true n rs m one oW F.toFew (by omega) o0 o1 p0 p1) λd hd=>⟨by show 14<16;decide,zbC _ _,?_⟩⟩;rw[zry];rcases hd with⟨rfl,no⟩|⟨l,h',A,rfl⟩
 .have eb:b=false:=by
   cases b with
   |false=>rfl
   |true=>
    obtain⟨l,hl,c⟩:=hb.mp rfl;obtain⟨h1,h2⟩:=in_all.mp hl;exact absurd (no _ h1 l h2) c
  subst eb;refine⟨zi1 _ _ _ _,?_⟩;rw[zj2];exact q _ _ _ _ _ _
 .have eb:b=true:=hb.mpr ⟨l,in_all.mpr (by
   obtain⟨j,hj,_,d,t,e,_⟩:=A.part.ex;have hm:=show l∈zaD (zaj rs) j by rw[e];simp
   have ej:=(mem_lists.mp hm).1;rw[ej];exact⟨hj,hm⟩),A.part.cut⟩
  subst eb;have hll:l.length<=1000:=by have:=A.small.1;omega
  have hh:=A.lift.len;refine⟨zi1 _ _ _ _,?_⟩;rw[zj2];refine⟨znz (by omega) hll (by omega),rfl,zaT (znF true F (by omega) A o0 o1 p0 p1) λd hd=>?_⟩;subst hd;have go:Y24 (oldE (E24 n rs hts fs m s7 one oW (.val (.bl true)) s11 s12 (.val (.lst true (rs.map runD))) (.val (foeD l m n h' rs)) s15)) λy=>newB y=true/\k24B E (E24 n rs hts fs m s7 one oW (.val (.bl true)) s11 s12 (.val (.lst true (rs.map runD))) .un (.val y)):=by
   refine zqX rfl ⟨zpC,rfl,zaT (zm6 true n rs m one oW F.toFew (by omega) o0 o1 p0 p1) λd2 hd2=>?_⟩;rcases hd2 with⟨_,no⟩|⟨l2,h2,A2,rfl⟩
   .exact absurd no λno=>A.part.no no
   .obtain⟨rfl,rfl⟩:=A.uniq A2;refine⟨rfl,zaT (zf8 5 _ _ rfl (zow (by omega) hll (by omega) (by omega))) λd hd=>?_⟩;subst hd;exact q _ _ _ _ _ _
  exact go
def zpv{i j:Nat}{B:WS}{E:En}{M:Env}{b:Bool}{xs:List D}(h:M[j]?=some (.val (.lst b xs)))(q:B E (M.set i (.val (.lst true xs)))):seqW (asgW (.nm i) (valW (zbV (vW j)))) B E M:=by
 show vW j M _;unfold vW;rw[h];exact q
def k24l:WS:=(seqW (asgW (.nm 8) (zas 2 zah (zab (vW 1) (zab (vW 2) nilA))))
  (seqW (asgW (.nm 9) (zas 2 zah (zab (vW 1) (zab (vW 2) nilA))))
  (seqW (asgW (.nm 10) (kW (.bl false)))
  (seqW k24d
  (seqW (asgW (.nm 13) (valW (zbV (vW 3)))) k24m)))))
def zqW{n:Nat}{rs:List Rn}{hts fs:List Int}{m:Nat}{E:En}{s7 s8 s9 s10 s11 s12 s13 s14 s15:Sl}(F:Few2 n rs)(hm:m<4)(n1:1<=n)
  (q:∀s7 s8 s9 s10 s11 s12 s13 s14 s15,E.nx [.un,.val .box,.val (.int n),.val (.lst true (rs.map runD)),.val (.lst true (hts.map D.int)),.val (.lst true (fs.map D.int)),.val (.int m),s7,s8,s9,s10,s11,s12,s13,s14,s15]) :
  k24l E [.un,.val .box,.val (.int n),.val (.lst true (rs.map runD)),.val (.lst true (hts.map D.int)),.val (.lst true (fs.map D.int)),.val (.int m),s7,s8,s9,s10,s11,s12,s13,s14,s15]:=by
 have hn:=F.n1;refine⟨rfl,zaE (by omega) (by omega) λone o0 o1=>?_⟩;refine⟨rfl,zaE (by omega) (by omega) λoW p0 p1=>?_⟩;have go:k24d {nx:=seqW (asgW (.nm 13) (valW (zbV (vW 3)))) k24m E,rt:=E.rt,bk:=E.bk,ct:=E.ct} (E24 n rs hts fs m s7 one oW (.val (.bl false)) s11 s12 s13 s14 s15):=zss F hm o0 o1 p0 p1 λb s11 s12 hb=>by
  have g:seqW (asgW (.nm 13) (valW (zbV (vW 3)))) k24m E (E24 n rs hts fs m s7 one oW (.val (.bl b)) s11 s12 s13 s14 s15):=zpv (j:=3) rfl (zqv F hm o0 o1 p0 p1 hb λ_ _ _ _ _ _=>q _ _ _ _ _ _ _ _ _);exact g
 exact go
def zpM:lawW 14 zec:=by
 unfold lawW zec;have go:∀mh mr:Int,(mh=10\/mh=4)->(mr=40\/mr=10)->up zbz [.box,.int 12,.int mh,.int mr] λd=>gD (.tp 4 (.cons (.nm 2) (.cons (.nm 3) (.cons (.nm 4) (.cons (.nm 5) .nil))))) d [.un,.val .box,.un,.un,.un,.un,.un,.un,.un,.un,.un,.un,.un,.un,.un,.un] λM=>seqW (asgW (.nm 6) (zas 2 zah (zab (vW 1) (zab (kW (.int 4)) nilA)))) (seqW (forW (zew (kW (.int 2))) (.nm 7) k24l) (retW (kW (.bl true)))) {nx:=λ_=>False,rt:=λd=>d=.bl true,bk:=λ_=>False,ct:=λ_=>False} M:=λmh mr hmh hmr=>by
  refine zaT (zl9 12 mh mr (by omega) (by omega) (by omega) (by omega) (by omega) (by omega)) λd ⟨size,rs,hts,fs,hd,W⟩=>?_;subst hd;obtain⟨n,rfl⟩:∃n:Nat,size=(n:Int):=⟨size.toNat,by have:=W.s1;omega⟩;have F:Few2 n rs:=W.few2 (by omega) (by omega);have n1:=W.s1;refine⟨rfl,rfl,zaE (by decide) (by decide) λmk k0 k1=>?_⟩;obtain⟨m,rfl⟩:∃m:Nat,mk=(m:Int):=⟨mk.toNat,by omega⟩;refine⟨⟨by decide,by decide⟩,?_⟩;refine zfx (λd=>True) (λ_ M=>∃s7 s8 s9 s10 s11 s12 s13 s14 s15:Sl,M=[.un,.val .box,.val (.int n),.val (.lst true (rs.map runD)),.val (.lst true (hts.map D.int)),.val (.lst true (fs.map D.int)),.val (.int m),s7,s8,s9,s10,s11,s12,s13,s14,s15]) ?_ ?_ _ _ (λd hd=>trivial) ⟨_,_,_,_,_,_,_,_,_,rfl⟩
  .rintro x rest M E' _ hn hc hr hb ⟨s7,s8,s9,s10,s11,s12,s13,s14,s15,rfl⟩;exact zqW F (by omega) (by omega) λs7 s8 s9 s10 s11 s12 s13 s14 s15=>hn _ ⟨_,_,_,_,_,_,_,_,_,rfl⟩
  .rintro M ⟨s7,s8,s9,s10,s11,s12,s13,s14,s15,rfl⟩;rfl
 refine⟨by show 2<=100000;decide,rfl,zaE (by decide) (by decide) λy y0 y1=>?_⟩;refine zaJ (hs:=[10,4]) y0 y1 ⟨by show 2<=100000;decide,rfl,zaE (by decide) (by decide) λx x0 x1=>?_⟩;refine zaJ (hs:=[40,10]) x0 x1 ⟨rfl,go _ _ ?_ ?_⟩
 .rcases(by omega:y=0\/y=1)with rfl|rfl
  .exact .inl rfl
  .exact .inr rfl
 .rcases(by omega:x=0\/x=1)with rfl|rfl
  .exact .inl rfl
  .exact .inr rfl
end Fd
namespace Fen
open PySem L2
def top(i:Nat):Stmt:=PySem.Challenge.pw_fenlevel_k24_whole_a_foe_has_two_truths.main.body.getD i (.Pass ⟨0,0,0,0⟩)
abbrev zbM:Stmt:=top 1
abbrev zcs:Stmt:=top 2
abbrev zdn:Stmt:=top 3
abbrev zd7:Stmt:=top 5
abbrev znb:Stmt:=top 6
abbrev zee:Stmt:=top 7
abbrev zc9:Stmt:=top 8
abbrev zjs:Stmt:=top 9
abbrev zdO:Stmt:=top 11
abbrev zcw:Stmt:=top 12
abbrev zdV:Stmt:=top 13
abbrev zcx:Stmt:=top 15
abbrev zca:Stmt:=top 16
abbrev zev:Stmt:=top 17
abbrev zb5:Stmt:=top 18
abbrev zbE:Stmt:=top 20
abbrev zcy:Stmt:=top 21
abbrev zcC:Stmt:=top 22
abbrev zft:Stmt:=top 24
abbrev za1:Stmt:=top 25
abbrev zbS:Stmt:=top 26
abbrev zlj:Stmt:=top 27
abbrev zh5:Stmt:=top 29
abbrev zd5:Stmt:=top 30
abbrev pFoe:Stmt:=top 31
abbrev sBox:Stmt:=top 33
abbrev zjL:Stmt:=top 34
abbrev zin:Stmt:=top 35
abbrev zmw:Stmt:=top 36
abbrev zdT:Stmt:=top 37
abbrev ziP:Stmt:=top 38
abbrev zig:Stmt:=top 39
abbrev zmk:Stmt:=top 40
abbrev zd2:Stmt:=top 41
abbrev zga:Stmt:=top 42
abbrev ziK:Stmt:=top 43
abbrev ziR:Stmt:=top 44
abbrev zc7:Stmt:=top 45
abbrev zcv:Stmt:=top 46
abbrev sLaw:Stmt:=top 47
section
variable{P:Program}{w:PySem.World}{K:qg}{mg:Str->Option Value}{base:Heap}
def zsa:FnScope ["_law_script"] ["_law_script"] (zat sBox):=⟨rfl,rfl,rfl,by decide +kernel,rfl,by decide +kernel,by decide +kernel⟩
def zrF{f:Addr}{fd:FuncData}(F:Fun K "_law_box" "_law_box" sBox f fd)(T:Txt K mg):FnOk P w K mg base CX0 1 f fd ["_law_script"] (zqh K):=by
 refine F.ok zsa (λvs H Q E h=>?_) (λcdv A outer s H vs Q E hr h=>?_)
 .obtain⟨a,ns,rfl,_⟩:=h;rfl
 .obtain⟨a,ns,rfl,hS,hl,k⟩:=h;refine⟨_,zaA (zbI (zeh (zag (zco zeV rfl T.list YCr (zag (zfg sl_list (pv 0) zhm (zhb zaI)) zav)) (zag zaI (zag zaI (zag zaI zav)))))),?_⟩;refine⟨_,rfl,_,rfl,a,_,rfl,hS,λp hp=>?_⟩;rw[zsv hl];refine⟨p,_,rfl,.inl (SqL.of zac),λc hc=>⟨by show 4<=sizeLine;decide,λb hb=>?_⟩⟩;have hcp:c≠p:=λz=>by rw[z,zac]at hc;cases hc
  have hbc:b≠c:=λz=>by rw[z,zac]at hb;cases hb
  have hb1:upd H p (.lst (ns.map V.int)) b=none:=by rw[zaf hbc]at hb;exact hb
  have hbp:b≠p:=λz=>by rw[z,zac]at hb1;cases hb1
  have hc0:H c=none:=by rw[zaf hcp]at hc;exact hc
  have hb0:H b=none:=by rw[zaf hbp]at hb1;exact hb1
  refine k b c _ hb0 ⟨⟨0,0,17,zac,by decide,by decide,by decide,by decide⟩,by rw[zaf hbc.symm,zac],hl⟩ λx o e=>?_;rw[zaf (zae e hb0),zaf (zae e hc0),zaf (zae e hp)];exact e
def scTake:FnScope ["_law_box_here","_law_many","_law_rest","_law_cell","_law_seed"] ["_law_box_here","_law_many"] (zat zjL):=⟨rfl,rfl,rfl,by decide +kernel,rfl,by decide +kernel,by decide +kernel⟩
def zjm{f:Addr}{fd:FuncData}(F:Fun K "_law_take" "_law_take" zjL f fd)(T:Txt K mg):FnOk P w K mg base CX0 1 f fd ["_law_box_here","_law_many"] zrE:=by
 refine F.ok scTake (λvs H Q E h=>?_) (λcdv A outer s H vs Q E hr h=>?_)
 .obtain⟨b,c,ns,m,rfl,_⟩:=h;rfl
 .obtain⟨b,c,ns,m,rfl,B,m0,m1,k⟩:=h;refine⟨_,zam (zeu (zcF zo7 (zcO ix_list (pv 0) zaI (λ_ _=>rfl)) zaI (zci _))
    (zam (zbn (i:=2) scTake.nd rfl (Or.inl rfl) (zcO ix_list (pv 0) zaI (λ_ _=>rfl)))
    (zam (zdv (zb3 zj0 (pv 2) (pv 1)) (ziE (pv 0) zaI zcH))
    (zaA (zbI (zb3 zgK (pv 2) (pv 1)))))) zbL)
   (zam (zbn (i:=3) scTake.nd rfl (Or.inl rfl) zaI)
   (zam (zeu (zcF zpn (zcO ix_list (pv 0) zaI (λ_ _=>rfl)) (zbF zch rfl T.len YDu (zag (zcO ix_list (pv 0) zaI (λ_ _=>rfl)) zav)) (zci _))
    (zam (zbn (i:=3) scTake.nd rfl (Or.inl rfl) (zcO ix_list (zcO ix_list (pv 0) zaI (λ_ _=>rfl)) (zcO ix_list (pv 0) zaI (λ_ _=>rfl)) (λ_ _=>rfl)))
    (zaA (zni (pv 0) zaI zkG zaI zlz zcH))) zbL)
   (zam (zeu (zcF zsm (pv 3) (zb3 zmD zaI zaI) (zci _))
    (zam (zdv (zb3 zj0 (pv 3) (pv 1)) (ziE (pv 0) zaI zcH))
    (zaA (zbI (zb3 zgK (pv 3) (pv 1))))) zbL)
   (zam (zbn (i:=4) scTake.nd rfl (Or.inl rfl) (zcO ix_list (pv 0) zaI (λ_ _=>rfl)))
   (zam (zbn (i:=4) scTake.nd rfl (Or.inl rfl) (zb3 op_add (zb3 op_add (zb3 zmD (pv 4) zaI) (zb3 op_mul zaI (pv 4))) (zb3 op_mul zaI (zb3 zgK (pv 3) zaI))))
   (zam (zdv (zb3 zgK (zb3 op_add (pv 4) zaI) zaI) (ziE (pv 0) zaI zcH))
   (zaA (zbI (zb3 zgK (zb3 zo3 (zcO ix_list (pv 0) zaI (λ_ _=>rfl)) zaI) (pv 1)))))))))),?_⟩
  obtain⟨p,r,d,e,hp0,hr0,hd0,hd1⟩:=B.ex;refine⟨_,rfl,b,_,_,.int r,rfl,rfl,SqL.of e,rfl,_,_,rfl,rfl,_,rfl,?_⟩;refine ite2 (λh0=>?_) (λh0=>?_)
  .refine⟨_,rfl,b,_,_,.int r,rfl,rfl,SqL.of e,rfl,?_⟩;refine⟨_,rfl,_,rfl,_,_,rfl,rfl,⟨m0,m1⟩,_,rfl,b,_,_,2,rfl,rfl,e,rfl,?_⟩;refine⟨_,rfl,_,rfl,_,_,rfl,rfl,m0,?_⟩;exact k _ _ (YB3 _ (by omega)) (YBH _ m0) (B.put hp0 (YD7 hr0 (by omega)) hd0 hd1) Ext.upd
  refine⟨_,rfl,b,_,_,.int p,rfl,rfl,SqL.of e,rfl,_,rfl,b,_,_,.ref c,rfl,rfl,SqL.of e,rfl,c,_,rfl,.inl (SqL.of B.cells),_,_,rfl,rfl,_,rfl,?_⟩;refine ite2 (λh1=>?_) (λh1=>?_)
  .have hlt:=YA7 h1;rw[YAc]at hlt;obtain⟨z,hz⟩:∃z,ns[p.toNat]?=some z:=⟨_,YAe (by omega)⟩;have hat:atI (ns.map V.int) p=some (.int z):=by
    have q:=zdJ (xs:=ns.map V.int) (j:=p.toNat) (v:=.int z) (by rw[YAo,hz];rfl)
    rwa[YBw hp0]at q
   refine⟨_,rfl,b,_,_,.ref c,rfl,rfl,SqL.of e,rfl,_,rfl,b,_,_,.int p,rfl,rfl,SqL.of e,rfl,c,_,_,.int z,rfl,rfl,SqL.of B.cells,hat,?_⟩;refine⟨_,rfl,b,_,1,.int p,rfl,rfl,SqL.of e,rfl,_,_,rfl,rfl,b,_,_,1,rfl,rfl,e,rfl,?_⟩;have e1:upd H b (boxV c (p+1) r d) b=some (boxV c (p+1) r d):=zac;have hp1:0<=p+1:=by omega
   have B1:=B.put hp1 hr0 hd0 hd1;have X1:Ext b H (upd H b (boxV c (p+1) r d)):=Ext.upd;refine⟨_,rfl,_,_,rfl,rfl,⟨by decide,by decide,by decide⟩,_,_,rfl,rfl,_,rfl,?_⟩;refine ite2 (λh2=>?_) (λh2=>?_)
   .refine⟨_,rfl,_,rfl,_,_,rfl,rfl,⟨m0,m1⟩,_,rfl,b,_,_,2,rfl,rfl,e1,rfl,_,rfl,_,rfl,_,_,rfl,rfl,m0,?_⟩;have hz0:(0:Int)<=z:=by
     have:=YA7 h2
     exact Int.le_trans (by decide) this
    exact k _ _ (YB3 _ (by omega)) (YBH _ m0) (B1.put hp1 (YD7 hz0 (by omega)) hd0 hd1) (X1.trans Ext.upd)
   .refine⟨_,rfl,b,_,_,.int d,rfl,rfl,SqL.of e1,rfl,?_⟩;refine⟨_,rfl,_,_,rfl,rfl,⟨by decide,by decide,by omega⟩,_,rfl,_,_,rfl,rfl,.inl ⟨by decide,by decide⟩,_,_,rfl,rfl,_,rfl,_,_,rfl,rfl,(by show(0:Int)<2147483629;decide),_,_,rfl,rfl,.inl ⟨by decide,by decide⟩,_,_,rfl,rfl,?_⟩;refine⟨_,rfl,_,_,rfl,rfl,_,_,rfl,rfl,(by show(0:Int)<2147483629;decide),_,rfl,b,_,_,3,rfl,rfl,e1,rfl,?_⟩;refine⟨_,rfl,b,_,_,_,rfl,rfl,SqL.of zac,rfl,_,_,rfl,rfl,⟨by decide,by decide⟩,_,rfl,_,_,rfl,rfl,m0,?_⟩;exact k _ _ (YB3 _ (by omega)) (YBH _ m0) (B1.put hp1 hr0 (YB3 _ (by decide)) (YBH _ (by decide))) (X1.trans Ext.upd)
  .have e1:=e;have hp1:=hp0;have B1:=B;have X1:Ext b H H:=Ext.refl _ _;refine⟨_,rfl,_,_,rfl,rfl,⟨by decide,by decide,by decide⟩,_,_,rfl,rfl,_,rfl,?_⟩;refine ite2 (λh2=>?_) (λh2=>?_)
   .refine⟨_,rfl,_,rfl,_,_,rfl,rfl,⟨m0,m1⟩,_,rfl,b,_,_,2,rfl,rfl,e1,rfl,_,rfl,_,rfl,_,_,rfl,rfl,m0,?_⟩;have hz0:(0:Int)<=0:=Int.le_refl _;exact k _ _ (YB3 _ (by omega)) (YBH _ m0) (B1.put hp1 (YD7 hz0 (by omega)) hd0 hd1) (X1.trans Ext.upd)
   .refine⟨_,rfl,b,_,_,.int d,rfl,rfl,SqL.of e1,rfl,?_⟩;refine⟨_,rfl,_,_,rfl,rfl,⟨by decide,by decide,by omega⟩,_,rfl,_,_,rfl,rfl,.inl ⟨by decide,by decide⟩,_,_,rfl,rfl,_,rfl,_,_,rfl,rfl,(by show(0:Int)<2147483629;decide),_,_,rfl,rfl,.inl ⟨by decide,by decide⟩,_,_,rfl,rfl,?_⟩;refine⟨_,rfl,_,_,rfl,rfl,_,_,rfl,rfl,(by show(0:Int)<2147483629;decide),_,rfl,b,_,_,3,rfl,rfl,e1,rfl,?_⟩;refine⟨_,rfl,b,_,_,_,rfl,rfl,SqL.of zac,rfl,_,_,rfl,rfl,⟨by decide,by decide⟩,_,rfl,_,_,rfl,rfl,m0,?_⟩;exact k _ _ (YB3 _ (by omega)) (YBH _ m0) (B1.put hp1 hr0 (YB3 _ (by decide)) (YBH _ (by decide))) (X1.trans Ext.upd)
end
end Fen
namespace Fd
open PySem L2
section
variable{P:Program}{w:World}{K:qg}{mg:Str->Option Value}{base:Heap}
theorem zjm{f:Addr}{fd:FuncData}(F:Fun K "_law_take" "_law_take" Fen.zjL f fd)(T:Bt mg):FnOk P w K mg base CX0 1 f fd ["_law_box_here","_law_many"] (spD K 2 zah):=by
 refine(Fen.zjm F ⟨T.list,T.len,T.range⟩).imp λvs H Q E ⟨β,G,ds,gh,bx,hv,hl,P',q,hP⟩=>?_;unfold zah at q;split at q
 .rename_i m
  obtain⟨v1,v2,rfl,e1,e2⟩:=zpQ hv;cases e1;cases e2;obtain⟨cc,p,r,d,ns,hb,p0,r0,d0,d1,hc,hn⟩:=bx.ex;refine⟨β,cc,ns,m,rfl,⟨⟨p,r,d,hb,p0,r0,d0,d1⟩,gh _ _ hc,hn⟩,q.1.1,q.1.2,λx H' x0 x1 B X=>?_⟩;refine hP _ (q.2 x x0 x1) _ H' G ⟨Same.refl _,λa o e=>?_,λa o n e=>X a o n e,λa e=>.inl e,⟨?_,bx.still⟩,λz=>by(rw[hb]at z;cases z),λcc2 p2 r2 d2 h2=>by
   rw[hb]at h2;cases h2;obtain⟨p',r',d',e',_⟩:=B.ex;exact⟨p',r',d',e'⟩⟩ rfl
  .have na:a≠β:=λz=>by rw[z,bx.still]at e;cases e
   exact X a o na (gh a o e)
  .obtain⟨p',r',d',e',q'⟩:=B.ex;exact⟨cc,p',r',d',ns,e',q'.1,q'.2.1,q'.2.2.1,q'.2.2.2,hc,hn⟩
 .exact q.elim
def zlY(K:qg):Sp:=λvs H Q _=>∃(a:Addr)(ns:List Int),vs=[.ref a]/\SqL K H a (ns.map V.int)/\ns.length<=63/\∀H',Q (.bl true) H'
def zq8{f:Addr}{fd:FuncData}{st:Stmt}{rest:List Stmt}{N:List Str}{n k:Nat}{B:WS}{p1 p2 p3 p4 p5:Pos}(F:Fun K "law" "law" st f fd)
  (hbd:zb6 st=.Assign [.Name "_law_box_here" p1] (.Call (.Name "_law_box" p2) [.Name "_law_script" p3] [] p4) p5::rest)
  (cB:Cal P w K mg base "_law_box" 1 ["_law_script"] (Fen.zqh K))
  (hB:∀{cdv:Value}{A:Around}{outer:List PySem.Env}{s:Shared}{H:Hp}{E:XK}{β:Addr}{H1 G1:Hp},(("_law_script"::"_law_box_here"::N:List Str)).Nodup->Room k (A.deeper (PyProof.Rows.envOfC "law" (zat st) s.heap.objs.size f cdv)) ->
   DSs (cxOf CX0 P w K mg base ("_law_script"::"_law_box_here"::N) "law" (zat st) f cdv A outer s H E).nox ⟨K,β,H1,G1⟩ rest B)
  (h:lawW n B) (hN:N.length=n:=by rfl) (S:FnScope ("_law_script"::"_law_box_here"::N) ["_law_script"] (zat st):=by exact⟨rfl,rfl,rfl,by decide +kernel,rfl,by decide +kernel,by decide +kernel⟩)
  (hgl:(zat st).names.lookup ("_law_box":Str)=some .globalImplicit:=by decide +kernel) (hs0:(zat st).names.lookup ("_law_script":Str)=some .local:=by decide +kernel) (hs1:(zat st).names.lookup ("_law_box_here":Str)=some .local\/(zat st).names.lookup ("_law_box_here":Str)=some .cell:=by decide +kernel) (hk:1<=k:=by decide):FnOk P w K mg base CX0 (k+1) f fd ["_law_script"] (zlY K):=by
 refine F.ok S (λvs H Q E ⟨a,ns,e,_⟩=>by rw[e];rfl) (λcdv A outer s H vs Q E hr ⟨a,ns,e,hS,hl,q⟩=>?_);subst e;have hrest:PSs (cxOf CX0 P w K mg base ("_law_script"::"_law_box_here"::N) "law" (zat st) f cdv A outer s H E).nox rest (λD Y H'=>∃ β H1 G1,tDS ⟨K,β,H1,G1⟩ B D Y H'):=λO s' Y H' D I ⟨β,H1,G1,z⟩=>(@hB cdv A outer s H E β H1 G1 S.nd hr).pss O s' Y H' D I z;rw[hbd];obtain⟨fB,fdB,FB,mB,kB,bB⟩:=cB.ex;refine⟨_,zam (zbn (i:=1) S.nd rfl hs1 (zhy FB (hr.mono hk) hgl mB kB bB .nil zot (zag (zei (i:=0) rfl (.inl hs0)) zav)) rfl (.inl rfl)) hrest,?_⟩;refine⟨.ref a,rfl,a,ns,rfl,hS,hl,λb cc H1 hb Bx Sm=>?_⟩;obtain⟨p,r,d,e,p0,r0,d0,d1⟩:=Bx.ex;have hcc:=Bx.cells;have nb:b≠cc:=Bx.ne
 let G1:Hp:=λx=>if x=cc then some (.lst (ns.map V.int))else none
 have gcc:G1 cc=some (.lst (ns.map V.int)):=by show(if cc=cc then _ else _)=_;rw[if_pos rfl]
 have gb:G1 b=none:=by show(if b=cc then _ else _)=_;rw[if_neg nb]
 have gh:Same G1 H1:=λx o ex=>by
  have ex':(if x=cc then some (HO.lst (ns.map V.int))else none)=some o:=ex;split at ex'
  .rename_i z;rw[z,hcc];exact ex'
  .cases ex'
 have bx:BoxD b H1 G1:=⟨⟨cc,p,r,d,ns,e,p0,r0,d0,d1,gcc,Bx.few⟩,gb⟩;refine⟨b,H1,G1,.un::.val .box::List.replicate n .un,G1,⟨?_,Stp.refl gh bx,λi sl ei=>?_,λi j x xs ys ei=>?_⟩,(@hB cdv A outer s H E b H1 G1 S.nd hr).mono {nx:=λ_=>False,rt:=λd=>d=.bl true,bk:=λ_=>False,ct:=λ_=>False} _ _ ⟨λM z=>z.elim,λd z v H' G' t ev=>?_,λM z=>z.elim,λM z=>z.elim⟩ h⟩
 .simp[L2.start,hN]
 .match i with
  |0=>cases ei;trivial
  |1=>cases ei;exact⟨.ref b,rfl,rfl⟩
  |i+2=>
   rw[YBV,YBV,YBD]at ei;split at ei<;>cases ei
   trivial
 .match i with
  |0=>cases ei
  |1=>cases ei
  |i+2=>
   rw[YBV,YBV,YBD]at ei;split at ei<;>cases ei
 .subst z;cases ev;exact q H'
end
end Fd
namespace Fen
open PySem L2
section
variable{P:Program}{w:PySem.World}{K:qg}{mg:Str->Option Value}{base:Heap}
def zp5:FnScope ["runs","heights"] ["runs","heights"] (zat zee):=⟨rfl,rfl,rfl,by decide +kernel,rfl,by decide +kernel,by decide +kernel⟩
def zhQ{f:Addr}{fd:FuncData}(F:Fun K "holds" "holds" zee f fd)(T2:Txt2 mg):FnOk P w K mg base CX0 1 f fd ["runs","heights"] (zi9 K):=by
 refine F.ok zp5 (λvs H Q E h=>?_) (λcdv A outer s H vs Q E hr h=>?_)
 .obtain⟨a,b,rs,hs,rfl,_⟩:=h;rfl
 .obtain⟨a,b,rs,hts,rfl,ha,R,hb,V0,hz,k⟩:=h;refine⟨_,zaA (zbI (zbF (zis rfl) rfl T2.all PyProof.Rows.boot_all (zag (zhj (g:=gTup K 4 (ze4 (zcY 0) (ze4 (zcY 1) (ze4 (zcY 2) (ze4 (zcY 3) gNil))))) rfl
   (CompScope.of (N:=["runs","heights"]) (osc:=zat zee) (Nc:=["one","other","rise","hand","heights"]) (sub:=[none,none,none,none,some 1]) (by decide +kernel)) (zeK (pv 0))
   (λ_ _ _ _ _=>zcB (n:=4) rfl (zad (zaz (i:=0) zg4 rfl (Or.inl rfl) (Or.inr rfl)) (zad (zaz (i:=1) zg4 rfl (Or.inl rfl) (Or.inr rfl)) (zad (zaz (i:=2) zg4 rfl (Or.inl rfl) (Or.inr rfl)) (zad (zaz (i:=3) zg4 rfl (Or.inl rfl) (Or.inr rfl)) zaG)))))
   (zq5 (zdK (zdy rfl) zbg (zdK (zdy rfl) zbg (zdK (zdy rfl) zbg (zdK (zdy rfl) zbg zmO zeJ) (zbH zbg zeJ)) (zbH zbg (zbH zbg zeJ))) (zbH zbg (zbH zbg (zbH zbg zeJ)))))
   (zqU (zbH zbg (zbH zbg (zbH zbg (zbH zbg zeJ)))))
   (λ_ _ _ _ _=>pif0) (λ_ _ _ _ _=>znj zqP (zb3 zmN (zcO (r:=rIxL K) ix_list (pv 4) (pv 1) (λ_ _=>rfl)) (zcO (r:=rIxL K) ix_list (pv 4) (pv 0) (λ_ _=>rfl))) (pv 2) (zci _))) zav))),?_⟩
  refine⟨_,rfl,a,rfl,⟨_,ha⟩,λl hl=>?_⟩;refine zkV ha R hb V0 hz hl ?_;exact⟨l,_,rfl,SqL.of zac,k l _ hl⟩
def scSteps:FnScope Nst ["size","runs","struck"] (zat zbM):=⟨rfl,rfl,rfl,by decide +kernel,rfl,by decide +kernel,by decide +kernel⟩
def znY{f:Addr}{fd:FuncData}(F:Fun K "steps_from" "steps_from" zbM f fd)(T:Txt K mg)(T4:mg "enumerate"=none):FnOk P w K mg base CX0 1 f fd ["size","runs","struck"] (zhM K):=by
 refine F.ok scSteps (λvs H Q E h=>?_) (λcdv A outer s0 H vs Q E hr h=>?_)
 .obtain⟨n,a,s,rs,hs,rfl,_⟩:=h;rfl
 .obtain⟨n,a,s,rs,hs,rfl,ha,R,VM,hsq,hn,hz,k⟩:=h;have nd:=scSteps.nd;refine⟨_,zam (znc (i:=3) rfl nd rfl rfl (CompScope.of (N:=Nst) (osc:=zat zbM) (Nc:=["mark"]) (sub:=[none]) (by decide +kernel)) (zfq rfl T.range (zag (pv 0) zav))
    (λ_ _ _ _ _=>zaz (i:=0) zp4 rfl (Or.inl rfl) (Or.inr rfl)) (zdy rfl) zbg (λ_ _ _ _ _=>pif0) (λ_ _ _ _ _=>zeh zav))
   (zam (zdR YBt rfl (zlw rfl T4 (zag (pv 1) zav)) (zcB (n:=2) rfl (zad (zaz (i:=4) nd rfl (Or.inl rfl)) (zad (zcB (n:=4) rfl (zad (zaz (i:=5) nd rfl (Or.inl rfl)) (zad (zaz (i:=6) nd rfl (Or.inl rfl)) (zad (zaz (i:=7) nd rfl (Or.inl rfl)) (zad (zaz (i:=8) nd rfl (Or.inl rfl)) zaG))))) zaG)))
    (zaA (zeu (zcF zeS (pv 8) (pv 2) (by with_unfolding_all rfl))
     (zam (zdb (zkM YBG YBA YBB zbQ (zcO ix_list (pv 3) (pv 5) (λ_ _=>rfl)) (zag (zep (zag (pv 4) (zag (pv 6) (zag (pv 7) zav)))) zav)))
     (zaA (zdb (zkM YBG YBA YBB zbQ (zcO ix_list (pv 3) (pv 6) (λ_ _=>rfl)) (zag (zep (zag (pv 4) (zag (pv 5) (zag (zp8 zmf (pv 7)) zav)))) zav))))) zbL)))
   (zaA (zbI (pv 3)))),?_⟩
  refine⟨_,rfl,n,rfl,by omega,by omega,λls hls=>?_⟩;refine zk1 (Pv:=λi xs H2=>∃ad:List Addr,xs=ad.map V.ref/\ad.length=i/\H2 ls=some (.lst xs)/\Same H H2/\(∀x∈ad,H2 x=some (.lst []))/\ad.Nodup/\ls∉ad/\∀x∈ad,H x=none)
   ⟨[],rfl,rfl,zac,zan hls,(λx h=>by cases h),YCR,(by simp),(λx h=>by cases h)⟩ (λi xs H2 _ ⟨ad,_,_,h,_⟩=>h) ?_ ?_
  .rintro i xs H2 hi ⟨ad,rfl,hal,h2,S2,hal2,hnd,hno,hfr⟩;refine zrm ?_;refine⟨by show 0<=sizeLine;exact YAC _,λl hl=>⟨zan hl _ _ h2,?_,ad++[l],by rw[YAy];rfl,by rw[YAq,hal];rfl,zac,λc o e=>?_,λx hx=>?_,?_,?_,λx hx=>?_⟩⟩
   .rw[YAc,YAO];omega
   .rw[zaf (zae e hls)];exact zan hl _ _ (S2 c o e)
   .have nls:ls≠l:=zae h2 hl;rcases YAk.mp hx with q|q
    .have:=hal2 x q
     have nx:x≠ls:=λz=>hno (z▸q);rw[zaf nx,zaf (zae this hl)];exact this
    .rw[YAg.mp q,zaf nls.symm,zac]
   .exact zgX hnd λq=>by have:=hal2 l q;rw[hl]at this;cases this
   .intro q;rcases YAk.mp q with q|q
    .exact hno q
    .exact zae h2 hl (YAg.mp q)
   .rcases YAk.mp hx with q|q
    .exact hfr x q
    .rw[YAg.mp q];exact S2.free hl
  rintro xs H2 ⟨ad,rfl,hal,h2,S2,hal2,hnd,hno,hfr⟩;rw[YAE]at hal;have St0:Steps H2 ls ad λ_=>[]:=⟨h2,λm x h=>hal2 x (YAz h),(λm t _ h=>by cases h),hnd,hno⟩;have Ok0:StepsOk rs hs 0 λ_=>[]:=⟨(λm t h=>by cases h),(λi r h=>absurd h (Nat.not_lt_zero _)),(λm=>YAC _),(λm=>rfl)⟩;refine⟨_,rfl,a,_,rfl,S2.seq ha,zky (K:=K) (a:=a) (xs:=rs.map runV) (λi Y H3=>∃(cs:Nat->List Tri)(o4 o5 o6 o7 o8:Option V),Y=[some (.int n),some (.ref a),some (.ref s),some (.ref ls),o4,o5,o6,o7,o8]/\Same H H3/\Steps H3 ls ad cs/\StepsOk rs hs i cs)
   ⟨_,_,_,_,_,_,rfl,S2,St0,Ok0⟩ (λi Y H3 _ ⟨_,_,_,_,_,_,_,S,_⟩=>S.seq ha) ?_ ?_⟩
  .rintro i x t Y H3 hx ht ⟨cs,o4,o5,o6,o7,o8,rfl,S3,St,Ok⟩;obtain⟨r,hr,rfl,hrt⟩:=R.at_ hx;have V0:=VM r (YAz hr);have hil:i<rs.length:=(YAh.mp hr).1;have S4:=S3.trans (zan (o:=.tup [.int i,.ref r.p]) ht);have St4:=St.same (zan (o:=.tup [.int i,.ref r.p]) ht);refine⟨t,_,rfl,SqT.of zac,rfl,_,_,rfl,_,_,rfl,r.p,_,rfl,zka S4 hrt,rfl,_,_,rfl,_,_,rfl,_,_,rfl,_,_,rfl,rfl,rfl,?_⟩;generalize upd H3 t (.tup [.int i,.ref r.p])=H4 at *;refine⟨_,rfl,_,rfl,s,_,rfl,.inl (S4.seq hsq),rfl,ziQ hs,_,rfl,?_⟩;rw[if_pos rfl,zkF];cases hc:hs.contains r.hand with
   |true=>
    refine iteF ⟨cs,_,_,_,_,_,rfl,S4,St4,Ok.up hr hc⟩
   |false=>
    refine iteT ?_;obtain⟨l1,e1⟩:∃l1,ad[r.one.toNat]?=some l1:=⟨_,YAe (by omega)⟩;obtain⟨l2,e2⟩:∃l2,ad[r.oW.toNat]?=some l2:=⟨_,YAe (by omega)⟩;have at1:atI (ad.map V.ref) r.one=some (.ref l1):=by
     have q:=zdJ (xs:=ad.map V.ref) (j:=r.one.toNat) (v:=.ref l1) (by rw[YAo,e1];rfl)
     rwa[YBw V0.1]at q
    have at2:atI (ad.map V.ref) r.oW=some (.ref l2):=by
     have q:=zdJ (xs:=ad.map V.ref) (j:=r.oW.toNat) (v:=.ref l2) (by rw[YAo,e2];rfl)
     rwa[YBw V0.2.2.1]at q
    have hl1:=St4.row _ _ e1;refine⟨_,rfl,_,rfl,ls,_,_,_,rfl,rfl,SqL.of St4.top,at1,.inl ⟨rfl,_,SqL.of hl1⟩,_,rfl,_,rfl,_,rfl,by show 3<=sizeLine;decide,λt1 ht1=>?_⟩;have few:=Ok.few r.one.toNat;refine⟨l1,_,_,rfl,rfl,zan ht1 _ _ hl1,by rw[YAc,YAO];omega,?_⟩;have St5:=St4.push e1 ht1 (n:=i) (e:=r.oW) (d:=r.rise);have hl1H:H l1=none:=hfr l1 (YAz e1);have hl2H:H l2=none:=hfr l2 (YAz e2);have S5:Same H (upd (upd H4 t1 (.tup [.int i,.int r.oW,.int r.rise])) l1 (.lst ((cs r.one.toNat).map triV++[.ref t1]))):=λc o e=>by rw[zaf (zae e hl1H)];exact zan ht1 _ _ (S4 c o e)
    generalize upd (upd H4 t1 (.tup [.int i,.int r.oW,.int r.rise])) l1 (.lst ((cs r.one.toNat).map triV++[.ref t1]))=H5 at *;have hl2:=St5.row _ _ e2;refine⟨_,rfl,_,rfl,ls,_,_,_,rfl,rfl,SqL.of St5.top,at2,.inl ⟨rfl,_,SqL.of hl2⟩,_,rfl,_,rfl,_,rfl,_,rfl,by show 3<=sizeLine;decide,λt2 ht2=>?_⟩;have few2:(addC cs r.one.toNat ⟨t1,i,r.oW,r.rise⟩ r.oW.toNat).length<=2*i+1:=by
     have:=Ok.few r.oW.toNat
     unfold addC;split
     .rename_i q;rw[<-q,YAq];simp;omega
     .omega
    refine⟨l2,_,_,rfl,rfl,zan ht2 _ _ hl2,by rw[YAc,YAO];omega,?_⟩;have St6:=St5.push e2 ht2 (n:=i) (e:=r.one) (d:=-r.rise);refine⟨_,_,_,_,_,_,rfl,λc o e=>?_,St6,Ok.add hr hc V0.1 V0.2.2.1⟩;rw[zaf (zae e hl2H)];exact zan ht2 _ _ (S5 c o e)
  .rintro Y H3 ⟨cs,o4,o5,o6,o7,o8,rfl,S3,St,Ok⟩;rw[YAc]at Ok;exact⟨_,rfl,k ls ad cs H3 S3 hal St Ok hfr hls⟩
def scTree:FnScope Ntr ["start","steps"] (zat zcs):=⟨rfl,rfl,rfl,by decide +kernel,rfl,by decide +kernel,by decide +kernel⟩
def zpZ{f:Addr}{fd:FuncData}(F:Fun K "tree_from" "tree_from" zcs f fd):FnOk P w K mg base CX0 1 f fd ["start","steps"] (zjO K):=by
 refine F.ok scTree (λvs H Q E h=>?_) (λcdv A outer s0 H vs Q E hr h=>?_)
 .obtain⟨start,ls,n,ad,cs,rs,hs,rfl,_⟩:=h;rfl
 .obtain⟨start,ls,n,ad,cs,rs,hs,rfl,st0,st1,St,hal,So,VM,hn,hz,k⟩:=h;have nd:=scTree.nd;have hu:=znx hr;refine⟨_,zam (zbn (i:=2) nd rfl (Or.inl rfl) (zpc (zn1 (pv 0) (zep (zag zaI (zag (zep zav) zav))) zqd) rfl rfl (by simp) (by decide)))
   (zam (zbn (i:=3) nd rfl (Or.inl rfl) (zeh (zag (pv 0) zav)))
   (zam (zkt YBt (zj5 (pv 3) (λ_=>rfl))
    (zam (zbn (i:=4) nd rfl (Or.inl rfl) (zeh zav))
    (zam (zdR YBt rfl (zeK (pv 3)) (zaz (i:=5) nd rfl (Or.inl rfl))
     (zam (zdv (zhL hu (pv 2) (pv 5) (λ_ _=>rfl)) (zcB (n:=2) rfl (zad (zaz (i:=6) nd rfl (Or.inl rfl)) (zad (zaz (i:=7) nd rfl (Or.inl rfl)) zaG))))
     (zaA (zdR YBt rfl (zeK (zcO ix_list (pv 1) (pv 5) (λ_ _=>rfl))) (zcB (n:=3) rfl (zad (zaz (i:=8) nd rfl (Or.inl rfl)) (zad (zaz (i:=9) nd rfl (Or.inl rfl)) (zad (zaz (i:=10) nd rfl (Or.inl rfl)) zaG))))
      (zaA (zeu (ziC (zfu hu (pv 9) (pv 2)))
       (zam (zpB hu (pv 2) (pv 9) (zep (zag (zb3 op_add (pv 6) (pv 10)) (zag (zb3 zjJ (pv 7) (zep (zag (pv 8) zav))) zav))) rfl)
       (zaA (zdb (zkM YBG YBA YBB zbQ (pv 4) (zag (pv 9) zav))))) zbL))))))
    (zaA (zbn (i:=3) nd rfl (Or.inl rfl) (pv 4))))))
   (zaA (zbI (pv 2))))),?_⟩
  intro dt hdt;refine⟨_,rfl,by show 0<=sizeLine;exact YAC _,λl0 hl0=>⟨by show 2<=sizeLine;decide,λt0 ht0=>?_⟩⟩;have hdt1:upd H dt (.dK []) dt=some (.dK []):=zac;have hdt2:=zan (o:=.tup [.int 0,.ref l0]) ht0 _ _ (zan (o:=.tup []) hl0 _ _ hdt1);refine⟨hdt2,[(Sum.inl start,.ref t0)],rfl,by show 1<=15;decide,?_⟩;have SA:Same H (upd (upd (upd H dt (.dK [])) l0 (.tup [])) t0 (.tup [.int 0,.ref l0])):=((zan hdt).trans (zan hl0)).trans (zan ht0);have SB:Same H (upd (upd (upd (upd H dt (.dK [])) l0 (.tup [])) t0 (.tup [.int 0,.ref l0])) dt (.dK (mergeK [] [(Sum.inl start,.ref t0)]))):=λc o e=>by rw[zaf (zae e hdt)];exact SA c o e
  have hl01:upd (upd (upd H dt (.dK [])) l0 (.tup [])) t0 (.tup [.int 0,.ref l0]) l0=some (.tup []):=zan (o:=.tup [.int 0,.ref l0]) ht0 _ _ zac;have TH0:TreeH K (upd (upd (upd (upd H dt (.dK [])) l0 (.tup [])) t0 (.tup [.int 0,.ref l0])) dt (.dK (mergeK [] [(Sum.inl start,.ref t0)]))) dt [⟨start,t0,0,l0,[]⟩]:=by
   refine⟨zac,λx hx=>?_⟩;rw[YAg.mp hx];exact⟨zer zac hdt2 trivial,zex (SqT.of hl01) hdt2 trivial⟩
  generalize (upd (upd (upd (upd H dt (.dK [])) l0 (.tup [])) t0 (.tup [.int 0,.ref l0])) dt (.dK (mergeK [] [(Sum.inl start,.ref t0)])))=HA at *;have TO0:TreeOk rs hs start n [⟨start,t0,0,l0,[]⟩]:=by
   refine⟨by simp[zaw],λx hx=>?_,λx hx=>?_,λx hx z hz=>?_,λx hx y hy i j z hi hj=>?_,YAi,λx hx=>?_,λx hx z hz=>?_⟩
   .rw[YAg.mp hx];exact⟨st0,st1⟩
   .rw[YAg.mp hx];rfl
   .rw[YAg.mp hx]at hz;cases hz
   .rw[YAg.mp hx]at hi;simp at hi
   .rw[YAg.mp hx];show 0<1;decide
   .rw[YAg.mp hx]at hz;cases hz
  clear hdt1 hdt2 SA hl01 hl0 ht0;refine⟨_,rfl,by show 1<=sizeLine;decide,λln0 hln0=>?_⟩;obtain⟨W,hW⟩:∃W:Nat->L2.St->Hp->Prop,W=λm Y H2=>∃(ns:List Nd)(nw:List Int)(ln:Addr)(o4 o5 o6 o7 o8 o9 o10:Option V),Y=[some (.int start),some (.ref ls),some (.ref dt),some (.ref ln),o4,o5,o6,o7,o8,o9,o10]/\m=2*(n-ns.length)+(if nw=[]then 0 else 1)/\Same H H2/\TreeH K H2 dt ns/\TreeOk rs hs start n ns/\H2 ln=some (.lst (nw.map V.int))/\(∀z∈nw,z∈zaw ns)/\(∀x∈ns,x.m∈nw\/Closed cs ns x.m)/\∃q,itT (stepsF rs hs rs.length) start q=(ns.map zbu,nw):=⟨_,rfl⟩;refine⟨W,⟨_,by
   rw[hW];exact⟨[⟨start,t0,0,l0,[]⟩],[start],ln0,_,_,_,_,_,_,_,rfl,rfl,SB.trans (zan hln0),TH0.same (zan hln0),TO0,zac,λz hz=>hz,(λx hx=>.inl (by rw[YAg.mp hx];exact YAi)),0,rfl⟩⟩,λm Y H2 hw=>?_⟩
  rw[hW]at hw;obtain⟨ns,nw,ln,o4,o5,o6,o7,o8,o9,o10,rfl,hm,S2,TH,TO,hln,hnk,hcl,kq,hkq⟩:=hw;refine⟨_,rfl,_,.inl ⟨_,SqL.of hln,rfl⟩,?_⟩;refine ite2 (λhne=>?_) (λhne=>?_)
  .have hnw:nw≠[]:=λe=>by rw[e]at hne;simp at hne
   refine⟨λY' H'=>∃m',m'<m/\W m' Y' H',λ_ _ h=>h,?_⟩;refine⟨by show 0<=sizeLine;exact YAC _,λlf hlf=>?_⟩;have fl:H lf=none:=S2.free hlf;have nll:ln≠lf:=zae hln hlf;have TI0:TI K H rs hs start n dt ln lf nw ns.length (upd H2 lf (.lst [])) ns []:=
    ⟨S2.trans (zan hlf),TH.same (zan hlf),TO,zan hlf _ _ hln,zac,(λz hz=>by cases hz),hnk,by simp⟩
   generalize upd H2 lf (.lst [])=H3 at *;refine⟨_,rfl,ln,rfl,⟨_,SqL.of TI0.hln⟩,zfe (K:=K) (a:=ln) (xs:=nw.map V.int) (λi Y H4=>∃(ns':List Nd)(fr:List Int)(o5 o6 o7 o8 o9 o10:Option V),Y=[some (.int start),some (.ref ls),some (.ref dt),some (.ref ln),some (.ref lf),o5,o6,o7,o8,o9,o10]/\TI K H rs hs start n dt ln lf nw ns.length H4 ns' fr/\(∀x∈ns',x.m∈nw.drop i\/x.m∈fr\/Closed cs ns' x.m)/\(ns'.map zbu,fr)=(nw.take i).foldl (exM (stepsF rs hs rs.length)) (ns.map zbu,[]))
    ⟨ns,[],_,_,_,_,_,_,rfl,TI0,(λx hx=>(hcl x hx).elim .inl λh=>.inr (.inr h)),rfl⟩ (λi Y H4 _ ⟨_,_,_,_,_,_,_,_,_,X,_⟩=>SqL.of X.hln) ?_ ?_⟩
   .rintro i v Y H4 hv ⟨ns1,fr1,p5,p6,p7,p8,p9,p10,rfl,X1,C1,P1⟩;obtain⟨z,hz1,rfl⟩:=zp6 hv;obtain⟨p,hp,rfl⟩:=mem_keys.mp (X1.nwk z (YAz hz1));have pm:=X1.tok.inm p hp;have dg:DGet H4 dt (.int p.m) (some (.ref p.t)):=by
     have:=DGet.k (k:=Sum.inl p.m) X1.th.dict
     rw[zfm X1.tok.nod hp]at this;exact this
    refine⟨_,rfl,_,rfl,dt,_,rfl,dg,p.t,_,rfl,SqT.of (X1.th.node p hp).1,rfl,_,_,rfl,_,_,rfl,rfl,?_⟩;obtain⟨l1,e1⟩:∃l1,ad[p.m.toNat]?=some l1:=⟨_,YAe (by omega)⟩;have at1:atI (ad.map V.ref) p.m=some (.ref l1):=by
     have q:=zdJ (xs:=ad.map V.ref) (j:=p.m.toNat) (v:=.ref l1) (by rw[YAo,e1];rfl)
     rwa[YBw pm.1]at q
    have St4:=St.same X1.same;refine⟨_,rfl,_,rfl,ls,_,_,_,rfl,rfl,SqL.of St4.top,at1,l1,rfl,⟨_,SqL.of (St4.row _ _ e1)⟩,zfe (K:=K) (a:=l1) (xs:=(cs p.m.toNat).map triV) (λj Y H5=>∃(ns':List Nd)(fr:List Int)(o8 o9 o10:Option V),Y=[some (.int start),some (.ref ls),some (.ref dt),some (.ref ln),some (.ref lf),some (.int p.m),some (.int p.h),some (.ref p.lt),o8,o9,o10]/\TI K H rs hs start n dt ln lf nw ns.length H5 ns' fr/\p∈ns' /\
     (∀x∈ns',x.m∈nw.drop (i+1)\/x.m∈fr\/Closed cs ns' x.m\/(x.m=p.m/\∀t∈(cs p.m.toNat).take j,t.e∈zaw ns'))/\(ns'.map zbu,fr)=((stepsF rs hs rs.length p.m.toNat).take j).foldl (ex1 (zbu p)) (ns1.map zbu,fr1))
     ⟨ns1,fr1,_,_,_,rfl,X1,hp,(λx hx=>?_),rfl⟩ (λj Y H5 _ ⟨_,_,_,_,_,_,X,_⟩=>SqL.of ((St.same X.same).row _ _ e1)) ?_ ?_⟩
    .rcases C1 x hx with q|q|q
     .rw[zpj hz1]at q;rcases YAn.mp q with q|q
      .exact .inr (.inr (.inr ⟨q,λt ht=>by rw[List.take_zero]at ht;cases ht⟩))
      .exact .inl q
     .exact .inr (.inl q)
     .exact .inr (.inr (.inl q))
    .rintro j v Y H5 hv2 ⟨ns2,fr2,q8,q9,q10,rfl,X2,hp2,C2,P2⟩;obtain⟨t,ht,rfl⟩:∃t,(cs p.m.toNat)[j]?=some t/\v=.ref t.p:=by
      rw[YAo]at hv2;cases e:(cs p.m.toNat)[j]? with
      |none=>rw[e]at hv2;cases hv2
      |some t=>rw[e]at hv2;exact⟨t,rfl,(Option.some.inj hv2).symm⟩
     have htm:=YAz ht;have hsj:(stepsF rs hs rs.length p.m.toNat)[j]?=some (triC t):=by rw[<-So.cont,YAo,ht];rfl
     have St5:=St.same X2.same;refine⟨t.p,_,rfl,SqT.of (St5.tri _ t (by omega) htm),rfl,_,_,rfl,_,_,rfl,_,_,rfl,rfl,?_⟩;refine⟨_,rfl,_,rfl,dt,_,rfl,DGet.k (k:=Sum.inl t.e) X2.th.dict,_,rfl,?_⟩;cases hv3:valV (ns2.map ndK) (Sum.inl t.e)with
     |some v3=>
      have hk:t.e∈zaw ns2:=by
       by_cases c:t.e∈zaw ns2
       .exact c
       .rw[valV_none.mpr c]at hv3;cases hv3
      refine iteF ⟨ns2,fr2,_,_,_,rfl,X2,hp2,(λx hx=>?_),by
       rw[zeI _ _ hsj,<-P2];unfold ex1;rw[if_pos (by rw[zim];exact hk)]⟩
      rcases C2 x hx with q|q|q|⟨q1,q2⟩
      .exact .inl q
      .exact .inr (.inl q)
      .exact .inr (.inr (.inl q))
      .refine .inr (.inr (.inr ⟨q1,λu hu=>?_⟩));rw[zcd ht]at hu;rcases YAk.mp hu with hu|hu
       .exact q2 u hu
       .rw[YAg.mp hu];exact hk
     |none=>
      have hk:t.e∉zaw ns2:=valV_none.mp hv3;have few:=X2.tok.few p hp2;have hlen:=X2.tok.len;refine iteT ?_;refine⟨_,rfl,_,rfl,_,_,rfl,rfl,_,rfl,_,rfl,by show 1<=sizeLine;decide,λtn htn=>?_⟩;refine⟨p.lt,tn,_,_,rfl,rfl,zck (tp:=true) (zan htn) (X2.th.node p hp2).2,SqT.of zac,(by rw[YAc,YAO];show _+1<=_;omega),λlt H6 S6 hlt=>?_⟩;refine⟨by show 2<=sizeLine;decide,λtt htt=>?_⟩;have X3:=X2.grow (((zan (o:=.tup [.int t.n]) htn).trans S6).trans (zan (o:=.tup [.int (p.h+t.d),.ref lt]) htt));have hlt':SqT K (upd H6 tt (.tup [.int (p.h+t.d),.ref lt])) lt ((p.line++[t.n]).map V.int):=by
       rw[YAy];exact zck (tp:=true) (zan htt) hlt
      have htt':upd H6 tt (.tup [.int (p.h+t.d),.ref lt]) tt=some (.tup [.int (p.h+t.d),.ref lt]):=zac;generalize upd H6 tt (.tup [.int (p.h+t.d),.ref lt])=H7 at *;refine⟨_,rfl,_,rfl,dt,_,rfl,DPut.k (k:=Sum.inl t.e) X3.th.dict (by rw[YAc,YAO];omega),?_⟩;have ndl:dt≠lf:=λz=>by have:=X3.th.dict;rw[z,X3.hlf]at this;cases this
      have hlf8:upd H7 dt (.dK (putK (ns2.map ndK) (Sum.inl t.e) (.ref tt))) lf=some (.lst (fr2.map V.int)):=by rw[zaf ndl.symm];exact X3.hlf
      have hcnt:=X2.cnt;refine⟨_,rfl,.inl ⟨rfl,_,SqL.of hlf8⟩,_,rfl,lf,_,_,rfl,rfl,hlf8,by rw[YAc,YAO];omega,?_⟩;have X4:=X3.add VM hdt fl nll hp2 (So.sound _ t htm) hk htt' hlt';refine⟨_,_,_,_,_,rfl,X4,YAx _ hp2,(λx hx=>?_),by
       rw[zeI _ _ hsj,<-P2];unfold ex1;rw[if_neg (by rw[zim];exact hk),YAy];rfl⟩
      rcases YAk.mp hx with hx|hx
      .rcases C2 x hx with q|q|q|⟨q1,q2⟩
       .exact .inl q
       .exact .inr (.inl (YAx _ q))
       .exact .inr (.inr (.inl q.snoc))
       .refine .inr (.inr (.inr ⟨q1,λu hu=>?_⟩));rw[zb9];rw[zcd ht]at hu;rcases YAk.mp hu with hu|hu
        .exact YAx _ (q2 u hu)
        .rw[YAg.mp hu];exact YAl _ YAi
      .rw[YAg.mp hx];exact .inr (.inl (YAl _ YAi))
    .rintro Y H5 ⟨ns2,fr2,q8,q9,q10,rfl,X2,hp2,C2,P2⟩;refine⟨ns2,fr2,_,_,_,_,_,_,rfl,X2,(λx hx=>?_),by
      have el:((cs p.m.toNat).map triV).length=(stepsF rs hs rs.length p.m.toNat).length:=by rw[<-So.cont,YAc,YAc]
      rw[el,YBJ]at P2;rw[zeI _ _ hz1,<-P1,P2];unfold exM;rw[zb7 X1.tok.nod hp]⟩
     rcases C2 x hx with q|q|q|⟨q1,q2⟩
     .exact .inl q
     .exact .inr (.inl q)
     .exact .inr (.inr q)
     .refine .inr (.inr λt ht=>q2 t ?_);rw[YAc,YBJ,<-q1];exact ht
   .rintro Y H4 ⟨ns1,fr1,p5,p6,p7,p8,p9,p10,rfl,X1,C1,P1⟩;refine⟨_,rfl,2*(n-ns1.length)+(if fr1=[]then 0 else 1),?_,?_⟩
    .have h1:=X1.cnt;have h2:=X1.tok.len;rw[hm,if_neg hnw];by_cases c:fr1=[]
     .rw[if_pos c];have hz0:fr1.length=0:=by rw[c];rfl
      omega
     .rw[if_neg c]
      have:0<fr1.length:=List.length_pos_iff.mpr c
      omega
    .rw[hW];refine⟨ns1,fr1,lf,_,_,_,_,_,_,_,rfl,rfl,X1.same,X1.th,X1.tok,X1.hlf,X1.frk,(λx hx=>?_),kq+1,by
      rw[YAc,YBJ]at P1;show exL _ (itT _ start kq).1 (itT _ start kq).2=_;rw[hkq,P1];rfl⟩
     rcases C1 x hx with q|q|q
     .rw[YAc,YBR]at q;cases q
     .exact .inl q
     .exact .inr q
  .have hnw:nw=[]:=by
    cases nw with
    |nil=>rfl
    |cons a b=>simp at hne
   refine⟨_,rfl,k dt ns H2 S2 hdt TH TO (zmg VM TO So λx hx=>(hcl x hx).elim (λq=>by rw[hnw]at q;cases q) λq=>q) ⟨kq,by rw[hkq,hnw]⟩⟩
def scSomeLine:FnScope ["size","runs","struck","one","other","tree","height","line"] ["size","runs","struck","one","other"] (zat zca):=⟨rfl,rfl,rfl,by decide +kernel,rfl,by decide +kernel,by decide +kernel⟩
def zde{f:Addr}{fd:FuncData}(F:Fun K "some_line" "some_line" zca f fd)(cF:Cal P w K mg base "steps_from" 1 ["size","runs","struck"] (zhM K))(cR:Cal P w K mg base "tree_from" 1 ["start","steps"] (zjO K)):FnOk P w K mg base CX0 2 f fd ["size","runs","struck","one","other"] (zk3 K):=by
 refine F.ok scSomeLine (λvs H Q E h=>?_) (λcdv A outer s0 H vs Q E hr h=>?_)
 .obtain⟨n,a,s,rs,hs,one,oW,rfl,_⟩:=h;rfl
 .obtain⟨n,a,s,rs,hs,one,oW,rfl,ha,R,VM,hsq,h0,h1,hn,hz,k⟩:=h;have nd:=scSomeLine.nd;have hu:=znx hr;refine⟨_,zam (zbn (i:=5) nd rfl (Or.inl rfl) (zej cR hr rfl (zag (pv 3) (zag (zej cF hr rfl (zag (pv 0) (zag (pv 1) (zag (pv 2) zav)))) zav))))
   (zam (zeu (ziC (zfu hu (pv 4) (pv 5))) (zaA (zbI zkE)) zbL)
   (zam (zdv (zhL hu (pv 5) (pv 4) (λ_ _=>rfl)) (zcB (n:=2) rfl (zad (zaz (i:=6) nd rfl (Or.inl rfl)) (zad (zaz (i:=7) nd rfl (Or.inl rfl)) zaG))))
   (zaA (zbI (pv 7))))),?_⟩
  refine⟨_,rfl,_,rfl,_,rfl,_,rfl,n,a,s,rs,hs,rfl,ha,R,VM,hsq,hn,hz,λls ad cs H1 S1 hal St So _ _=>?_⟩;refine⟨one,ls,n,ad,cs,rs,hs,rfl,h0,h1,St,hal,So,VM,hn,hz,λdt ns H2 S2 hdt TH TO hk hT=>?_⟩;have S3:=S1.trans S2;refine⟨_,rfl,_,rfl,dt,_,rfl,DGet.k (k:=Sum.inl oW) TH.dict,_,rfl,?_⟩;cases hv:valV (ns.map ndK) (Sum.inl oW)with
  |none=>
   refine iteT ?_;exact k .non H2 S3 ⟨ns,TO,hT,hk,.inl ⟨rfl,valV_none.mp hv⟩⟩
  |some v=>
   have hk1:oW∈zaw ns:=by
    by_cases c:oW∈zaw ns
    .exact c
    .rw[valV_none.mpr c]at hv;cases hv
   obtain⟨x,hx,rfl⟩:=mem_keys.mp hk1;have dg:DGet H2 dt (.int x.m) (some (.ref x.t)):=by
    have:=DGet.k (k:=Sum.inl x.m) TH.dict
    rw[zfm TO.nod hx]at this;exact this
   refine iteF ⟨_,rfl,_,rfl,dt,_,rfl,dg,x.t,_,rfl,SqT.of (TH.node x hx).1,rfl,_,_,rfl,_,_,rfl,rfl,?_⟩;exact⟨_,rfl,k _ H2 S3 ⟨ns,TO,hT,hk,.inr ⟨x,hx,rfl,rfl,(TH.node x hx).2⟩⟩⟩
def scTrees:FnScope ["size","runs","struck","steps","trees","reached","mark","tree"] ["size","runs","struck"] (zat zdn):=⟨rfl,rfl,rfl,by decide +kernel,rfl,by decide +kernel,by decide +kernel⟩
def zn0{f:Addr}{fd:FuncData}(F:Fun K "trees_of" "trees_of" zdn f fd)(T:Txt K mg)(cF:Cal P w K mg base "steps_from" 1 ["size","runs","struck"] (zhM K))(cR:Cal P w K mg base "tree_from" 1 ["start","steps"] (zjO K)):FnOk P w K mg base CX0 2 f fd ["size","runs","struck"] (zdx K):=by
 refine F.ok scTrees (λvs H Q E h=>?_) (λcdv A outer s0 H vs Q E hr h=>?_)
 .obtain⟨n,a,s,rs,hs,rfl,_⟩:=h;rfl
 .obtain⟨n,a,s,rs,hs,rfl,ha,R,VM,hsq,hn,hz,k⟩:=h;have nd:=scTrees.nd;have hu:=znx hr;refine⟨_,zam (zbn (i:=3) nd rfl (Or.inl rfl) (zej cF hr rfl (zag (pv 0) (zag (pv 1) (zag (pv 2) zav)))))
   (zam (zbn (i:=4) nd rfl (Or.inl rfl) (zeh zav))
   (zam (zbn (i:=5) nd rfl (Or.inl rfl) zkD)
   (zam (zdR YBt rfl (zfq rfl T.range (zag (pv 0) zav)) (zaz (i:=6) nd rfl (Or.inl rfl))
    (zaA (zeu (ziC (zfu hu (pv 6) (pv 5)))
     (zam (zbn (i:=7) nd rfl (Or.inl rfl) (zej cR hr rfl (zag (pv 6) (zag (pv 3) zav))))
     (zam (zdb (zmK (pv 5) (pv 7) ⟨rfl,rfl,rfl,rfl⟩))
     (zaA (zdb (zkM YBG YBA YBB zbQ (pv 4) (zag (pv 7) zav)))))) zbL)))
   (zaA (zbI (pv 4)))))),?_⟩
  refine⟨_,rfl,_,rfl,_,rfl,n,a,s,rs,hs,rfl,ha,R,VM,hsq,hn,hz,λls ad cs H1 S1 hal St So _ _=>?_⟩;refine⟨by show 0<=sizeLine;exact YAC _,λlt hlt=>?_⟩;intro dr hdr;have S2:=zan (o:=.lst []) hlt;have S3:=S2.trans (zan (o:=.dK []) hdr);have hlt3:upd (upd H1 lt (.lst [])) dr (.dK []) lt=some (.lst (([]:List TR).map trV)):=zan hdr _ _ zac;have hdr3:upd (upd H1 lt (.lst [])) dr (.dK []) dr=some (.dK (([]:List Nd).map ndK)):=zac;have fdr:H1 dr=none:=S2.free hdr;generalize upd (upd H1 lt (.lst [])) dr (.dK [])=H3 at *;refine⟨_,rfl,n,rfl,by omega,by omega,?_⟩;refine zlU (n:=((n:Nat):Int).toNat) (λi Y H4=>∃(ts:List TR)(rns:List Nd)(o6 o7:Option V),Y=[some (.int n),some (.ref a),some (.ref s),some (.ref ls),some (.ref lt),some (.ref dr),o6,o7]/\Same H1 H4/\H4 lt=some (.lst (ts.map trV))/\H4 dr=some (.dK (rns.map ndK))/\(∀t∈ts,TreeAt K H4 n rs hs t/\t.d≠dr)/\Firsts i (usable hs rs) (ts.map TR.st)/\(zaw rns).Nodup/\(∀x∈rns,0<=x.m/\x.m<n)/\(∀j,j∈zaw rns↔∃m:Int,0<=m/\m<i/\Conn (usable hs rs) m j)/\ts.length<=i/\(∀t∈ts,H1 t.d=none)/\(ts.map TR.d).Nodup)
   ⟨[],[],_,_,rfl,S3,hlt3,hdr3,(λt h=>by cases h),⟨List.Pairwise.nil,λm=>⟨(λh=>by cases h),λh=>absurd h.2.1 (by have:=h.1;omega)⟩⟩,YCR,(λx h=>by cases h),(λj=>⟨(λh=>by cases h),λ⟨m,h0,h1,_⟩=>absurd h1 (by omega)⟩),YAj _,(λt h=>by cases h),YCR⟩ ?_ ?_
  .rintro i Y H4 hi ⟨ts,rns,o6,o7,rfl,S4,h4t,h4r,hts,hF,hnd,hin,hk,hlen,hfd,hdd⟩;rw[YAE]at hi;have e0:(0:Int)+(i:Int)=(i:Int):=by omega
   have i0:(0:Int)<=0+(i:Int):=by omega
   have i1:(0:Int)+(i:Int)<(n:Int):=by omega
   have hrl:rns.length<=n:=by
    have h:=zaX (xs:=(List.range n).map Int.ofNat) hnd λk hk=>by
     obtain⟨x,hx,rfl⟩:=mem_keys.mp hk
     have:=hin x hx
     refine YAF.mpr ⟨x.m.toNat,YBg.mpr (by omega),?_⟩;show((x.m.toNat:Nat):Int)=x.m;omega
    unfold zaw at h
    simpa using h
   refine⟨_,rfl,_,rfl,dr,_,rfl,DGet.k (k:=Sum.inl (0+(i:Int))) h4r,_,rfl,?_⟩;cases hv:valV (rns.map ndK) (Sum.inl (0+(i:Int)))with
   |some v=>
    have hk1:(0+(i:Int))∈zaw rns:=by
     by_cases c:(0+(i:Int))∈zaw rns
     .exact c
     .rw[valV_none.mpr c]at hv;cases hv
    have hex:=(hk _).mp hk1;rw[e0]at hex;refine iteF ⟨ts,rns,_,_,rfl,S4,h4t,h4r,hts,hF.no hex,hnd,hin,(λj=>?_),by omega,hfd,hdd⟩;rw[hk j];constructor
    .rintro⟨m,a1,a2,a3⟩;exact⟨m,a1,by omega,a3⟩
    .rintro⟨m,a1,a2,a3⟩;by_cases e:m=i
     .obtain⟨q,q0,q1,qc⟩:=hex;exact⟨q,q0,q1,qc.trans (e▸a3)⟩
     .exact⟨m,a1,by omega,a3⟩
   |none=>
    have hk1:=valV_none.mp hv;have hex:¬ ∃m:Int,0<=m/\m<i/\Conn (usable hs rs) m i:=λh=>hk1 ((hk _).mpr (by rw[e0];exact h));refine iteT ?_;refine⟨_,rfl,_,rfl,0+i,ls,n,ad,cs,rs,hs,rfl,i0,i1,St.same S4,hal,So,VM,hn,hz,λdt ns H5 S5 hdt TH TO hkk hT=>?_⟩;have h5r:=S5 _ _ h4r;have h5t:=S5 _ _ h4t;have ndt:dr≠dt:=zae h4r hdt;have hnl:=TO.len;refine⟨_,rfl,dr,rfl,.inl ⟨_,.inl h5r⟩,_,rfl,dt,_,_,rfl,ndt,h5r,TH.dict,(by rw[YAc,YAc,YAO];omega),?_⟩;have hdis:∀j∈zaw ns,j∉zaw rns:=λj hj hj2=>by
     obtain⟨m,m0,m1,mc⟩:=(hk j).mp hj2
     have:=(hkk j).mp hj
     rw[e0]at this;exact hex ⟨m,m0,m1,mc.trans this.symm⟩
    have kk1:∀l:List Nd,(l.map ndK).map (·.1)=(zaw l).map Sum.inl:=λl=>by unfold zaw;rw[YAK,YAK];rfl
    have emg:mergeK (rns.map ndK) (ns.map ndK)=(rns++ns).map ndK:=by
     rw[zcL,YAy]
     .intro kk hkx hkr;rw[kk1]at hkx hkr;obtain⟨x,hx,rfl⟩:=YAF.mp hkx;obtain⟨y,hy,e⟩:=YAF.mp hkr;have e':y=x:=Sum.inl.inj e;exact hdis x hx (e'▸hy)
     .rw[kk1];exact List.Pairwise.map _ (λa b h z=>h (Sum.inl.inj z)) TO.nod
    rw[emg];have ltr:lt≠dr:=λz=>by rw[z,h5r]at h5t;cases h5t
    have h6t:upd H5 dr (.dK ((rns++ns).map ndK)) lt=some (.lst (ts.map trV)):=by rw[zaf ltr];exact h5t
    refine⟨_,rfl,.inl ⟨rfl,_,SqL.of h6t⟩,_,rfl,lt,_,_,rfl,rfl,h6t,(by rw[YAc,YAO];omega),?_⟩;have new:TreeAt K H5 n rs hs ⟨dt,0+i,ns⟩:=⟨TH,TO,hkk,hT,i0,i1⟩;refine⟨ts++[⟨dt,0+i,ns⟩],rns++ns,_,_,rfl,λc o e=>?_,?_,?_,λt ht=>?_,?_,?_,λx hx=>?_,(λj=>?_),by rw[YAq];exact YC3 hlen 1,(λt ht=>?_),?_⟩
    .rw[zaf (zae e hlt),zaf (zae e fdr)];exact S5 _ _ (S4 c o e)
    .rw[zac,YAy];rfl
    .rw[zaf ltr.symm,zac]
    .have up:∀t:TR,TreeAt K H5 n rs hs t->t.d≠dr->TreeAt K (upd (upd H5 dr (.dK ((rns++ns).map ndK))) lt (.lst (ts.map trV++[.ref dt]))) n rs hs t:=λt ht hne=>by
      have t6:=ht.upd (o':=.dK ((rns++ns).map ndK)) h5r trivial hne;refine t6.upd h6t trivial λz=>?_
      have:=t6.th.dict
      rw[z,h6t]at this;cases this
     rcases YAk.mp ht with q|q
     .exact⟨up t ((hts t q).1.same S5) (hts t q).2,(hts t q).2⟩
     .rw[YAg.mp q];exact⟨up _ new ndt.symm,ndt.symm⟩
    .rw[YAy];show Firsts (i+1) _ (ts.map TR.st++[0+(i:Int)]);rw[e0];exact hF.yes hex
    .unfold zaw;rw[YAy];exact YCz.mpr ⟨hnd,TO.nod,λx hx y hy e=>hdis y hy (e▸hx)⟩
    .rcases YAk.mp hx with q|q
     .exact hin x q
     .exact TO.inm x q
    .unfold zaw;rw[YAy,YAk];show(j∈zaw rns\/j∈zaw ns)↔_;rw[hk j,hkk j,e0];constructor
     .rintro(⟨m,a1,a2,a3⟩|a3)
      .exact⟨m,a1,by omega,a3⟩
      .exact⟨i,by omega,by omega,a3⟩
     .rintro⟨m,a1,a2,a3⟩;by_cases e:m=i
      .exact .inr (e▸a3)
      .exact .inl ⟨m,a1,by omega,a3⟩
    .rcases YAk.mp ht with q|q
     .exact hfd t q
     .rw[YAg.mp q];exact S4.free hdt
    .rw[YAy];refine zgX hdd λq=>?_;obtain⟨t,ht,e⟩:=YAF.mp q
     have:=(hts t ht).1.th.dict
     rw[e]at this;exact zae this hdt rfl
  .rintro Y H4 ⟨ts,rns,o6,o7,rfl,S4,h4t,h4r,hts,hF,hnd,hin,hk,hlen,hfd,hdd⟩;rw[YAE]at hF hlen;exact⟨_,rfl,k lt ts H4 (S1.trans S4) (S1.free hlt) h4t (λt ht=>(hts t ht).1) hF hlen (λt ht=>S1.free (hfd t ht)) hdd⟩
def scFlat:FnScope ["size","runs","heights","tree","mark","height","line"] ["size","runs"] (zat zjs):=⟨rfl,rfl,rfl,by decide +kernel,rfl,by decide +kernel,by decide +kernel⟩
def zjj{f:Addr}{fd:FuncData}(F:Fun K "flat" "flat" zjs f fd)(cT:Cal P w K mg base "trees_of" 2 ["size","runs","struck"] (zdx K))(cH:Cal P w K mg base "holds" 1 ["runs","heights"] (zi9 K)):FnOk P w K mg base CX0 3 f fd ["size","runs"] (zqI K):=by
 refine F.ok scFlat (λvs H Q E h=>?_) (λcdv A outer s0 H vs Q E hr h=>?_)
 .obtain⟨n,a,rs,rfl,_⟩:=h;rfl
 .obtain⟨n,a,rs,rfl,ha,R,VM,hn,hz,kN,k⟩:=h;have nd:=scFlat.nd;have hr1:Room 1 _:=hr.mono (by decide);refine⟨_,zam (zbn (i:=2) nd rfl (Or.inl rfl) (zb3 zma (zeh (zag zaI zav)) (pv 0)))
   (zam (zdR YBt rfl (zeK (zej cT hr rfl (zag (pv 0) (zag (pv 1) (zag (zeh zav) zav))))) (zaz (i:=3) nd rfl (Or.inl rfl))
    (zaA (zdR YBt rfl (zox (pv 3)) (zcB (n:=2) rfl (zad (zaz (i:=4) nd rfl (Or.inl rfl)) (zad (zcB (n:=2) rfl (zad (zaz (i:=5) nd rfl (Or.inl rfl)) (zad (zaz (i:=6) nd rfl (Or.inl rfl)) zaG))) zaG)))
     (zaA (zdv (pv 5) (ziE (pv 2) (pv 4) zcH))))))
   (zam (zeu (zrh (zej cH hr1 rfl (zag (pv 1) (zag (pv 2) zav)))) (zaA (zbI (pv 2))) zbL)
   (zaA (zbI zkE)))),?_⟩
  refine⟨by show 1<=sizeLine;decide,λl0 hl0=>?_⟩;have S0:=zan (o:=.lst [.int 0]) hl0;refine⟨_,rfl,l0,n,_,rfl,rfl,zac,by omega,by omega,(by rw[YAO];show 1*_<=_;omega),λlh hlh=>?_⟩;have S1:=S0.trans (zan (o:=.lst (List.replicate ((n:Int)).toNat [V.int 0]).flatten) hlh);have fh:H lh=none:=S0.free hlh;have efl:(List.replicate ((n:Int)).toNat [V.int 0]).flatten=(List.replicate n (0:Int)).map V.int:=by
   rw[YAE,YDr];exact zjS _ n
  have hlh1:(upd (upd H l0 (.lst [.int 0])) lh (.lst (List.replicate ((n:Int)).toNat [V.int 0]).flatten)) lh=some (.lst ((List.replicate n (0:Int)).map V.int)):=by rw[zac,efl]
  generalize (upd (upd H l0 (.lst [.int 0])) lh (.lst (List.replicate ((n:Int)).toNat [V.int 0]).flatten))=H1 at *;refine⟨_,rfl,_,rfl,by show 0<=sizeLine;exact YAC _,λle hle=>?_⟩;have S2:=S1.trans (zan (o:=.lst []) hle);have hlh2:=zan (o:=.lst []) hle _ _ hlh1;refine⟨n,a,le,rs,[],rfl,S2.seq ha,R.same S2,VM,SqL.of zac,hn,hz,λlt ts H3 S3 hlt hlt3 hts hF htl hfd hdd=>?_⟩;have S4:=S2.trans S3;have hlh3:=S3 _ _ hlh2;have nlt:lt≠lh:=(zae hlh2 hlt).symm;have flt:H lt=none:=S2.free hlt;have ffd:∀t∈ts,H t.d=none:=λt h=>S2.free (hfd t h);generalize upd H1 le (.lst [])=H2 at *;have one:=λ{t u:TR} (a1:t∈ts) (b1:u∈ts) {x y:Nd} (hx:x∈t.ns) (hy:y∈u.ns) (e:x.m=y.m)=>zmo hts hF a1 b1 hx hy e;have cover:=λ{i:Int} (h0:0<=i) (h1:i<n)=>zdI hts hF h0 h1;refine⟨lt,rfl,⟨_,SqL.of hlt3⟩,zfe (K:=K) (a:=lt) (xs:=ts.map trV) (λi Y H4=>∃(hts':List Int)(o3 o4 o5 o6:Option V),Y=[some (.int n),some (.ref a),some (.ref lh),o3,o4,o5,o6]/\Same H H4/\H4 lt=some (.lst (ts.map trV))/\H4 lh=some (.lst (hts'.map V.int))/\hts'.length=n/\(∀t∈ts.drop i,TreeAt K H4 n rs [] t)/\∀t∈ts.take i,∀x∈t.ns,gI hts' x.m=x.h)
   ⟨_,_,_,_,_,rfl,S4,hlt3,hlh3,by simp,hts,(λt h=>by cases h)⟩ (λi Y H4 _ ⟨_,_,_,_,_,_,_,h,_⟩=>SqL.of h) ?_ ?_⟩
  .rintro i v Y H4 hv ⟨hts1,o3,o4,o5,o6,rfl,S5,h4t,h4h,l1,hT,hW⟩;obtain⟨t,ht,rfl⟩:∃t,ts[i]?=some t/\v=.ref t.d:=by
    rw[YAo]at hv;cases e:ts[i]? with
    |none=>rw[e]at hv;cases hv
    |some t=>rw[e]at hv;exact⟨t,rfl,(Option.some.inj hv).symm⟩
   obtain⟨hi1,hi2⟩:=YAh.mp ht;have htm:t∈ts:=YAz ht;have edrop:ts.drop i=t::ts.drop (i+1):=by rw[YAL hi1,hi2]
   have Tt:TreeAt K H4 n rs [] t:=hT t (by rw[edrop];exact YAi);have rest:∀u∈ts.drop (i+1),u.d≠t.d:=λu hu e=>by
    obtain⟨j,hj⟩:=YBT hu;rw[YDq]at hj;have h1:(ts.map TR.d)[i+1+j]?=some t.d:=by rw[YAo,hj,<-e];rfl
    have h2:(ts.map TR.d)[i]?=some t.d:=by rw[YAo,ht];rfl
    have:=zj4 hdd h1 h2
    omega
   refine⟨_,rfl,t.d,_,rfl,Tt.th.dict,λo=>?_⟩;have n1:t.d≠lt:=λz=>by have:=Tt.th.dict;rw[z,h4t]at this;cases this
   have n2:t.d≠lh:=λz=>by have:=Tt.th.dict;rw[z,h4h]at this;cases this
   refine zlK (d:=t.d) (o:=o) (kvs:=t.ns.map ndK) (λj Y H5=>∃(hts':List Int)(o4 o5 o6:Option V),Y=[some (.int n),some (.ref a),some (.ref lh),some (.ref t.d),o4,o5,o6]/\Same H H5/\H5 lt=some (.lst (ts.map trV))/\H5 t.d=some (.frz o (.dK (t.ns.map ndK)))/\H5 lh=some (.lst (hts'.map V.int))/\hts'.length=n/\(∀u∈ts.drop (i+1),TreeAt K H5 n rs [] u)/\(∀u∈ts.take i,∀x∈u.ns,gI hts' x.m=x.h)/\(∀x∈t.ns.take j,gI hts' x.m=x.h)/\∀x∈t.ns,H5 x.t=some (.tup [.int x.h,.ref x.lt]))
    ⟨hts1,_,_,_,rfl,λc o' e=>?_,?_,zac,?_,l1,λu hu=>?_,hW,(λx h=>by cases h),λx hx=>?_⟩ (λj Y H5 _ ⟨_,_,_,_,_,_,_,h,_⟩=>h) ?_ ?_
   .rw[zaf (zae e (ffd t htm))];exact S5 c o' e
   .rw[zaf n1.symm];exact h4t
   .rw[zaf n2.symm];exact h4h
   .exact(hT u (by rw[edrop];exact YAp _ hu)).upd Tt.th.dict trivial (rest u hu)
   .exact zer (Tt.th.node x hx).1 Tt.th.dict trivial
   .rintro j kk vv tt Y H5 hkv htt ⟨hts2,q4,q5,q6,rfl,S6,h5t,h5d,h5h,l2,hT5,hW5,hV5,hN5⟩;obtain⟨x,hx,ek⟩:∃x,t.ns[j]?=some x/\(kk,vv)=ndK x:=by
     rw[YAo]at hkv;cases e:t.ns[j]? with
     |none=>rw[e]at hkv;cases hkv
     |some x=>rw[e]at hkv;exact⟨x,rfl,(Option.some.inj hkv).symm⟩
    unfold ndK at ek;injection ek with ek1 ek2
    subst ek1 ek2;have hxm:x∈t.ns:=YAz hx;have xb:=Tt.tok.inm x hxm;have Sn:=zan (o:=.tup [kV (Sum.inl x.m),.ref x.t]) htt;refine⟨tt,_,rfl,SqT.of zac,rfl,_,_,rfl,_,_,rfl,x.t,_,rfl,SqT.of (Sn _ _ (hN5 x hxm)),rfl,_,_,rfl,_,_,rfl,rfl,rfl,?_⟩;have h6h:=Sn _ _ h5h;refine⟨_,rfl,_,rfl,_,rfl,lh,_,x.m,_,rfl,rfl,h6h,zrG xb.1 (by rw[YAc,l2];exact xb.2),?_⟩;have n3:t.d≠lh:=n2;refine⟨hts2.set x.m.toNat x.h,_,_,_,rfl,λc o' e=>?_,?_,?_,by rw[zac,znT],by rw[List.length_set];exact l2,λu hu=>?_,λu hu y hy=>?_,λy hy=>?_,λy hy=>?_⟩
    .rw[zaf (zae e fh)];exact Sn _ _ (S6 c o' e)
    .rw[zaf nlt];exact Sn _ _ h5t
    .rw[zaf n3];exact Sn _ _ h5d
    .have u6:=(hT5 u hu).same Sn;refine u6.upd h6h trivial λz=>?_
     have:=u6.th.dict
     rw[z,h6h]at this;cases this
    .have hum:u∈ts:=YCa hu;have yb:=(hts u hum).tok.inm y hy;rw[zgz (by omega) yb.1];by_cases c:y.m=((x.m.toNat:Nat):Int)
     .rw[if_pos c];exact one htm hum hxm hy (by omega)
     .rw[if_neg c];exact hW5 u hu y hy
    .rw[zcd hx]at hy;have yt:y∈t.ns:=by
      rcases YAk.mp hy with q|q
      .exact YCa q
      .rw[YAg.mp q];exact hxm
     have yb:=Tt.tok.inm y yt;rw[zgz (by omega) yb.1];by_cases c:y.m=((x.m.toNat:Nat):Int)
     .rw[if_pos c];exact one htm htm hxm yt (by omega)
     .rw[if_neg c];rcases YAk.mp hy with q|q
      .exact hV5 y q
      .rw[YAg.mp q]at c;exact absurd (by omega) c
    .exact zer (Sn _ _ (hN5 y hy)) h6h trivial
   .rintro Y H5 ⟨hts2,q4,q5,q6,rfl,S6,h5t,h5d,h5h,l2,hT5,hW5,hV5,hN5⟩;rw[YAc,YBJ]at hV5;refine⟨hts2,_,_,_,_,rfl,S6,h5t,h5h,l2,hT5,λu hu y hy=>?_⟩;rw[zcd ht]at hu;rcases YAk.mp hu with q|q
    .exact hW5 u q y hy
    .rw[YAg.mp q]at hy;exact hV5 y hy
  .rintro Y H4 ⟨hts1,o3,o4,o5,o6,rfl,S5,h4t,h4h,l1,hT,hW⟩;rw[YAc,YBJ]at hW;refine⟨_,rfl,_,rfl,a,lh,rs,hts1,rfl,S5.seq ha,R.same S5,SqL.of h4h,by rw[l1];exact VM,hz,λl o hl=>⟨_,rfl,?_⟩⟩;have S6:=S5.trans (zan (o:=o) hl);refine ite2 (λhb=>?_) (λhb=>?_)
   .refine⟨_,rfl,k lh hts1 _ S6 fh (zan hl _ _ h4h) ⟨l1,holds_iff.mp hb,λm m0 m1 mf=>?_⟩⟩;have hm:=(hF.2 m).mpr ⟨m0,m1,by rw[zcu];exact mf⟩;obtain⟨t,htm,e⟩:=YAF.mp hm;obtain⟨x,hx,ex⟩:=mem_keys.mp (hts t htm).tok.start;rw[<-e,<-ex,hW t htm x hx];exact zlN (hts t htm) hx ex
   .refine kN _ S6 λf hf=>hb (holds_iff.mpr λr hr=>?_);have V0:=VM r hr;obtain⟨t,htm,x,hx,ex⟩:=cover V0.1 V0.2.1;have Tt:=hts t htm;have ko:r.oW∈zaw t.ns:=(Tt.keys _).mpr (by
     have:=(Tt.keys _).mp (mem_keys.mpr ⟨x,hx,ex⟩)
     rw[zcu]at this ⊢;exact this.trans (Conn.edge hr))
    obtain⟨y,hy,ey⟩:=mem_keys.mp ko;have h1:=zhJ hf (Tt.tok.walk x hx);have h2:=zhJ hf (Tt.tok.walk y hy);have h3:=hf r hr;have e1:=hW t htm x hx;have e2:=hW t htm y hy;rw[ex]at e1 h1;rw[ey]at e2 h2;rw[e1,e2];omega
def zom:FnScope ["size","runs"] ["size","runs"] (zat zc9):=⟨rfl,rfl,rfl,by decide +kernel,rfl,by decide +kernel,by decide +kernel⟩
def zfy{f:Addr}{fd:FuncData}(F:Fun K "groups" "groups" zc9 f fd)(T2:Txt2 mg)(cT:Cal P w K mg base "trees_of" 2 ["size","runs","struck"] (zdx K)):FnOk P w K mg base CX0 3 f fd ["size","runs"] (zor K):=by
 refine F.ok zom (λvs H Q E h=>?_) (λcdv A outer s0 H vs Q E hr h=>?_)
 .obtain⟨n,a,rs,rfl,_⟩:=h;rfl
 .obtain⟨n,a,rs,rfl,ha,R,VM,hn,hz,k⟩:=h;refine⟨_,zaA (zbI (zhj rfl (CompScope.of (N:=["size","runs"]) (osc:=zat zc9) (Nc:=["tree"]) (sub:=[none]) (by decide +kernel)) (zeK (zej cT hr rfl (zag (pv 0) (zag (pv 1) (zag (zeh zav) zav)))))
   (λ_ _ _ _ _=>zaz (i:=0) zoz rfl (Or.inl rfl) (Or.inr rfl)) (zdy rfl) zbg (λ_ _ _ _ _=>pif0)
   (λ_ _ _ _ _=>zbF (r:=zoQ) (zih rfl) rfl T2.sorted YCg (zag (pv 0) zav)))),?_⟩
  refine⟨_,rfl,_,rfl,by show 0<=sizeLine;exact YAC _,λle hle=>?_⟩;have S1:=zan (o:=.lst []) hle;refine⟨n,a,le,rs,[],rfl,S1.seq ha,R.same S1,VM,SqL.of zac,by omega,hz,λlt ts H3 S3 hlt hlt3 hts hF htl hfd hdd=>?_⟩;have S4:=S1.trans S3;clear S1 S3 hlt hle hfd;rw[zcu]at hF;refine⟨lt,rfl,⟨_,SqL.of hlt3⟩,λl hl=>?_⟩;have nlt:lt≠l:=zae hlt3 hl;refine zic (ys:=ts.map trV) (λi xs H2=>∃gs:List GR,xs=gs.map grV/\H2 l=some (.lst xs)/\Same H3 H2/\(∀g∈gs,H2 g.a=some (.lst (g.ms.map V.int))/\zpJ n rs g/\H3 g.a=none)/\gs.map GR.st=(ts.take i).map TR.st/\gs.length=i/\i<=ts.length)
   ⟨[],rfl,zac,zan hl,(λg h=>by cases h),rfl,rfl,YAC _⟩ ?_ ?_ ?_
  .rintro i xs H2 hi ⟨gs,rfl,h2,S2,_⟩;exact⟨S2.seq (SqL.of hlt3),h2⟩
  .rintro i x xs H2 hx ⟨gs,rfl,h2,S2,hg,hs,hgl,hi⟩;obtain⟨t,ht,rfl⟩:∃t,ts[i]?=some t/\x=.ref t.d:=by
    rw[YAo]at hx;cases e:ts[i]? with
    |none=>rw[e]at hx;cases hx
    |some t=>rw[e]at hx;exact⟨t,rfl,(Option.some.inj hx).symm⟩
   have hil:i<ts.length:=(YAh.mp ht).1;have X:=hts t (YAz ht);have hnl:=X.tok.len;refine zrm ?_;have ek:(t.ns.map λx=>(x.m,V.ref x.t)).map (·.1)=zaw t.ns:=by unfold zaw;rw[YAK];rfl
   refine⟨_,rfl,t.d,t.ns.map λx=>(x.m,V.ref x.t),rfl,?_,by rw[YAc];omega,by rw[ek];exact X.tok.nod,λl2 ms hl2 hp hm=>?_⟩
   .rw[YAK];exact S2 _ _ X.th.dict
   .rw[ek]at hm;have n2:l≠l2:=zae h2 hl2;have f2:H3 l2=none:=S2.free hl2;refine⟨zan hl2 _ _ h2,?_,gs++[⟨l2,t.st,ms⟩],by rw[YAy];rfl,zac,λc o e=>?_,λg hgm=>?_,?_,by rw[YAq,hgl];rfl,by omega⟩
    .rw[YAc,YAO];omega
    .rw[zaf (zae e hl)];exact zan hl2 _ _ (S2 c o e)
    .have old:∀c o,c≠l->H2 c=some o->upd (upd H2 l2 (.lst (ms.map V.int))) l (.lst (gs.map grV++[.ref l2])) c=some o:=λc o hc e=>by rw[zaf hc];exact zan hl2 _ _ e
     rcases YAk.mp hgm with h|h
     .obtain⟨g1,g2,g3⟩:=hg g h;refine⟨old _ _ (λz=>?_) g1,g2,g3⟩;rw[z,h2]at g1;cases gs with
      |nil=>cases h
      |cons y ys=>
       cases e:g.ms with
       |nil=>rw[e]at g1;cases g1
       |cons z zs=>rw[e]at g1;cases g1
     .rw[YAg.mp h];refine⟨?_,⟨hp,λj=>?_⟩,f2⟩
      .show upd _ l _ l2=_;rw[zaf n2.symm,zac]
      .show j∈ms↔_;rw[hm j];constructor
       .intro q;obtain⟨x,hx1,rfl⟩:=mem_keys.mp q;have b:=X.tok.inm x hx1;have c:=(X.keys _).mp q;rw[zcu]at c;exact⟨b.1,b.2,c⟩
       .rintro⟨_,_,c⟩;exact(X.keys j).mpr (by rw[zcu];exact c)
    .rw[zcd ht,YAy,YAy,hs];rfl
  .rintro xs H2 ⟨gs,rfl,h2,S2,hg,hs,hgl,_⟩;rw[YAc,YBJ]at hs;exact k l gs H2 (S4.trans S2) (S4.free hl) ⟨h2,λg hgm=>⟨(hg g hgm).1,(hg g hgm).2.1⟩,by rw[hs];exact hF⟩ λg hgm=>S4.free (hg g hgm).2.2
def scAcross:FnScope ["first","second","shared"] ["first","second"] (zat zev):=⟨rfl,rfl,rfl,by decide +kernel,rfl,by decide +kernel,by decide +kernel⟩
def zm5{f:Addr}{fd:FuncData}(F:Fun K "across" "across" zev f fd)(T:Txt K mg)(T6:mg "min"=none):FnOk P w K mg base CX0 1 f fd ["first","second"] (zhx K):=by
 refine F.ok scAcross (λvs H Q E h=>?_) (λcdv A0 outer s0 H vs Q E hr h=>?_)
 .obtain⟨a,b,A,B,rfl,_⟩:=h;rfl
 .obtain⟨a,b,A,B,rfl,ha,hb,hA,hB,k⟩:=h;have nd:=scAcross.nd;refine⟨_,zam (zbn (i:=2) nd rfl (Or.inl rfl) zaI)
   (zam (zrb (zkt YBt (PW.pt (zln (zcF zpn (pv 2) (zbF (zh0 rfl) rfl T6 PyProof.Rows.boot_min (zag (zbF zch rfl T.len YDu (zag (pv 0) zav)) (zag (zbF zch rfl T.len YDu (zag (pv 1) zav)) zav))) (zci _))
     (zjc (zcF zqP (zcO ix_tup (pv 0) (pv 2) (λ_ _=>rfl)) (zcO ix_tup (pv 1) (pv 2) (λ_ _=>rfl)) (zci _)))))
    (zaA (zqq (i:=2) nd rfl (Or.inl rfl) zaI zlz))))
   (zaA (zbI (zb3 zjJ (zpA (zfg zmH (pv 0) (zhb (pv 2)) zhm) (zp8 zmf zaI)) (zfg zmH (pv 1) (zhb (pv 2)) zhm))))),?_⟩
  refine⟨λY' H'=>Y'=[some (.ref a),some (.ref b),some (.int (comm A B:Nat))]/\H'=H,?_,?_⟩
  .refine⟨λm Y H2=>∃j:Nat,Y=[some (.ref a),some (.ref b),some (.int j)]/\H2=H/\j<=A.length/\j<=B.length/\A.take j=B.take j/\m=A.length-j,⟨_,0,rfl,rfl,YAC _,YAC _,rfl,rfl⟩,?_⟩;rintro m Y H2 ⟨j,rfl,rfl,j1,j2,je,rfl⟩;refine⟨_,rfl,_,rfl,a,_,rfl,.inr ha,_,rfl,b,_,rfl,.inr hb,_,_,rfl,_,_,rfl,rfl,_,rfl,?_⟩;rw[YAc,YAc];refine ite2 (λh=>?_) (λh=>?_)
   .have hlt:=YA7 h;have l1:j<A.length:=by split at hlt<;>omega
    have l2:j<B.length:=by split at hlt<;>omega
    refine⟨_,rfl,_,rfl,a,_,_,_,rfl,rfl,ha,zra (by omega) (by omega),_,rfl,_,rfl,b,_,_,_,rfl,rfl,hb,zra (by omega) (by omega),rfl,_,rfl,?_⟩;refine ite2 (λh2=>?_) (λh2=>?_)
    .have e:=V.int.inj (YA7 h2);refine⟨λY' H'=>Y'=[some (.ref a),some (.ref b),some (.int (j+1:Nat))]/\H'=H2,λY' H' ⟨e1,e2⟩=>⟨_,by omega,j+1,e1,e2,l1,l2,zmn je l1 l2 e,rfl⟩,?_⟩;exact⟨_,rfl,_,_,rfl,rfl,rfl,rfl⟩
    .refine⟨?_,rfl⟩
     have:j=comm A B:=zjp j1 j2 je (.inr (.inr λz=>h2 (YAH (by
      unfold gI;rw[YAE,YAs,YAs,z]))))
     rw[<-this]
   .refine iteF ⟨?_,rfl⟩
    have:j=comm A B:=zjp j1 j2 je (by
     have:¬ (j:Int)<_:=λz=>h (YAH z)
     split at this
     .right;left;omega
     .left;omega)
    rw[<-this]
  .rintro Y H2 ⟨rfl,rfl⟩;obtain⟨c1,c2,_,_⟩:=zd6 A B;refine⟨_,rfl,_,rfl,(comm A B:Nat),rfl,a,_,rfl,ha,λp1 H1 S1 q1=>?_⟩;rw[zke c1]at q1;refine⟨_,rfl,p1,_,rfl,rfl,q1,λp2 hp2=>?_⟩;have S2:=S1.trans (zan (o:=.tup ((A.drop (comm A B)).map V.int).reverse) hp2);refine⟨_,rfl,_,rfl,(comm A B:Nat),rfl,b,_,rfl,zck (tp:=true) S2 hb,λp3 H3 S3 q3=>?_⟩;rw[zke c2]at q3;refine⟨p2,p3,_,_,rfl,rfl,zck (tp:=true) S3 (SqT.of zac),q3,?_,λp H' S q=>?_⟩
   .simp only[YCH,YAc,YBf];rw[YAO];omega
   .refine k p H' ((S2.trans S3).trans S) ?_;unfold zbf;rw[YAy,List.map_reverse];exact q
def scRing:FnScope Nr ["size","runs","struck"] (zat zb5):=⟨rfl,rfl,rfl,by decide +kernel,rfl,by decide +kernel,by decide +kernel⟩
def zph{f:Addr}{fd:FuncData}(F:Fun K "open_ring" "open_ring" zb5 f fd)(T4:mg "enumerate"=none)(cT:Cal P w K mg base "trees_of" 2 ["size","runs","struck"] (zdx K))(cA:Cal P w K mg base "across" 1 ["first","second"] (zhx K)):FnOk P w K mg base CX0 3 f fd ["size","runs","struck"] (zrL K):=by
 refine F.ok scRing (λvs H Q E h=>?_) (λcdv A outer s0 H vs Q E hr h=>?_)
 .obtain⟨n,a,s,rs,hs,rfl,_⟩:=h;rfl
 .obtain⟨n,a,s,rs,hs,rfl,ha,R,VM,hsq,hn,hz,k⟩:=h;have nd:=scRing.nd;have hr1:Room 1 _:=hr.mono (by decide);have hu:=znx hr;refine⟨_,zam (zbn (i:=3) nd rfl (Or.inl rfl) zkD)
   (zam (zdR YBt rfl (zeK (zej cT hr rfl (zag (pv 0) (zag (pv 1) (zag (pv 2) zav))))) (zaz (i:=4) nd rfl (Or.inl rfl))
    (zaA (zdb (zmK (pv 3) (pv 4) ⟨rfl,rfl,rfl,rfl⟩))))
   (zam (zdR YBt rfl (zlw rfl T4 (zag (pv 1) zav)) (zcB (n:=2) rfl (zad (zaz (i:=5) nd rfl (Or.inl rfl)) (zad (zcB (n:=4) rfl (zad (zaz (i:=6) nd rfl (Or.inl rfl)) (zad (zaz (i:=7) nd rfl (Or.inl rfl)) (zad (zaz (i:=8) nd rfl (Or.inl rfl)) (zad (zaz (i:=9) nd rfl (Or.inl rfl)) zaG))))) zaG)))
    (zam (zdv (zhL hu (pv 3) (pv 6) (λ_ _=>rfl)) (zcB (n:=2) rfl (zad (zaz (i:=10) nd rfl (Or.inl rfl)) (zad (zaz (i:=11) nd rfl (Or.inl rfl)) zaG))))
    (zam (zdv (zhL hu (pv 3) (pv 7) (λ_ _=>rfl)) (zcB (n:=2) rfl (zad (zaz (i:=12) nd rfl (Or.inl rfl)) (zad (zaz (i:=13) nd rfl (Or.inl rfl)) zaG))))
    (zaA (zeu (PW.pt (zln (zcF zeS (pv 9) (pv 2) (by with_unfolding_all rfl)) (zjc (zcF zsr (zb3 zmN (pv 12) (pv 10)) (pv 8) (zci _)))))
     (zaA (zbI (zep (zag (pv 6) (zag (zb3 zjJ (zep (zag (pv 5) zav)) (zej cA hr1 rfl (zag (pv 13) (zag (pv 11) zav)))) zav))))) zbL)))))
   (zaA (zbI zkE)))),?_⟩
  intro dr hdr;have S1:=zan (o:=.dK []) hdr;have hdr1:upd H dr (.dK []) dr=some (.dK (([]:List Nd).map ndK)):=zac;generalize upd H dr (.dK [])=H1 at *;refine⟨_,rfl,_,rfl,_,rfl,n,a,s,rs,hs,rfl,S1.seq ha,R.same S1,VM,S1.seq hsq,by omega,hz,λlt ts H3 S3 hlt hlt3 hts hF htl hfd hdd=>?_⟩;have ndl:lt≠dr:=(zae hdr1 hlt).symm;have ntd:∀t∈ts,t.d≠dr:=λt ht=>(zae hdr1 (hfd t ht)).symm;refine⟨lt,rfl,⟨_,SqL.of hlt3⟩,zfe (K:=K) (a:=lt) (xs:=ts.map trV) (λi Y H4=>∃(o4 o5 o6 o7 o8 o9 o10 o11 o12 o13:Option V),Y=[some (.int n),some (.ref a),some (.ref s),some (.ref dr),o4,o5,o6,o7,o8,o9,o10,o11,o12,o13]/\Same H H4/\H4 lt=some (.lst (ts.map trV))/\H4 dr=some (.dK ((zbr (ts.take i)).map ndK))/\(∀t∈ts,TreeAt K H4 n rs hs t)/\(zaw (zbr (ts.take i))).Nodup)
   ⟨_,_,_,_,_,_,_,_,_,_,rfl,S1.trans S3,hlt3,S3 _ _ hdr1,hts,YCR⟩ (λi Y H4 _ ⟨_,_,_,_,_,_,_,_,_,_,_,_,h,_⟩=>SqL.of h) ?_ ?_⟩
  .rintro i v Y H4 hv ⟨o4,o5,o6,o7,o8,o9,o10,o11,o12,o13,rfl,S4,h4t,h4r,hT,hnd⟩;obtain⟨t,ht,rfl⟩:∃t,ts[i]?=some t/\v=.ref t.d:=by
    rw[YAo]at hv;cases e:ts[i]? with
    |none=>rw[e]at hv;cases hv
    |some t=>rw[e]at hv;exact⟨t,rfl,(Option.some.inj hv).symm⟩
   have htm:=YAz ht;have Tt:=hT t htm;have hdis:∀j∈zaw t.ns,j∉zaw (zbr (ts.take i)):=λj hj hj2=>by
    obtain⟨x,hx,rfl⟩:=mem_keys.mp hj2;obtain⟨u,hu1,hxu⟩:=mem_reach.mp hx;obtain⟨i',hi'⟩:=YBT hu1;have li:=(YAh.mp hi').1;rw[YA8]at li;rw[YCc (by omega)]at hi';exact zje hT hF hi' ht (by omega) (mem_keys.mpr ⟨x,hxu,rfl⟩) hj
   have ereach:zbr (ts.take (i+1))=zbr (ts.take i)++t.ns:=by
    unfold zbr;rw[zcd ht,YDk];simp
   have hlenr:(zbr (ts.take i)).length<=n:=by
    have h:=zaX (xs:=(List.range n).map Int.ofNat) hnd λkk hk=>by
     obtain⟨x,hx,rfl⟩:=mem_keys.mp hk;obtain⟨u,hu1,hxu⟩:=mem_reach.mp hx
     have:=(hT u (YCa hu1)).tok.inm x hxu
     refine YAF.mpr ⟨x.m.toNat,YBg.mpr (by omega),?_⟩;show((x.m.toNat:Nat):Int)=x.m;omega
    unfold zaw at h
    simpa using h
   have hnl:=Tt.tok.len;refine⟨_,rfl,dr,rfl,.inl ⟨_,.inl h4r⟩,_,rfl,t.d,_,_,rfl,(ntd t htm).symm,h4r,Tt.th.dict,(by rw[YAc,YAc,YAO];omega),?_⟩;have kk1:∀l:List Nd,(l.map ndK).map (·.1)=(zaw l).map Sum.inl:=λl=>by unfold zaw;rw[YAK,YAK];rfl
   have emg:mergeK ((zbr (ts.take i)).map ndK) (t.ns.map ndK)=(zbr (ts.take (i+1))).map ndK:=by
    rw[zcL,ereach,YAy]
    .intro kk hkx hkr;rw[kk1]at hkx hkr;obtain⟨x,hx,rfl⟩:=YAF.mp hkx;obtain⟨y,hy,e⟩:=YAF.mp hkr;have e':y=x:=Sum.inl.inj e;exact hdis x hx (e'▸hy)
    .rw[kk1];exact List.Pairwise.map _ (λa b h z=>h (Sum.inl.inj z)) Tt.tok.nod
   rw[emg];refine⟨_,_,_,_,_,_,_,_,_,_,rfl,λc o e=>?_,?_,zac,λu hu1=>(hT u hu1).upd h4r trivial (ntd u hu1),?_⟩
   .rw[zaf (zae e hdr)];exact S4 c o e
   .rw[zaf ndl];exact h4t
   .rw[ereach];unfold zaw at hnd hdis ⊢;rw[YAy,YCz];exact⟨hnd,Tt.tok.nod,λx hx y hy e=>hdis y hy (e▸hx)⟩
  .rintro Y H4 ⟨o4,o5,o6,o7,o8,o9,o10,o11,o12,o13,rfl,S4,h4t,h4r,hT,hnd⟩;rw[YAc,YBJ]at h4r hnd;have RC:Reach K H4 n rs hs ts:=⟨hT,hF,hnd⟩;have R4:=R.same S4;have node:∀m:Int,0<=m->m<n->∃x∈zbr ts,x.m=m:=λm m0 m1=>by
    obtain⟨t,ht,x,hx,e⟩:=zdI hT hF m0 m1;exact⟨x,mem_reach.mpr ⟨t,ht,hx⟩,e⟩
   have dg:∀(x:Nd),x∈zbr ts->∀H5,Same H4 H5->DGet H5 dr (.int x.m) (some (.ref x.t))/\H5 x.t=some (.tup [.int x.h,.ref x.lt])/\SqT K H5 x.lt (x.line.map V.int)/\x.line.length<=40:=λx hx H5 S5=>by
    have:=DGet.k (k:=Sum.inl x.m) (S5 _ _ h4r)
    rw[zfm hnd hx]at this;obtain⟨t,ht,hxt⟩:=mem_reach.mp hx;have q:=(hT t ht).th.node x hxt;have q1:=(hT t ht).tok.few x hxt;have q2:=(hT t ht).tok.len;exact⟨this,S5 _ _ q.1,zck (tp:=true) S5 q.2,by omega⟩
   have look:=λ(x:Nd) (hx:x∈zbr ts)=>zb7 hnd hx;refine⟨_,rfl,a,_,rfl,S4.seq ha,zky (K:=K) (a:=a) (xs:=rs.map runV) (λi Y H5=>∃(o5 o6 o7 o8 o9 o10 o11 o12 o13:Option V),Y=[some (.int n),some (.ref a),some (.ref s),some (.ref dr),o4,o5,o6,o7,o8,o9,o10,o11,o12,o13]/\Same H4 H5/\ringF ((zbr ts).map zbu) hs 0 rs=ringF ((zbr ts).map zbu) hs i (rs.drop i))
    ⟨_,_,_,_,_,_,_,_,_,rfl,zmY _,rfl⟩ (λi Y H5 _ ⟨_,_,_,_,_,_,_,_,_,_,S,_⟩=>(S4.trans S).seq ha) ?_ ?_⟩
   .rintro i x t Y H5 hx ht ⟨o5,o6,o7,o8,o9,o10,o11,o12,o13,rfl,S5,hF5⟩;obtain⟨r,hr,rfl,hrt⟩:=R4.at_ hx;have V0:=VM r (YAz hr);have hil:i<rs.length:=(YAh.mp hr).1;have edrop:rs.drop i=r::rs.drop (i+1):=by rw[YAL hil,(YAh.mp hr).2]
    have S6:=S5.trans (zan (o:=.tup [.int i,.ref r.p]) ht);refine⟨t,_,rfl,SqT.of zac,rfl,_,_,rfl,_,_,rfl,r.p,_,rfl,zka S6 hrt,rfl,_,_,rfl,_,_,rfl,_,_,rfl,_,_,rfl,rfl,rfl,?_⟩;generalize upd H5 t (.tup [.int i,.ref r.p])=H6 at *;obtain⟨x,hx1,ex⟩:=node r.one V0.1 V0.2.1;obtain⟨y,hy1,ey⟩:=node r.oW V0.2.2.1 V0.2.2.2;obtain⟨x1,x2,x3,x4⟩:=dg x hx1 H6 S6;obtain⟨y1,y2,y3,y4⟩:=dg y hy1 H6 S6;have lx:=look x hx1;have ly:=look y hy1;rw[ex]at x1 lx;rw[ey]at y1 ly;refine⟨_,rfl,_,rfl,dr,_,rfl,x1,x.t,_,rfl,SqT.of x2,rfl,_,_,rfl,_,_,rfl,rfl,?_⟩;refine⟨_,rfl,_,rfl,dr,_,rfl,y1,y.t,_,rfl,SqT.of y2,rfl,_,_,rfl,_,_,rfl,rfl,?_⟩;refine⟨_,rfl,_,rfl,s,_,rfl,.inl ((S4.trans S6).seq hsq),rfl,ziQ hs,_,rfl,?_⟩;rw[if_pos rfl,zkF];rw[edrop,zeG,lx,ly]at hF5;cases hc:hs.contains r.hand with
    |true=>
     rw[if_neg (λz=>by rw[hc]at z;cases z.1)]at hF5;exact iteF (iteF ⟨_,_,_,_,_,_,_,_,_,rfl,S6,hF5⟩)
    |false=>
     refine iteT ⟨_,rfl,_,rfl,_,_,rfl,rfl,_,rfl,rfl,_,rfl,?_⟩;by_cases e:y.h-x.h=r.rise
     .rw[if_neg (λz=>z.2 e)]at hF5;exact zrS (by show V.int (y.h-x.h)=_;rw[e]) ⟨_,_,_,_,_,_,_,_,_,rfl,S6,hF5⟩
     .rw[if_pos ⟨hc,e⟩]at hF5;refine ite2 (λ_=>?_) (λh2=>absurd (nb2 h2) λz=>e (V.int.inj z));refine⟨_,rfl,_,rfl,by show 1<=sizeLine;decide,λtq htq=>?_⟩;have S7:=zan (o:=.tup [.int i]) htq;refine⟨_,rfl,_,rfl,y.lt,x.lt,y.line,x.line,rfl,zck (tp:=true) S7 y3,zck (tp:=true) S7 x3,by omega,by omega,λp7 H7 S8 q7=>?_⟩;have hal:=zgy y.line x.line;refine⟨tq,p7,_,_,rfl,rfl,zck (tp:=true) S8 (SqT.of zac),q7,?_,λp8 H8 S9 q8=>?_⟩
      .rw[YAc,YAO];show 1+_<=_;omega
      .refine⟨by show 2<=sizeLine;decide,λp9 hp9=>?_⟩;have SA:=zan (o:=.tup [.int r.one,.ref p8]) hp9;have SB:=(((S6.trans S7).trans S8).trans S9).trans SA;refine k _ ts _ (S4.trans SB) (RC.same SB) ?_;rw[hF5];exact⟨p9,p8,rfl,zac,zck (tp:=true) SA q8⟩
   .rintro Y H5 ⟨o5,o6,o7,o8,o9,o10,o11,o12,o13,rfl,S5,hF5⟩;refine k .non ts H5 (S4.trans S5) (RC.same S5) ?_;rw[hF5,YAc,YBR];rfl
end
end Fen
namespace Fd
open PySem L2
section
variable{P:Program}{w:World}{K:qg}{mg:Str->Option Value}{base:Heap}
theorem zde{f:Addr}{fd:FuncData}(F:Fun K "some_line" "some_line" Fen.zca f fd)(cF:Fen.Cal P w K mg base "steps_from" 1 ["size","runs","struck"] (Fen.zhM K))(cR:Fen.Cal P w K mg base "tree_from" 1 ["start","steps"] (Fen.zjO K)):FnOk P w K mg base CX0 2 f fd ["size","runs","struck","one","other"] (spD K 5 zbv):=by
 refine(Fen.zde F cF cR).imp λvs H Q E ⟨β,G,ds,gh,bx,hv,hl,P',q,hP⟩=>?_;obtain⟨n,a,b,rs,hs,one,oW,rfl,VM,h0,h1,hn,hz,k⟩:=q;obtain⟨v1,ws1,rfl,e1,hv⟩:=hv;obtain⟨v2,ws2,rfl,e2,hv⟩:=hv;obtain⟨v3,ws3,rfl,e3,hv⟩:=hv;obtain⟨v4,ws4,rfl,e4,hv⟩:=hv;obtain⟨v5,ws5,rfl,e5,hv⟩:=hv;cases hv;cases e1;cases e4;cases e5;obtain⟨x,vs,rfl,gx,hx⟩:=zeE e2;obtain⟨y,us,rfl,gy,hy⟩:=zeE e3;obtain⟨rs',rfl,R,er⟩:=zc0 hx;rw[reps_ints]at hy;subst hy;refine⟨n,x,y,rs',hs,one,oW,rfl,SqL.of (gh _ _ gx),R.same gh,er.symm.inMarks VM,SqL.of (gh _ _ gy),h0,h1,hn,by rw[er.len];exact hz,λv H' S SL=>?_⟩;obtain⟨ns,a1,a2,a3,a4⟩:=SL;have st:=zdi (nl:=λ_=>False) gh bx S (λa z=>z.elim);rcases a4 with⟨rfl,k2⟩|⟨z,hz,ez,rfl,q⟩
 .exact hP _ (k none (er.lineIs ⟨ns,a1,a2,a3,.inl ⟨rfl,k2⟩⟩)) _ H' _ st rfl
 .exact hP _ (k (some z.line) (er.lineIs ⟨ns,a1,a2,a3,.inr ⟨z,hz,ez,rfl⟩⟩)) _ H' _ st (zi0 (zfT (gh.trans S) q))
def ziF{f:Addr}{fd:FuncData}(F:Fun K "open_ring" "open_ring" Fen.zb5 f fd)(T4:mg "enumerate"=none)(cT:Fen.Cal P w K mg base "trees_of" 2 ["size","runs","struck"] (Fen.zdx K))(cA:Fen.Cal P w K mg base "across" 1 ["first","second"] (Fen.zhx K)):FnOk P w K mg base CX0 3 f fd ["size","runs","struck"] (spD K 3 zcQ):=by
 refine(Fen.zph F T4 cT cA).imp λvs H Q E ⟨β,G,ds,gh,bx,hv,hl,P',q,hP⟩=>?_;obtain⟨n,a,b,rs,hs,rfl,VM,hn,hz,k⟩:=q;obtain⟨v1,ws1,rfl,e1,hv⟩:=hv;obtain⟨v2,ws2,rfl,e2,hv⟩:=hv;obtain⟨v3,ws3,rfl,e3,hv⟩:=hv;cases hv;cases e1;obtain⟨x,vs,rfl,gx,hx⟩:=zeE e2;obtain⟨y,us,rfl,gy,hy⟩:=zeE e3;obtain⟨rs',rfl,R,er⟩:=zc0 hx;rw[reps_ints]at hy;subst hy;refine⟨n,x,y,rs',hs,rfl,SqL.of (gh _ _ gx),R.same gh,er.symm.inMarks VM,SqL.of (gh _ _ gy),hn,by rw[er.len];exact hz,λv ts H' S Re Rr=>?_⟩;have st:=zdi (nl:=λ_=>False) gh bx S (λa z=>z.elim);have key:=k _ (er.ringIs ⟨K,H',ts,Re,rfl⟩);refine hP _ key _ H' _ st ?_;cases z:Fen.ringF ((Fen.zbr ts).map Fen.zbu) hs 0 rs' with
 |none=>rw[z]at Rr;exact Rr
 |some ml=>
  rw[z]at Rr;obtain⟨p,lt,rfl,hp,hq⟩:=Rr;exact⟨p,_,rfl,zfT (gh.trans S) (SqT.of hp),_,_,rfl,rfl,_,_,rfl,zi0 (zfT (gh.trans S) hq),rfl⟩
theorem zjj{f:Addr}{fd:FuncData}(F:Fun K "flat" "flat" Fen.zjs f fd)(cT:Fen.Cal P w K mg base "trees_of" 2 ["size","runs","struck"] (Fen.zdx K))(cH:Fen.Cal P w K mg base "holds" 1 ["runs","heights"] (Fen.zi9 K)):FnOk P w K mg base CX0 3 f fd ["size","runs"] (spD K 2 zeR):=by
 refine(Fen.zjj F cT cH).imp λvs H Q E ⟨β,G,ds,gh,bx,hv,hl,P',q,hP⟩=>?_;obtain⟨n,a,rs,rfl,VM,hn,hz,k1,k2⟩:=q;obtain⟨v1,ws1,rfl,e1,hv⟩:=hv;obtain⟨v2,ws2,rfl,e2,hv⟩:=hv;cases hv;cases e1;obtain⟨x,vs,rfl,gx,hx⟩:=zeE e2;obtain⟨rs',rfl,R,er⟩:=zc0 hx;refine⟨n,x,rs',rfl,SqL.of (gh _ _ gx),R.same gh,er.symm.inMarks VM,hn,by rw[er.len];exact hz,λH' S no=>?_,λl hts H' S hl' hl2 fo=>?_⟩
 .exact hP _ (k1 (er.noHts no)) _ H' _ (zdi (nl:=λ_=>False) gh bx S (λa z=>z.elim)) rfl
 .exact hP _ (k2 hts (er.flatOk fo)) _ H' _ (zdi (nl:=λa=>a=l) gh bx S (λa z=>z▸hl')) ⟨l,_,rfl,zf0 (gh.trans S) rfl hl2,λ_=>hl',reps_ints.mpr rfl⟩
theorem zfy{f:Addr}{fd:FuncData}(F:Fun K "groups" "groups" Fen.zc9 f fd)(T2:Fen.Txt2 mg)(cT:Fen.Cal P w K mg base "trees_of" 2 ["size","runs","struck"] (Fen.zdx K)):FnOk P w K mg base CX0 3 f fd ["size","runs"] (spD K 2 zfb):=by
 refine(Fen.zfy F T2 cT).imp λvs H Q E ⟨β,G,ds,gh,bx,hv,hl,P',q,hP⟩=>?_;obtain⟨n,a,rs,rfl,VM,hn,hz,k⟩:=q;obtain⟨v1,ws1,rfl,e1,hv⟩:=hv;obtain⟨v2,ws2,rfl,e2,hv⟩:=hv;cases hv;cases e1;obtain⟨x,vs,rfl,gx,hx⟩:=zeE e2;obtain⟨rs',rfl,R,er⟩:=zc0 hx;refine⟨n,x,rs',rfl,SqL.of (gh _ _ gx),R.same gh,er.symm.inMarks VM,hn,by rw[er.len];exact hz,λl gs H' S hl' GA hg=>?_⟩;have gg:=gh.trans S;have st:=zdi (nl:=λa=>a=l\/a∈gs.map Fen.GR.a) gh bx S (λa z=>by
  rcases z with rfl|z
  .exact hl'
  .obtain⟨g,h1,rfl⟩:=YAF.mp z;exact hg g h1)
 refine hP _ (k (gs.map Fen.GR.ms) (er.grpsIs ⟨gs,λg hg=>(GA.rows g hg).2,GA.firsts,rfl⟩)) _ H' _ st ⟨l,_,rfl,zf0 gg (.inl rfl) GA.lst,λ_=>hl',?_⟩;rw[YAK];have go:∀ds:List Fen.GR,(∀g∈ds,g∈gs)->Reps ⟨K,β,H,G⟩ (zeY G H' λa=>a=l\/a∈gs.map Fen.GR.a) (ds.map ((λg=>D.lst true (g.map D.int))∘Fen.GR.ms)) (ds.map Fen.grV):=by
  intro ds
  induction ds with
  |nil=>intro _;rfl
  |cons g ds ih=>
   intro hm;refine⟨_,_,rfl,⟨g.a,_,rfl,zf0 gg (.inr (YAQ (hm g YAi))) (GA.rows g (hm g YAi)).1,λ_=>hg g (hm g YAi),reps_ints.mpr rfl⟩,ih λg' h'=>hm g' (YAp _ h')⟩
 exact go gs λg h=>h
end
end Fd
namespace Fd
open PySem L2 Fen
section
variable{P:Program}{w:World}{K:qg}{mg:Str->Option Value}{base:Heap}
local macro_rules|`(tactic| decreasing_trivial)=>`(tactic| first|assumption|exact Bt.len ‹_›|exact Bt.range ‹_›|exact Bt.list ‹_›|exact Bt.isinstance ‹_›|exact Bt.all ‹_›|exact Bt.tuple ‹_›|exact Bt.sorted ‹_›|exact Bt.set ‹_›|exact Bt.zip ‹_›|exact Bt.enumerate ‹_›|exact Bt.any ‹_›|exact Bt.min ‹_›|exact Bt.max ‹_›|exact Bt.int ‹_›|exact Bt.bool ‹_›|exact Bt.str ‹_›|exact Room.mono ‹_› (by first|decide|omega)|exact Room.units ‹_›|exact YCr|exact PyProof.Rows.boot_tuple|exact PyProof.Rows.boot_int|exact PyProof.Rows.boot_bool|exact PyProof.Rows.boot_str|decide|exact ndB_of (by kernel_rfl))
def zju(F:Fun K "hands_of" "hands_of" zd7 f fd)(T:Bt mg):FnOk P w K mg base CX0 1 f fd ["runs"] (spD K 1 za6):=
 zbD (N:=["runs"]) F λ_ _=>
 (zax (zaR (DF.de (zoj (Nc:=["one","other","rise","hand"]) (.tp 4 (.cons (.nm 0) (.cons (.nm 1) (.cons (.nm 2) (.cons (.nm 3) .nil))))) (zbB (dv 0)) (zbT (n:=4) rfl (zad (gn 0) (zad (gn 1) (zad (gn 2) (zad (gn 3) zaG))))) za7 (dv 3)))))
def zpa(F:Fun K "left" "left" znb f fd)(T:Bt mg):FnOk P w K mg base CX0 1 f fd ["runs","struck"] (spD K 2 zdf):=
 zbD (N:=["runs","struck"]) F λ_ _=>
 (zax (zaR (DF.de (zba (Nc:=["one","other","rise","hand","struck"]) (.tp 4 (.cons (.nm 0) (.cons (.nm 1) (.cons (.nm 2) (.cons (.nm 3) .nil))))) (zbB (dv 0)) (zbT (n:=4) rfl (zad (gn 0) (zad (gn 1) (zad (gn 2) (zad (gn 3) zaG))))) (zkr (zlS (dv 3) (dv 4))) (zbW (zaa (dv 0) (zaa (dv 1) (zaa (dv 2) (zaa (dv 3) zai)))))))))
def zhQ(F:Fun K "holds" "holds" zee f fd)(T:Bt mg):FnOk P w K mg base CX0 1 f fd ["runs","heights"] (spD K 2 zpf):=
 zbD (N:=["runs","heights"]) F λ_ _=>
 (zax (zaR (zlc (zaa (DF.de (zba (Nc:=["one","other","rise","hand","heights"]) (.tp 4 (.cons (.nm 0) (.cons (.nm 1) (.cons (.nm 2) (.cons (.nm 3) .nil))))) (zbB (dv 0)) (zbT (n:=4) rfl (zad (gn 0) (zad (gn 1) (zad (gn 2) (zad (gn 3) zaG))))) za7 (d_eq (zhn (za8 4 (dv 1)) (za8 4 (dv 0))) (dv 2)))) zai))))
def zjz(F:Fun K "lists_of" "lists_of" zdO f fd)(T:Bt mg):FnOk P w K mg base CX0 1 f fd ["hands","length"] (spD K 2 zbl):=
 zbD (N:=["hands","length","lists","turn"]) F λ_ _=>
 (zak (za2 2 (DF.de (zcK (zaa (DF.de (zcK zai)) zai))))
  (zak (zcX (.nm 3) (zc3 (dv 1)) (gn 3) (zax (zpu 2 (Nc:=["chosen","hand","hands"]) (.nm 0) (.nm 1) (zbB (dv 2)) (gn 0) (zbB (dv 2)) (gn 1) (zkr (DW.dt (w_or (zey (zdq (dv 0))) (zfF (t_lt (za8 0 (zpi zal)) (dv 1)))))) (zcN (dv 0) (DF.de (zcK (zaa (dv 1) zai)))))))
  (zax (zaR (dv 2)))))
def zhi(F:Fun K "false_sets" "false_sets" zcw f fd)(T:Bt mg)(og:Cal P w K mg base "hands_of" 1 ["runs"] (spD K 1 za6))(oi:Cal P w K mg base "lists_of" 1 ["hands","length"] (spD K 2 zbl))(oz:Cal P w K mg base "flat" 3 ["size","runs"] (spD K 2 zeR))(ot:Cal P w K mg base "left" 1 ["runs","struck"] (spD K 2 zdf)):FnOk P w K mg base CX0 4 f fd ["size","runs","many"] (spD K 3 zbR):=
 zbD (N:=["size","runs","many","hands","found","length","struck"]) F λ_ _=>
 (zak (za2 3 (zao og (zaa (dv 1) zai)))
  (zak (zkT 4 (zcK zai))
  (zak (zcX (.nm 5) (zc3 (zcN (zqc (zaa (dv 2) (zaa (zcz 3) zai))) zal)) (gn 5) (zax (zcX (.nm 6) (zbB (zao oi (zaa (dv 3) (zaa (dv 5) zai)))) (gn 6) (zax (s_if (zjZ (zao oz (zaa (dv 0) (zaa (zao ot (zaa (dv 1) (zaa (dv 6) zai))) zai)))) (zax (znS 4 (dv 6))) zb0)))))
  (zax (zlg 4 (zaR (dv 4)))))))
def zk0(F:Fun K "reading" "reading" zdV f fd)(T:Bt mg)(og:Cal P w K mg base "hands_of" 1 ["runs"] (spD K 1 za6))(oi:Cal P w K mg base "lists_of" 1 ["hands","length"] (spD K 2 zbl))(oz:Cal P w K mg base "flat" 3 ["size","runs"] (spD K 2 zeR))(ot:Cal P w K mg base "left" 1 ["runs","struck"] (spD K 2 zdf)):FnOk P w K mg base CX0 4 f fd ["size","runs","many"] (spD K 3 zda):=
 zbD (N:=["size","runs","many","hands","length","struck","heights"]) F λ_ _=>
 (zak (za2 3 (zao og (zaa (dv 1) zai)))
  (zak (zcX (.nm 4) (zc3 (zcN (zqc (zaa (dv 2) (zaa (zcz 3) zai))) zal)) (gn 4) (zax (zcX (.nm 5) (zbB (zao oi (zaa (dv 3) (zaa (dv 4) zai)))) (gn 5) (zak (za2 6 (zao oz (zaa (dv 0) (zaa (zao ot (zaa (dv 1) (zaa (dv 5) zai))) zai))))
  (zax (s_if (zjZ (dv 6)) (zax (zaR (zbW (zaa (dv 5) (zaa (dv 6) zai))))) zb0))))))
  (zax (zaR ziq))))
def zhk(F:Fun K "line_hands" "line_hands" zcx f fd)(T:Bt mg)(og:Cal P w K mg base "hands_of" 1 ["runs"] (spD K 1 za6)):FnOk P w K mg base CX0 2 f fd ["runs","line"] (spD K 2 zbA):=
 zbD (N:=["runs","line"]) F λ_ _=>
 (zax (zaR (zao og (zaa (DF.de (zba (Nc:=["number","runs"]) (.nm 0) (zbB (dv 1)) (gn 0) za7 (za8 1 (dv 0)))) zai))))
theorem zcU(F:Fun K "paper_without" "paper_without" zbE f fd)(hm:mg "paper_without"=some (.ref f))(hb:Binds K fd ["size","runs","many","struck","ends"] [])(T:Bt mg)(oG:Cal P w K mg base "open_ring" 3 ["size","runs","struck"] (spD K 3 zcQ))(oA:Cal P w K mg base "line_hands" 2 ["runs","line"] (spD K 2 zbA))(oj:Cal P w K mg base "some_line" 2 ["size","runs","struck","one","other"] (spD K 5 zbv)):∀n,FnOk P w K mg base CX0 (4+n) f fd ["size","runs","many","struck","ends"] (spD K 5 (zaB n))
 |0=>⟨λvs H Q E ⟨β,G,ds,_,_,_,h,_⟩=>h,λA outer s H args us vs Q E _ _ _ _ ⟨β,G,ds,_,_,_,_,P,z,_⟩=>z.elim⟩
 |n+1=>by
  have cSelf:Cal P w K mg base "paper_without" (4+n) ["size","runs","many","struck","ends"] (spD K 5 (zaB n)):=Cal.of F (zcU F hm hb T oG oA oj n) hm hb;exact zbD (N:=["size","runs","many","struck","ends","kind","found","one","other","mark","line","hands","rest"]) (k:=4+n) F λ_ _=>
   (zak (za2 5 zgG)
  (zak (za2 6 (zao oG (zaa (dv 0) (zaa (dv 1) (zaa (dv 3) zai)))))
  (zak (s_if (znq (dv 6)) (zak (za2 5 zgG)
  (zak (zjb (.tp 2 (.cons (.nm 7) (.cons (.nm 8) .nil))) (dv 4) (zbT (n:=2) rfl (zad (gn 7) (zad (gn 8) zaG))))
  (zax (za2 6 (zbW (zaa (dv 7) (zaa (zao oj (zaa (dv 0) (zaa (dv 1) (zaa (dv 3) (zaa (dv 7) (zaa (dv 8) zai)))))) zai))))))) zb0)
  (zak (zjb (.tp 2 (.cons (.nm 9) (.cons (.nm 10) .nil))) (dv 6) (zbT (n:=2) rfl (zad (gn 9) (zad (gn 10) zaG))))
  (zak (za2 11 (d_if (t_gt (dv 2) zal) (zao oA (zaa (dv 1) (zaa (dv 10) zai))) (DF.de (zcK zai))))
  (zak (zm8 12 (Nc:=["hand","size","runs","ends","many","struck"]) (.nm 0) (zbB (dv 11)) (gn 0) za7 (zbW (zaa (dv 0) (zaa (zao cSelf (zaa (dv 1) (zaa (dv 2) (zaa (zhn (dv 4) zal) (zaa (zcN (dv 5) (DF.de (zcK (zaa (dv 0) zai)))) (zaa (dv 3) zai)))))) zai))))
  (zax (zaR (zbW (zaa (dv 5) (zaa (dv 9) (zaa (dv 10) (zaa (zlp (zaa (dv 12) zai)) zai)))))))))))))
def zgY(F:Fun K "some_paper" "some_paper" zcy f fd)(T:Bt mg)(oQ:Cal P w K mg base "paper_without" (4+6) ["size","runs","many","struck","ends"] (spD K 5 (zaB 6))):FnOk P w K mg base CX0 11 f fd ["size","runs","many","one","other"] (spD K 5 zbh):=
 zbD (N:=["size","runs","many","one","other"]) F λ_ _=>
 (zax (zaR (zao oQ (zaa (dv 0) (zaa (dv 1) (zaa (dv 2) (zaa (DF.de (zcK zai)) (zaa (zbW (zaa (dv 3) (zaa (dv 4) zai))) zai))))))))
def zhH(F:Fun K "none_paper" "none_paper" zcC f fd)(T:Bt mg)(om:Cal P w K mg base "some_paper" 11 ["size","runs","many","one","other"] (spD K 5 zbh))(oN:Cal P w K mg base "reading" 4 ["size","runs","many"] (spD K 3 zda)):FnOk P w K mg base CX0 12 f fd ["size","runs","many"] (spD K 3 zbU):=
 zbD (N:=["size","runs","many"]) F λ_ _=>
 (zak (s_if (zjZ (zao oN (zaa (dv 0) (zaa (dv 1) (zaa (dv 2) zai))))) (zax (zaR ziq)) zb0)
  (zax (zaR (zao om (zaa (dv 0) (zaa (dv 1) (zaa (dv 2) (zaa zal (zaa zal zai)))))))))
def zl2(F:Fun K "lifted" "lifted" zft f fd)(T:Bt mg)(oP:Cal P w K mg base "groups" 3 ["size","runs"] (spD K 2 zfb)):FnOk P w K mg base CX0 4 f fd ["size","runs","heights","mark"] (spD K 4 zcD):=
 zbD (N:=["size","runs","heights","mark","higher","group","each"]) F λ_ _=>
 (zak (zkT 4 (zfX (dv 2)))
  (zak (zcX (.nm 5) (zbB (zao oP (zaa (dv 0) (zaa (dv 1) zai)))) (gn 5) (zax (s_if (t_in (dv 3) (dv 5)) (zax (zcX (.nm 6) (zbB (dv 5)) (gn 6) (zax (zlF 4 (dv 6) zal)))) zb0)))
  (zax (zlg 4 (zaR (dv 4))))))
def zcV(F:Fun K "readings_to_compare" "readings_to_compare" za1 f fd)(T:Bt mg)(oI:Cal P w K mg base "false_sets" 4 ["size","runs","many"] (spD K 3 zbR))(ot:Cal P w K mg base "left" 1 ["runs","struck"] (spD K 2 zdf))(oz:Cal P w K mg base "flat" 3 ["size","runs"] (spD K 2 zeR))(oE:Cal P w K mg base "lifted" 4 ["size","runs","heights","mark"] (spD K 4 zcD)):FnOk P w K mg base CX0 5 f fd ["size","runs","many","mark"] (spD K 4 zaL):=
 zbD (N:=["size","runs","many","mark","found","false","kept","heights"]) F λ_ _=>
 (zak (zkT 4 (zcK zai))
  (zak (zcX (.nm 5) (zbB (zao oI (zaa (dv 0) (zaa (dv 1) (zaa (dv 2) zai))))) (gn 5) (zak (za2 6 (zao ot (zaa (dv 1) (zaa (dv 5) zai))))
  (zak (za2 7 (zao oz (zaa (dv 0) (zaa (dv 6) zai))))
  (zak (znS 4 (zbW (zaa (DF.de (zfX (dv 5))) (zaa (dv 7) zai))))
  (zax (znS 4 (zbW (zaa (DF.de (zfX (dv 5))) (zaa (zao oE (zaa (dv 0) (zaa (dv 6) (zaa (dv 7) (zaa (dv 3) zai))))) zai)))))))))
  (zax (zlg 4 (zaR (dv 4))))))
def zfY(F:Fun K "rise_between" "rise_between" zbS f fd)(T:Bt mg):FnOk P w K mg base CX0 1 f fd ["heights","one","other"] (spD K 3 zbd):=
 zbD (N:=["heights","one","other"]) F λ_ _=>
 (zax (zaR (zhn (za8 0 (dv 2)) (za8 0 (dv 1)))))
def zqe(F:Fun K "told" "told" zlj f fd)(T:Bt mg)(oo:Cal P w K mg base "readings_to_compare" 5 ["size","runs","many","mark"] (spD K 4 zaL))(ow:Cal P w K mg base "rise_between" 1 ["heights","one","other"] (spD K 3 zbd))(om:Cal P w K mg base "some_paper" 11 ["size","runs","many","one","other"] (spD K 5 zbh))(oJ:Cal P w K mg base "none_paper" 12 ["size","runs","many"] (spD K 3 zbU)):FnOk P w K mg base CX0 13 f fd ["size","runs","many","one","other"] (spD K 5 zfA):=
 zbD (N:=["size","runs","many","one","other","found","false","heights","rise","unlike","others"]) F λ_ _=>
 (zak (za2 5 (zao oo (zaa (dv 0) (zaa (dv 1) (zaa (dv 2) (zaa (dv 4) zai))))))
  (zak (s_if (zey (zdq (dv 5))) (zax (zaR (zbW (zaa zgG (zaa (zao oJ (zaa (dv 0) (zaa (dv 1) (zaa (dv 2) zai)))) zai))))) zb0)
  (zak (zjb (.tp 2 (.cons (.nm 6) (.cons (.nm 7) .nil))) (za8 5 zal) (zbT (n:=2) rfl (zad (gn 6) (zad (gn 7) zaG))))
  (zak (za2 8 (zao ow (zaa (dv 7) (zaa (dv 3) (zaa (dv 4) zai)))))
  (zak (zcX (.tp 2 (.cons (.nm 9) (.cons (.nm 10) .nil))) (zbB (dv 5)) (zbT (n:=2) rfl (zad (gn 9) (zad (gn 10) zaG))) (zax (s_if (t_ne (zao ow (zaa (dv 10) (zaa (dv 3) (zaa (dv 4) zai)))) (dv 8)) (zax (zaR (zbW (zaa zgG (zaa (zbW (zaa (dv 6) (zaa (dv 7) zai))) (zaa (zbW (zaa (dv 9) (zaa (dv 10) zai))) zai)))))) zb0)))
  (zax (zaR (zbW (zaa zgG (zaa (dv 8) (zaa (zao om (zaa (dv 0) (zaa (dv 1) (zaa (dv 2) (zaa (dv 3) (zaa (dv 4) zai)))))) zai)))))))))))
def zny(F:Fun K "parts" "parts" zh5 f fd)(T:Bt mg)(oj:Cal P w K mg base "some_line" 2 ["size","runs","struck","one","other"] (spD K 5 zbv)):FnOk P w K mg base CX0 3 f fd ["size","runs","struck","one","other"] (spD K 5 zfC):=
 zbD (N:=["size","runs","struck","one","other"]) F λ_ _=>
 (zax (zaR (zp1 (zao oj (zaa (dv 0) (zaa (dv 1) (zaa (dv 2) (zaa (dv 3) (zaa (dv 4) zai)))))))))
def zkO(F:Fun K "parting" "parting" zd5 f fd)(T:Bt mg)(og:Cal P w K mg base "hands_of" 1 ["runs"] (spD K 1 za6))(oi:Cal P w K mg base "lists_of" 1 ["hands","length"] (spD K 2 zbl))(oR:Cal P w K mg base "parts" 3 ["size","runs","struck","one","other"] (spD K 5 zfC)):FnOk P w K mg base CX0 4 f fd ["size","runs","many","one","other"] (spD K 5 zdc):=
 zbD (N:=["size","runs","many","one","other","hands","length","struck"]) F λ_ _=>
 (zak (za2 5 (zao og (zaa (dv 1) zai)))
  (zak (zcX (.nm 6) (zc3 (zcN (zqc (zaa (dv 2) (zaa (zcz 5) zai))) zal)) (gn 6) (zax (zcX (.nm 7) (zbB (zao oi (zaa (dv 5) (zaa (dv 6) zai)))) (gn 7) (zax (s_if (zdq (zao oR (zaa (dv 0) (zaa (dv 1) (zaa (dv 7) (zaa (dv 3) (zaa (dv 4) zai))))))) (zax (zaR (dv 7))) zb0)))))
  (zax (zaR ziq))))
def zq7(F:Fun K "foe" "foe" pFoe f fd)(T:Bt mg)(oO:Cal P w K mg base "parting" 4 ["size","runs","many","one","other"] (spD K 5 zdc))(oE:Cal P w K mg base "lifted" 4 ["size","runs","heights","mark"] (spD K 4 zcD))(ot:Cal P w K mg base "left" 1 ["runs","struck"] (spD K 2 zdf)):FnOk P w K mg base CX0 5 f fd ["size","runs","many","one","other"] (spD K 5 ziT):=
 zbD (N:=["size","runs","many","one","other","hands","first","second","level","higher","rises"]) F λ_ _=>
 (zak (za2 5 (zao oO (zaa (dv 0) (zaa (dv 1) (zaa (zk5 zal (dv 2)) (zaa (dv 3) (zaa (dv 4) zai)))))))
  (zak (s_if (znq (dv 5)) (zax (zaR ziq)) zb0)
  (zak (zjb (.tp 2 (.cons (.nm 6) (.cons (.nm 7) .nil))) (zbW (zaa (d_sl (dv 5) zgE (zgC (dv 2))) (zaa (d_sl (dv 5) (zgC (dv 2)) zgE) zai))) (zbT (n:=2) rfl (zad (gn 6) (zad (gn 7) zaG))))
  (zak (za2 8 (zk5 (DF.de (zcK (zaa zal zai))) (dv 0)))
  (zak (za2 9 (zao oE (zaa (dv 0) (zaa (zao ot (zaa (dv 1) (zaa (dv 5) zai))) (zaa (dv 8) (zaa (dv 4) zai))))))
  (zak (zm8 10 (Nc:=["start","end","rise","hand","first","higher"]) (.tp 4 (.cons (.nm 0) (.cons (.nm 1) (.cons (.nm 2) (.cons (.nm 3) .nil))))) (zbB (dv 1)) (zbT (n:=4) rfl (zad (gn 0) (zad (gn 1) (zad (gn 2) (zad (gn 3) zaG))))) za7 (d_if (t_in (dv 3) (dv 4)) (zhn (za8 5 (dv 1)) (za8 5 (dv 0))) zal))
  (zax (zaR (zbW (zaa (dv 10) (zaa (zbW (zaa (dv 6) (zaa (dv 8) zai))) (zaa (zbW (zaa (dv 7) (zaa (dv 9) zai))) zai))))))))))))
def zhD(F:Fun K "_law_great" "_law_great" zin f fd)(T:Bt mg)(oa:Cal P w K mg base "_law_take" 1 ["_law_box_here","_law_many"] (spD K 2 zah)):FnOk P w K mg base CX0 2 f fd ["_law_box_here"] (spD K 1 zby):=
 zbD (N:=["_law_box_here","_law_ways","_law_found","_law_k"]) F λ_ _=>
 (zak (za2 1 (zao oa (zaa (dv 0) (zaa zal zai))))
  (zak (s_if (t_eq (dv 1) zal) (zax (zaR (zao oa (zaa (dv 0) (zaa zal zai))))) zb0)
  (zak (s_if (t_eq (dv 1) zal) (zax (zaR (zao oa (zaa (dv 0) (zaa zal zai))))) zb0)
  (zak (za2 2 zal)
  (zak (zcX (.nm 3) (zc3 zal) (gn 3) (zax (za2 2 (zcN (zk5 (dv 2) zal) (zao oa (zaa (dv 0) (zaa zal zai)))))))
  (zax (zaR (dv 2))))))))
theorem zeM(F:Fun K "_law_same" "_law_same" zmw f fd)(hm:mg "_law_same"=some (.ref f))(hb:Binds K fd ["_law_found","_law_due"] [])(T:Bt mg) :∀n,FnOk P w K mg base CX0 (1+n) f fd ["_law_found","_law_due"] (spD K 2 (zbi n))
 |0=>⟨λvs H Q E ⟨β,G,ds,_,_,_,h,_⟩=>h,λA outer s H args us vs Q E _ _ _ _ ⟨β,G,ds,_,_,_,_,P,z,_⟩=>z.elim⟩
 |n+1=>by
  have cSelf:Cal P w K mg base "_law_same" (1+n) ["_law_found","_law_due"] (spD K 2 (zbi n)):=Cal.of F (zeM F hm hb T n) hm hb;exact zbD (N:=["_law_found","_law_due"]) (k:=1+n) F λ_ _=>
   (zak (s_if (DW.dt (w_or (zdq (zcW (dv 1))) (zfF (zdq (zcW (dv 1)))))) (zak (s_if (DW.dt (w_or (t_ne (zcW (dv 0)) (zcW (dv 1))) (zfF (t_ne (zcW (dv 0)) (zcW (dv 1)))))) (zax (zaR zfw)) zb0)
  (zax (zaR (zmP (d_eq (zcz 0) (zcz 1)) (zkS (zlc (zaa (DF.de (zba (Nc:=["_law_one","_law_other"]) (.tp 2 (.cons (.nm 0) (.cons (.nm 1) .nil))) (zq2 (dv 0) (dv 1)) (zbT (n:=2) rfl (zad (gn 0) (zad (gn 1) zaG))) za7 (zao cSelf (zaa (dv 0) (zaa (dv 1) zai))))) zai))))))) zb0)
  (zak (s_if (DW.dt (w_or (znq (dv 0)) (zfF (znq (dv 1))))) (zax (zaR (zmP (zp1 (dv 0)) (zkS (zp1 (dv 1)))))) zb0)
  (zak (s_if (DW.dt (w_or (t_ne (zcW (dv 0)) (zcW (dv 1))) (zfF (t_ne (zcW (dv 0)) (zcW (dv 1)))))) (zax (zaR zfw)) zb0)
  (zax (zaR (zmP (d_eq (zcW (dv 0)) (zcW (dv 1))) (zkS (d_eq (dv 0) (dv 1)))))))))
def zfl(F:Fun K "_law_numbers" "_law_numbers" zdT f fd)(T:Bt mg):FnOk P w K mg base CX0 1 f fd ["_law_found","_law_size"] (spD K 2 zaU):=
 zbD (N:=["_law_found","_law_size"]) F λ_ _=>
 (zak (s_if (DW.dt (w_or (zey (zdq (zcW (dv 0)))) (zfF (t_ne (zcz 0) (dv 1))))) (zax (zaR zfw)) zb0)
  (zax (zaR (zlc (zaa (DF.de (zba (Nc:=["_law_one"]) (.nm 0) (zbB (dv 0)) (gn 0) za7 (zmP (zcW (dv 0)) (zkS (zr3 (zcW (dv 0))))))) zai)))))
def zdY(F:Fun K "_law_other_rise" "_law_other_rise" ziP f fd)(T:Bt mg)(oa:Cal P w K mg base "_law_take" 1 ["_law_box_here","_law_many"] (spD K 2 zah))(oC:Cal P w K mg base "_law_great" 2 ["_law_box_here"] (spD K 1 zby)):FnOk P w K mg base CX0 3 f fd ["_law_box_here","_law_rise"] (spD K 2 za5):=
 zbD (N:=["_law_box_here","_law_rise"]) F λ_ _=>
 (zax (zaR (zcN (dv 1) (d_ix (DF.de (zcK (zaa zal (zaa (zpi zal) (zaa (zcN zal (zao oa (zaa (dv 0) (zaa zal zai)))) (zaa (zao oC (zaa (dv 0) zai)) (zaa (zpi (zao oC (zaa (dv 0) zai))) zai))))))) (zao oa (zaa (dv 0) (zaa zal zai)))))))
def zg8(F:Fun K "_law_world" "_law_world" zig f fd)(T:Bt mg)(oa:Cal P w K mg base "_law_take" 1 ["_law_box_here","_law_many"] (spD K 2 zah))(ox:Cal P w K mg base "_law_other_rise" 3 ["_law_box_here","_law_rise"] (spD K 2 za5)):FnOk P w K mg base CX0 4 f fd ["_law_box_here","_law_most_marks","_law_most_hands","_law_most_runs"] (spD K 4 zbz):=
 zbD (N:=["_law_box_here","_law_most_marks","_law_most_hands","_law_most_runs","_law_size","_law_hands_here","_law_wide","_law_heights","_law_names","_law_false","_law_bad","_law_runs","_law_k","_law_one","_law_other","_law_hand","_law_rise"]) F λ_ _=>
 (zak (za2 4 (zcN zal (zao oa (zaa (dv 0) (zaa (dv 1) zai)))))
  (zak (za2 5 (zcN zal (zao oa (zaa (dv 0) (zaa (dv 2) zai)))))
  (zak (za2 6 (d_ix (DF.de (zcK (zaa zal (zaa zal (zaa (zsp zal zal) zai))))) (zao oa (zaa (dv 0) (zaa zal zai)))))
  (zak (zm8 7 (Nc:=["_law_k","_law_box_here","_law_wide"]) (.nm 0) (zc3 (dv 4)) (gn 0) za7 (zao oa (zaa (dv 1) (zaa (dv 2) zai))))
  (zak (za2 8 (DF.de (zba (Nc:=["_law_k","_law_box_here"]) (.nm 0) (zc3 (dv 5)) (gn 0) za7 (d_if (t_eq (zao oa (zaa (dv 1) (zaa zal zai))) zal) (zrq (zk5 zal (dv 0)) zal) (dv 0)))))
  (zak (za2 9 (DF.de (zf4 (DF.de (zba (Nc:=["_law_k","_law_names","_law_box_here","_law_hands_here"]) (.nm 0) (zc3 (zao oa (zaa (dv 0) (zaa zal zai)))) (gn 0) za7 (za8 1 (zao oa (zaa (dv 2) (zaa (dv 3) zai)))))))))
  (zak (za2 10 (zcN zal (zao oa (zaa (dv 0) (zaa zal zai)))))
  (zak (zkT 11 (zcK zai))
  (zak (zcX (.nm 12) (zc3 (zk5 (zao oa (zaa (dv 0) (zaa (zcN (dv 3) zal) zai))) (zsc (zaa (d_gt (dv 4) zal) zai)))) (gn 12) (zak (za2 13 (zao oa (zaa (dv 0) (zaa (dv 4) zai))))
  (zak (za2 14 (zrq (zcN (zcN (dv 13) zal) (zao oa (zaa (dv 0) (zaa (zhn (dv 4) zal) zai)))) (dv 4)))
  (zak (za2 15 (za8 8 (zao oa (zaa (dv 0) (zaa (dv 5) zai)))))
  (zak (za2 16 (zhn (za8 7 (dv 14)) (za8 7 (dv 13))))
  (zak (s_if (DW.dt (zr1 (t_in (dv 15) (dv 9)) (zrz (t_lt (zao oa (zaa (dv 0) (zaa zal zai))) (dv 10))))) (zax (za2 16 (zao ox (zaa (dv 0) (zaa (dv 16) zai))))) zb0)
  (zax (znS 11 (zbW (zaa (dv 13) (zaa (dv 14) (zaa (dv 16) (zaa (dv 15) zai)))))))))))))
  (zax (zlg 11 (zaR (zbW (zaa (dv 4) (zaa (dv 11) (zaa (dv 7) (zaa (dv 9) zai)))))))))))))))))
def ziB(F:Fun K "_law_left" "_law_left" zmk f fd)(T:Bt mg):FnOk P w K mg base CX0 1 f fd ["_law_runs","_law_struck"] (spD K 2 zbj):=
 zbD (N:=["_law_runs","_law_struck"]) F λ_ _=>
 (zax (zaR (DF.de (zba (Nc:=["_law_run","_law_struck"]) (.nm 0) (zbB (dv 0)) (gn 0) (zkr (zlS (za8 0 zal) (dv 1))) (dv 0)))))
def zfD(F:Fun K "_law_settled" "_law_settled" zd2 f fd)(T:Bt mg):FnOk P w K mg base CX0 1 f fd ["_law_size","_law_runs"] (spD K 2 zbs):=
 zbD (N:=["_law_size","_law_runs","_law_labels_here","_law_heights","_law_one","_law_other","_law_rise","_law_hand","_law_by","_law_home","_law_at"]) F λ_ _=>
 (zak (zkT 2 (zmu (dv 0)))
  (zak (zkT 3 (zsE (DF.de (zcK (zaa zal zai))) (dv 0)))
  (zak (zcX (.tp 4 (.cons (.nm 4) (.cons (.nm 5) (.cons (.nm 6) (.cons (.nm 7) .nil))))) (zbB (dv 1)) (zbT (n:=4) rfl (zad (gn 4) (zad (gn 5) (zad (gn 6) (zad (gn 7) zaG))))) (zak (za2 8 (zhn (zcN (za8 3 (dv 4)) (dv 6)) (za8 3 (dv 5))))
  (zax (s_if (t_eq (za8 2 (dv 4)) (za8 2 (dv 5))) (zax (s_if (t_ne (dv 8) zal) (zax (zaR ziq)) zb0)) (zak (za2 9 (DF.de (zcK (zaa (za8 2 (dv 4)) (zaa (za8 2 (dv 5)) zai)))))
  (zax (zcX (.nm 10) (zc3 (dv 0)) (gn 10) (zax (s_if (t_eq (za8 2 (dv 10)) (za8 9 zal)) (zak (zr8 2 (za8 9 zal) (dv 10))
  (zax (zlF 3 (dv 10) (dv 8)))) zb0)))))))))
  (zax (zlg 3 (zlg 2 (zaR (zbW (zaa (dv 2) (zaa (dv 3) zai))))))))))
def zgo(F:Fun K "_law_labels" "_law_labels" zga f fd)(T:Bt mg)(oF:Cal P w K mg base "_law_settled" 1 ["_law_size","_law_runs"] (spD K 2 zbs)):FnOk P w K mg base CX0 2 f fd ["_law_size","_law_runs"] (spD K 2 zbm):=
 zbD (N:=["_law_size","_law_runs"]) F λ_ _=>
 (zax (zaR (d_ix (zao oF (zaa (dv 0) (zaa (DF.de (zba (Nc:=["_law_one","_law_other","_law_rise","_law_hand"]) (.tp 4 (.cons (.nm 0) (.cons (.nm 1) (.cons (.nm 2) (.cons (.nm 3) .nil))))) (zbB (dv 1)) (zbT (n:=4) rfl (zad (gn 0) (zad (gn 1) (zad (gn 2) (zad (gn 3) zaG))))) za7 (zbW (zaa (dv 0) (zaa (dv 1) (zaa zal (zaa (dv 3) zai))))))) zai))) zal)))
def zhv(F:Fun K "_law_hands" "_law_hands" ziK f fd)(T:Bt mg):FnOk P w K mg base CX0 1 f fd ["_law_runs"] (spD K 1 za9):=
 zbD (N:=["_law_runs"]) F λ_ _=>
 (zax (zaR (DF.de (zf4 (DF.de (zba (Nc:=["_law_run"]) (.nm 0) (zbB (dv 0)) (gn 0) za7 (za8 0 zal)))))))
def zht(F:Fun K "_law_lists" "_law_lists" ziR f fd)(T:Bt mg):FnOk P w K mg base CX0 1 f fd ["_law_hands_here","_law_many"] (spD K 2 zbk):=
 zbD (N:=["_law_hands_here","_law_many","_law_some","_law_hand"]) F λ_ _=>
 (zak (za2 2 (DF.de (zcK (zaa (DF.de (zcK zai)) zai))))
  (zak (zcX (.nm 3) (zbB (dv 0)) (gn 3) (zax (za2 2 (zcN (dv 2) (DF.de (zba (Nc:=["_law_one","_law_hand","_law_many"]) (.nm 0) (zbB (dv 2)) (gn 0) (zkr (t_lt (zcz 0) (dv 2))) (zcN (dv 0) (DF.de (zcK (zaa (dv 1) zai))))))))))
  (zax (zaR (DF.de (zba (Nc:=["_law_size","_law_one"]) (.tp 2 (.cons (.nm 0) (.cons (.nm 1) .nil))) (zbB (zps (zaa (DF.de (zba (Nc:=["_law_one"]) (.nm 0) (zbB (dv 2)) (gn 0) za7 (zbW (zaa (zcz 0) (zaa (dv 0) zai))))) zai))) (zbT (n:=2) rfl (zad (gn 0) (zad (gn 1) zaG))) za7 (dv 1)))))))
def zeX(F:Fun K "_law_explains" "_law_explains" zc7 f fd)(T:Bt mg)(oh:Cal P w K mg base "_law_numbers" 1 ["_law_found","_law_size"] (spD K 2 zaU))(ou:Cal P w K mg base "_law_left" 1 ["_law_runs","_law_struck"] (spD K 2 zbj))(oq:Cal P w K mg base "_law_hands" 1 ["_law_runs"] (spD K 1 za9)):FnOk P w K mg base CX0 2 f fd ["_law_size","_law_runs","_law_many","_law_found"] (spD K 4 zaZ):=
 zbD (N:=["_law_size","_law_runs","_law_many","_law_found","_law_false","_law_heights"]) F λ_ _=>
 (zak (s_if (DW.dt (w_or (zey (zdq (zcW (dv 3)))) (w_or (t_ne (zcz 3) zal) (zfF (zey (zdq (zcW (za8 3 zal)))))))) (zax (zaR zfw)) zb0)
  (zak (zjb (.tp 2 (.cons (.nm 4) (.cons (.nm 5) .nil))) (dv 3) (zbT (n:=2) rfl (zad (gn 4) (zad (gn 5) zaG))))
  (zak (s_if (DW.dt (w_or (zey (zdq (zao oh (zaa (dv 4) (zaa (zcz 4) zai))))) (w_or (zey (zdq (zao oh (zaa (dv 5) (zaa (dv 0) zai))))) (zfF (t_gt (zcz 4) (dv 2)))))) (zax (zaR zfw)) zb0)
  (zak (s_if (DW.dt (w_or (t_ne (dv 4) (DF.de (zf4 (dv 4)))) (zfF (zey (zdq (zlc (zaa (DF.de (zba (Nc:=["_law_hand","_law_runs"]) (.nm 0) (zbB (dv 4)) (gn 0) za7 (d_in (dv 0) (zao oq (zaa (dv 1) zai))))) zai))))))) (zax (zaR zfw)) zb0)
  (zax (zaR (zlc (zaa (DF.de (zba (Nc:=["_law_run","_law_heights"]) (.nm 0) (zbB (zao ou (zaa (dv 1) (zaa (dv 4) zai)))) (gn 0) za7 (d_eq (zhn (za8 1 (za8 0 zal)) (za8 1 (za8 0 zal))) (za8 0 zal)))) zai))))))))
def zdM(F:Fun K "_law_book_right" "_law_book_right" zcv f fd)(T:Bt mg)(oh:Cal P w K mg base "_law_numbers" 1 ["_law_found","_law_size"] (spD K 2 zaU))(oD:Cal P w K mg base "_law_explains" 2 ["_law_size","_law_runs","_law_many","_law_found"] (spD K 4 zaZ))(oT:Cal P w K mg base "told" 13 ["size","runs","many","one","other"] (spD K 5 zfA)):FnOk P w K mg base CX0 14 f fd ["_law_size","_law_runs","_law_many","_law_one","_law_other","_law_found"] (spD K 6 zaV):=
 zbD (N:=["_law_size","_law_runs","_law_many","_law_one","_law_other","_law_found","_law_rows","_law_first","_law_second"]) F λ_ _=>
 (zak (s_if (DW.dt (w_or (zey (zdq (zcW (dv 5)))) (w_or (t_ne (zcz 5) zal) (zfF (zey (zdq (zao oh (zaa (za8 5 zal) (zaa (zcz 1) zai))))))))) (zax (zaR zfw)) zb0)
  (zak (za2 6 (DF.de (zba (Nc:=["_law_run","_law_rise"]) (.tp 2 (.cons (.nm 0) (.cons (.nm 1) .nil))) (zq2 (dv 1) (za8 5 zal)) (zbT (n:=2) rfl (zad (gn 0) (zad (gn 1) zaG))) za7 (zcN (d_sl (dv 0) zgE (zgC zal)) (zbW (zaa (dv 1) (zaa (za8 0 zal) zai)))))))
  (zak (s_if (zey (zdq (zlc (zaa (DF.de (zba (Nc:=["_law_here","_law_size","_law_rows","_law_many"]) (.nm 0) (zbB (d_sl (dv 5) (zgC zal) zgE)) (gn 0) za7 (zao oD (zaa (dv 1) (zaa (dv 2) (zaa (dv 3) (zaa (dv 0) zai))))))) zai)))) (zax (zaR zfw)) zb0)
  (zak (zjb (.tp 2 (.cons (.nm 7) (.cons (.nm 8) .nil))) (DF.de (zba (Nc:=["_law_here","_law_other","_law_one"]) (.nm 0) (zbB (d_sl (dv 5) (zgC zal) zgE)) (gn 0) za7 (zhn (d_ix (za8 0 zal) (dv 1)) (d_ix (za8 0 zal) (dv 2))))) (zbT (n:=2) rfl (zad (gn 7) (zad (gn 8) zaG))))
  (zax (zaR (zmP (d_ne (dv 7) (dv 8)) (zkS (d_eq (d_ix (zao oT (zaa (dv 0) (zaa (dv 6) (zaa (dv 2) (zaa (dv 3) (zaa (dv 4) zai)))))) zal) zgG)))))))))
def zrf(F:Fun K "law" "law" sLaw f fd)(T:Bt mg)(cB:Cal P w K mg base "_law_box" 1 ["_law_script"] (Fen.zqh K))(oK:Cal P w K mg base "_law_world" 4 ["_law_box_here","_law_most_marks","_law_most_hands","_law_most_runs"] (spD K 4 zbz))(oa:Cal P w K mg base "_law_take" 1 ["_law_box_here","_law_many"] (spD K 2 zah))(oM:Cal P w K mg base "_law_lists" 1 ["_law_hands_here","_law_many"] (spD K 2 zbk))(oS:Cal P w K mg base "foe" 5 ["size","runs","many","one","other"] (spD K 5 ziT))(oq:Cal P w K mg base "_law_hands" 1 ["_law_runs"] (spD K 1 za9))(oH:Cal P w K mg base "_law_labels" 2 ["_law_size","_law_runs"] (spD K 2 zbm))(ou:Cal P w K mg base "_law_left" 1 ["_law_runs","_law_struck"] (spD K 2 zbj))(oy:Cal P w K mg base "_law_book_right" 14 ["_law_size","_law_runs","_law_many","_law_one","_law_other","_law_found"] (spD K 6 zaV))(oU:Cal P w K mg base "_law_same" (1+6) ["_law_found","_law_due"] (spD K 2 (zbi 6)))(hw:lawW 14 zec):FnOk P w K mg base CX0 15 f fd ["_law_script"] (zlY K):=by
 refine zq8 (N:=["_law_size","_law_runs","_law_heights","_law_false","_law_many","_law_k","_law_one","_law_other","_law_due","_law_some","_law_labels_here","_law_handed","_law_found","_law_kept"]) (k:=14) F rfl cB (λ_ _=>?_) hw;unfold zec;exact(zak (zjb (.tp 4 (.cons (.nm 2) (.cons (.nm 3) (.cons (.nm 4) (.cons (.nm 5) .nil))))) (zao oK (zaa (dv 1) (zaa zal (zaa (d_ix (DF.de (zcK (zaa zal (zaa zal zai)))) (zao oa (zaa (dv 1) (zaa zal zai)))) (zaa (d_ix (DF.de (zcK (zaa zal (zaa zal zai)))) (zao oa (zaa (dv 1) (zaa zal zai)))) zai))))) (zbT (n:=4) rfl (zad (gn 2) (zad (gn 3) (zad (gn 4) (zad (gn 5) zaG))))))
  (zak (za2 6 (zao oa (zaa (dv 1) (zaa zal zai))))
  (zak (zcX (.nm 7) (zc3 zal) (gn 7) (zak (za2 8 (zao oa (zaa (dv 1) (zaa (dv 2) zai))))
  (zak (za2 9 (zao oa (zaa (dv 1) (zaa (dv 2) zai))))
  (zak (za2 10 zfw)
  (zak (zcX (.nm 11) (zbB (zao oM (zaa (zao oq (zaa (dv 3) zai)) (zaa (zk5 zal (dv 6)) zai)))) (gn 11) (zak (za2 12 (zao oH (zaa (dv 2) (zaa (zao ou (zaa (dv 3) (zaa (dv 11) zai))) zai))))
  (zax (za2 10 (d_or (dv 10) (zkS (d_ne (za8 12 (dv 8)) (za8 12 (dv 9)))))))))
  (zak (za2 13 (DF.de (zfX (dv 3))))
  (zrv 14 15 oS (zaa (dv 2) (zaa (dv 13) (zaa (dv 6) (zaa (dv 8) (zaa (dv 9) zai))))) (DW.dt (w_or (t_ne (zqN (dv 14)) (dv 10)) (zfF (t_ne (dv 13) (dv 3))))) (zjZ (dv 14)) (zey (zdq (zao oy (zaa (dv 2) (zaa (dv 3) (zaa (dv 6) (zaa (dv 8) (zaa (dv 9) (zaa (dv 14) zai))))))))) (λ_ _ _=>(zcN (zbW (zaa (DF.de (zfX (za8 14 zal))) zai)) (zlp (zaa (DF.de (zba (Nc:=["_law_here"]) (.nm 0) (zbB (d_sl (dv 14) (zgC zal) zgE)) (gn 0) za7 (zbW (zaa (DF.de (zfX (za8 0 zal))) (zaa (DF.de (zfX (za8 0 zal))) zai))))) zai)))) (λh=>(zmZ (znd (j:=0) (zmF 14)) zaI (zmZ (znd (j:=1) (znd (j:=1) (zmF 14))) zaI (zmZ (znd (j:=0) (znd (j:=2) (zmF 14))) zaI zq4))) h)
  (zax (s_if (zey (zdq (zao oU (zaa (zao oS (zaa (dv 2) (zaa (dv 13) (zaa (dv 6) (zaa (dv 8) (zaa (dv 9) zai)))))) (zaa (dv 15) zai))))) (zax (zaR zfw)) zb0)))))))))
  (zax (zaR zfw)))))
end
end Fd
namespace Hd
open PySem L2 Fen PySem.W PySem.Calls PyProof.Rows
noncomputable section
noncomputable abbrev dE(P:Params)(k:Str)(n:Nat)(v:Value):DictEntry:=⟨PyData.keyHash P k,.str k n,v⟩
noncomputable def dN:Stmt->Str
 |.FunctionDef x ..=>x
 |_ => ""
noncomputable abbrev cO(s:Stmt)(a:Nat)(l:Int)(lt:Nat)(n:Int)(v:Addr)(g h:Value)(q:Addr)(d:Nat):Obj:=⟨.type "code",none,.fields #[.str (dN s) a,.str (dN s) (a+1),.str "/claim/cut.py" (a+2),.int l lt,.int n 0,.int 0 0,.int 0 0,.int 3 0,.ref v,.bool true,.int 181 0,.ref (v+1),.none,g,h,.ref q,.int (d-1) 0,.int l lt,.str "/claim/cut.py" d],#[]⟩
noncomputable abbrev cP(s:Stmt)(a:Nat)(l:Int)(lt:Nat)(n:Int)(v:Addr)(d:Nat):Obj:=cO s a l lt n v .none .none (v+2) d
noncomputable abbrev fD(x:Str)(s:Stmt)(m:Str)(t:Nat)(c:Addr):FuncData:=PySem.W.fnOf x x (zc5 s) (zb6 s) (zat s) .none .none .none (.str m t) none (.ref c) .none
noncomputable abbrev fO(s:Stmt)(m:Str)(t:Nat)(c:Addr):Obj:=⟨.type "function",none,.func (fD (dN s) s m t c),#[]⟩
noncomputable abbrev fI(s:Stmt):Obj:=⟨.none,none,.func ⟨dN s,dN s,zc5 s,.stmts (zb6 s),zat s,0,[],.none,.none,.none,.none,none,.none,.none,0⟩,#[]⟩
noncomputable abbrev cT:Obj:=⟨.type "tuple",none,.seq #[] 0,#[]⟩
noncomputable abbrev cF:Obj:=⟨.none,none,.fields #[],#[]⟩
noncomputable def tS:Nat->List Str->List Value
 |_,[]=>[]
 |n,x::l=>.str x n::tS (n+1) l
noncomputable abbrev cN(n:Nat)(l:List Str):Obj:=⟨.type "tuple",none,.seq (tS n l).toArray 0,#[]⟩
noncomputable def cV:List (Int×Nat×Nat)->List Value
 |[]=>[]
 | (l,t,c)::r=>.int l t::.int 0 0::.ref c::cV r
noncomputable def bT(f:Nat->Obj)(n:Nat):Nat->Nat->Nat->BT
 |0,_,_=>.nil
 |k+1,a,b=>match Nat.blt b n with
  |true=>.node (f b) (bT f n k (Nat.mul 2 a) (Nat.add a b)) (bT f n k (Nat.mul 2 a) (Nat.add (Nat.mul 2 a) b))
  |false=>.nil
noncomputable abbrev u0:Str:="fenlevel.trees"
noncomputable abbrev u1:Str:="fenlevel.runs"
noncomputable abbrev u2:Str:="fenlevel.readings"
noncomputable abbrev u3:Str:="fenlevel.rings"
noncomputable abbrev u4:Str:="fenlevel.papers"
noncomputable abbrev u5:Str:="fenlevel.sure"
noncomputable abbrev u6:Str:="fenlevel.parting"
noncomputable abbrev u7:Str:="law_fenlevel_k24_whole_a_foe_has_two_truths"
noncomputable def c0(P:Params)(d c:Obj):List Obj:=[PySem.W.boot_o_0 P,PySem.W.boot_o_1 P,PySem.W.boot_o_2 P,d,PySem.W.boot_o_4 P,PySem.W.boot_o_5 P,PySem.W.boot_o_6 P,PySem.W.boot_o_7 P,PySem.W.boot_o_8 P,PySem.W.boot_o_9 P,PySem.W.boot_o_10 P,cT,c,⟨.type "code",none,.fields #[.str "<module>" 182,.str "<module>" 183,.str "/claim/cut.py" 184,.int 1 0,.int 0 0,.int 0 0,.int 0 0,.int 0 0,.ref 11,.bool false,.int 181 0,.ref 12,.none,.none,.none,.none,.int 185 0,.int 1 0,.str "/claim/cut.py" 186],#[]⟩,⟨.type "frame",none,.plain,#[some (.ref 13),some (.ref 3),some (.ref 3),none,some (.str "__main__" 164),none,some (.ref 0)]⟩,cT,cF,fI zbM,cP zbM 189 2 0 3 15 193,fO zbM u0 187 18,cT,cF,cN 198 ["start","steps","tree","newest","fresh","mark","height","line","number","end","rise"],cT]
noncomputable def c1(P:Params):List Obj:=[fI zcs,cO zcs 195 9 0 2 20 (.ref 22) (.ref 23) 24 210,fO zcs u0 187 25,cT,cF,cN 215 ["size","runs","struck","steps","trees","reached","mark","tree"],cT,fI zdn,cO zdn 212 22 0 3 27 (.ref 29) (.ref 30) 31 224,fO zdn u0 187 32,cT,cF,fI zd7,cP zd7 228 33 0 1 34 232,fO zd7 u1 226 37,cT,cF,fI znb,cP znb 234 35 0 2 39 238,fO znb u1 226 42,cT,cF,fI zee,cP zee 240 37 0 2 44 244]
noncomputable def c2(P:Params):List Obj:=[fO zee u1 226 47,cT,cF,fI zc9,cP zc9 246 39 0 2 49 250,fO zc9 u1 226 52,cT,cF,cN 255 ["size","runs","heights","tree","mark","height","line"],cT,fI zjs,cO zjs 252 41 0 2 54 (.ref 56) (.ref 57) 58 263,fO zjs u1 226 59,cT,cF,fI zdO,cP zdO 267 50 0 2 61 271,fO zdO u2 265 64,cT,cF,cN 276 ["size","runs","many","hands","found","length","struck"],cT,fI zcw,cO zcw 273 55 0 3 66 (.ref 68) (.ref 69) 70 284]
noncomputable def c3(P:Params):List Obj:=[fO zcw u2 265 71,cT,cF,cN 289 ["size","runs","many","hands","length","struck","heights"],cT,fI zdV,cO zdV 286 63 0 3 73 (.ref 75) (.ref 76) 77 297,fO zdV u2 265 78,cT,cF,fI zcx,cP zcx 301 72 0 2 80 305,fO zcx u3 299 83,cT,cF,cN 310 ["size","runs","struck","one","other","tree","height","line"],cT,fI zca,cO zca 307 74 0 5 85 (.ref 87) (.ref 88) 89 319,fO zca u3 299 90,cT,cF,cN 324 ["first","second","shared"],cT]
noncomputable def c4(P:Params):List Obj:=[fI zev,cO zev 321 80 0 2 92 (.ref 94) (.ref 95) 96 328,fO zev u3 299 97,cT,cF,cN 333 ["size","runs","struck","reached","tree","number","one","other","rise","hand","low","to_one","high","to_other"],cT,fI zb5,cO zb5 330 85 0 3 99 (.ref 101) (.ref 102) 103 348,fO zb5 u3 299 104,cT,cF,fI zbE,cP zbE 352 96 0 5 106 356,fO zbE u4 350 109,cT,cF,cN 361 ["size","runs","many","one","other"],cT,fI zcy,cO zcy 358 107 0 5 111 (.ref 113) (.ref 114) 115 367,fO zcy u4 350 116,cT,cF]
noncomputable def c5(P:Params):List Obj:=[cN 372 ["size","runs","many"],cT,fI zcC,cO zcC 369 109 0 3 118 (.ref 120) (.ref 121) 122 376,fO zcC u4 350 123,cT,cF,cN 383 ["size","runs","heights","mark","higher","group","each"],cT,fI zft,cO zft 380 114 0 4 125 (.ref 127) (.ref 128) 129 391,fO zft u5 378 130,cT,cF,cN 396 ["size","runs","many","mark","found","false","kept","heights"],cT,fI za1,cO za1 393 121 0 4 132 (.ref 134) (.ref 135) 136 405,fO za1 u5 378 137,cT,cF,cN 410 ["heights","one","other"],cT,fI zbS]
noncomputable def c6(P:Params):List Obj:=[cO zbS 407 129 0 3 139 (.ref 141) (.ref 142) 143 414,fO zbS u5 378 144,cT,cF,cN 419 ["size","runs","many","one","other","found","false","heights","rise","unlike","others"],cT,fI zlj,cO zlj 416 131 0 5 146 (.ref 148) (.ref 149) 150 431,fO zlj u5 378 151,cT,cF,cN 438 ["size","runs","struck","one","other"],cT,fI zh5,cO zh5 435 142 0 5 153 (.ref 155) (.ref 156) 157 444,fO zh5 u6 433 158,cT,cF,cN 449 ["size","runs","many","one","other","hands","length","struck"],cT,fI zd5,cO zd5 446 144 0 5 160 (.ref 162) (.ref 163) 164 458,fO zd5 u6 433 165,cT]
noncomputable def c7(P:Params):List Obj:=[cF,fI pFoe,cP pFoe 460 151 0 5 167 464,fO pFoe u6 433 170,cT,cF,cN 471 ["_law_script"],cT,fI sBox,cO sBox 468 161 0 1 172 (.ref 174) (.ref 175) 176 473,fO sBox u7 466 177,cT,cF,cN 478 ["_law_box_here","_law_many","_law_rest","_law_cell","_law_seed"],cT,fI zjL,cO zjL 475 163 0 2 179 (.ref 181) (.ref 182) 183 484,fO zjL u7 466 184,cT,cF,cN 489 ["_law_box_here","_law_ways","_law_found","_law_k"],cT,fI zin,cO zin 486 179 0 1 186 (.ref 188) (.ref 189) 190 494]
noncomputable def c8(P:Params):List Obj:=[fO zin u7 466 191,cT,cF,fI zmw,cP zmw 496 189 0 2 193 500,fO zmw u7 466 196,cT,cF,fI zdT,cP zdT 502 199 0 2 198 506,fO zdT u7 466 201,cT,cF,cN 511 ["_law_box_here","_law_rise"],cT,fI ziP,cO ziP 508 203 0 2 203 (.ref 205) (.ref 206) 207 514,fO ziP u7 466 208,cT,cF,fI zig,cP zig 516 205 0 4 210 520,fO zig u7 466 213,cT]
noncomputable def c9(P:Params):List Obj:=[cF,fI zmk,cP zmk 522 223 0 2 215 526,fO zmk u7 466 218,cT,cF,cN 531 ["_law_size","_law_runs","_law_labels_here","_law_heights","_law_one","_law_other","_law_rise","_law_hand","_law_by","_law_home","_law_at"],cT,fI zd2,cO zd2 528 225 0 2 220 (.ref 222) (.ref 223) 224 543,fO zd2 u7 466 225,cT,cF,fI zga,cP zga 545 240 0 2 227 549,fO zga u7 466 230,cT,cF,fI ziK,cP ziK 551 242 0 1 232 555,fO ziK u7 466 235,cT,cF,fI ziR]
noncomputable def c10(P:Params):List Obj:=[cP ziR 557 244 0 2 237 561,fO ziR u7 466 240,cT,cF,fI zc7,cP zc7 563 249 0 4 242 567,fO zc7 u7 466 245,cT,cF,fI zcv,cP zcv 569 258 0 6 247 573,fO zcv u7 466 250,cT,cF,fI sLaw,cP sLaw 575 266 0 1 252 579,fO sLaw u7 466 255]
noncomputable def oB(P:Params)(d c:Obj):List Obj:=c0 P d c++(c1 P++(c2 P++(c3 P++(c4 P++(c5 P++(c6 P++(c7 P++(c8 P++(c9 P++(c10 P))))))))))
noncomputable def e3(P:Params):List DictEntry:=[dE P "__doc__" 166 (.none),dE P "__package__" 167 (.none),dE P "__loader__" 168 (.builtin "__main__.__loader__#opaque"),dE P "__spec__" 169 (.none),dE P "__annotations__" 170 (.ref 6),dE P "__builtins__" 171 (.ref 4),dE P "__file__" 173 (.str "/claim/cut.py" 172),dE P "__cached__" 174 (.none),dE P "steps_from" 194 (.ref 19),dE P "tree_from" 211 (.ref 26),dE P "trees_of" 225 (.ref 33),dE P "hands_of" 233 (.ref 38),dE P "left" 239 (.ref 43),dE P "holds" 245 (.ref 48),dE P "groups" 251 (.ref 53),dE P "flat" 264 (.ref 60),dE P "lists_of" 272 (.ref 65),dE P "false_sets" 285 (.ref 72),dE P "reading" 298 (.ref 79),dE P "line_hands" 306 (.ref 84),dE P "some_line" 320 (.ref 91),dE P "across" 329 (.ref 98),dE P "open_ring" 349 (.ref 105),dE P "paper_without" 357 (.ref 110),dE P "some_paper" 368 (.ref 117),dE P "none_paper" 377 (.ref 124),dE P "lifted" 392 (.ref 131),dE P "readings_to_compare" 406 (.ref 138),dE P "rise_between" 415 (.ref 145),dE P "told" 432 (.ref 152),dE P "parts" 445 (.ref 159),dE P "parting" 459 (.ref 166),dE P "foe" 465 (.ref 171),dE P "_law_box" 474 (.ref 178),dE P "_law_take" 485 (.ref 185),dE P "_law_great" 495 (.ref 192),dE P "_law_same" 501 (.ref 197),dE P "_law_numbers" 507 (.ref 202),dE P "_law_other_rise" 515 (.ref 209),dE P "_law_world" 521 (.ref 214),dE P "_law_left" 527 (.ref 219),dE P "_law_settled" 544 (.ref 226),dE P "_law_labels" 550 (.ref 231),dE P "_law_hands" 556 (.ref 236),dE P "_law_lists" 562 (.ref 241),dE P "_law_explains" 568 (.ref 246),dE P "_law_book_right" 574 (.ref 251),dE P "law" 580 (.ref 256)]
noncomputable def d3(P:Params)(x:Str)(t k:Nat):Obj:=⟨.type "dict",none,.dict (dE P "__name__" 165 (.str x t)::(e3 P).take k).toArray (k+1),#[]⟩
noncomputable def v4:List Value:=cV [(2,0,18),(9,0,25),(22,0,32),(33,0,37),(35,0,42),(37,0,47),(39,0,52),(41,0,59),(50,0,64),(55,0,71),(63,0,78),(72,0,83),(74,0,90),(80,0,97),(85,0,104),(96,0,109),(107,0,116),(109,0,123),(114,0,130),(121,0,137),(129,0,144),(131,0,151),(142,0,158),(144,0,165),(151,0,170),(161,0,177),(163,0,184),(179,0,191),(189,0,196),(199,0,201),(203,0,208),(205,0,213),(223,0,218),(225,0,225),(240,0,230),(242,0,235),(244,0,240),(249,0,245),(258,0,250),(266,0,255)]
noncomputable def d4(k:Nat):Obj:=⟨.none,none,.fields (v4.take k).toArray,#[]⟩
noncomputable def bE:List Stmt:=PySem.W.behindTheImports PySem.Challenge.pw_fenlevel_k24_whole_a_foe_has_two_truths
noncomputable def eN:PySem.Env:={scope:=(PySem.Challenge.pw_fenlevel_k24_whole_a_foe_has_two_truths).main.scope,locals:=mainNs,globals:=mainNs,cells:=[],code:=.ref 13,frame:=some 14}
noncomputable def cB:Code:=.body bE eN
noncomputable def fB:List Frame:=[topFrame ⟨0,0,0,0⟩]
noncomputable def sA(w:PySem.World)(os:OsState):Shared:=⟨⟨⟨(oB w.params (d3 w.params "__main__" 164 8) (d4 0)).take 15⟩,{}⟩,#[],{},187,os⟩
noncomputable def sB0(w:PySem.World)(os:OsState):SharedT:=⟨bT (λi=>(oB w.params (d3 w.params "__main__" 164 8) (d4 0)).getD i cT) 15 12 1 0,15,{},#[],{},187,os⟩
noncomputable def sB1(w:PySem.World)(os:OsState):SharedT:=⟨bT (λi=>(oB w.params (d3 w.params "fenlevel.rings" 299 20) (d4 36)).getD i cT) 85 12 1 0,85,{},#[],{},307,os⟩
noncomputable def sB2(w:PySem.World)(os:OsState):SharedT:=⟨bT (λi=>(oB w.params (d3 w.params "fenlevel.parting" 433 31) (d4 69)).getD i cT) 160 12 1 0,160,{},#[],{},446,os⟩
noncomputable def sB3(w:PySem.World)(os:OsState):SharedT:=⟨bT (λi=>(oB w.params (d3 w.params "law_fenlevel_k24_whole_a_foe_has_two_truths" 466 44) (d4 108)).getD i cT) 237 12 1 0,237,{},#[],{},557,os⟩
noncomputable def sB4(w:PySem.World)(os:OsState):SharedT:=⟨bT (λi=>(oB w.params (d3 w.params "law_fenlevel_k24_whole_a_foe_has_two_truths" 466 48) (d4 120)).getD i cT) 257 12 1 0,257,{},#[],{},581,os⟩
noncomputable def hE(P:Params):Heap:=⟨⟨oB P (d3 P "law_fenlevel_k24_whole_a_foe_has_two_truths" 466 48) (d4 120)⟩,{}⟩
noncomputable def St0:Prop:=∀(w:PySem.World)(os:OsState),topGo treeTable PySem.Challenge.pw_fenlevel_k24_whole_a_foe_has_two_truths w 11 (some (.ref 6)) 12 ⟨PySem.W.boot_heap w.params,Array.mk [],PySem.W.boot_drawn,PySem.W.boot_toks,os⟩ (topStub PySem.Challenge.pw_fenlevel_k24_whole_a_foe_has_two_truths)=some (sA w os,⟨denote treeTable cB,cB,⟨0,0,0,0⟩,fB⟩)
noncomputable def St1:Prop:=∀(w:PySem.World)(os:OsState),segRun treeTable PySem.Challenge.pw_fenlevel_k24_whole_a_foe_has_two_truths w 11 (some (.ref 6)) 1 1 (sA w os) (blockOf bE eN cB ⟨0,0,0,0⟩ fB)=some (.next,(sB0 w os).abs,cB,⟨0,0,0,0⟩)
noncomputable def St2:Prop:=∀(w:PySem.World)(os:OsState),segRunT treeTable PySem.Challenge.pw_fenlevel_k24_whole_a_foe_has_two_truths w 11 (some (.ref 6)) 1 399 (sB0 w os) (piecesOf ((bE.drop 0).take 16) eN cB ⟨0,0,0,0⟩ fB)=some (.next,sB1 w os,cB,⟨72,0,73,54⟩)
noncomputable def St3:Prop:=∀(w:PySem.World)(os:OsState),segRunT treeTable PySem.Challenge.pw_fenlevel_k24_whole_a_foe_has_two_truths w 11 (some (.ref 6)) 1 401 (sB1 w os) (piecesOf ((bE.drop 16).take 14) eN cB ⟨72,0,73,54⟩ fB)=some (.next,sB2 w os,cB,⟨142,0,143,60⟩)
noncomputable def St4:Prop:=∀(w:PySem.World)(os:OsState),segRunT treeTable PySem.Challenge.pw_fenlevel_k24_whole_a_foe_has_two_truths w 11 (some (.ref 6)) 1 391 (sB2 w os) (piecesOf ((bE.drop 30).take 14) eN cB ⟨142,0,143,60⟩ fB)=some (.next,sB3 w os,cB,⟨242,0,243,63⟩)
noncomputable def St5:Prop:=∀(w:PySem.World)(os:OsState),segRunT treeTable PySem.Challenge.pw_fenlevel_k24_whole_a_foe_has_two_truths w 11 (some (.ref 6)) 1 105 (sB3 w os) (piecesOf ((bE.drop 44).take 4) eN cB ⟨242,0,243,63⟩ fB)=some (.next,sB4 w os,cB,⟨266,0,290,15⟩)
noncomputable def St6:Prop:=∀(w:PySem.World)(os:OsState),topRun treeTable PySem.Challenge.pw_fenlevel_k24_whole_a_foe_has_two_truths w 11 (some (.ref 6)) 2 (sB4 w os).abs ⟨doneF .next,cB,⟨266,0,290,15⟩,fB⟩=some ⟨hE w.params,#[],{},581,os⟩
noncomputable def vw:Program:={PySem.Challenge.pw_fenlevel_k24_whole_a_foe_has_two_truths with main:={(PySem.Challenge.pw_fenlevel_k24_whole_a_foe_has_two_truths).main with body:=[top 1,top 2,top 3,top 5,top 6,top 7,top 8,top 9,top 11,top 12,top 13,top 15,top 16,top 17,top 18,top 20,top 21,top 22,top 24,top 25,top 26,top 27,top 29,top 30,top 31,top 33,top 34,top 35,top 36,top 37,top 38,top 39,top 40,top 41,top 42,top 43,top 44,top 45,top 46,top 47]}}
noncomputable def hA:List Addr:=[3,18,19,25,26,32,33,37,38,42,43,47,48,52,53,59,60,64,65,71,72,78,79,83,84,90,91,97,98,104,105,109,110,116,117,123,124,130,131,137,138,144,145,151,152,158,159,165,166,170,171,177,178,184,185,191,192,196,197,201,202,208,209,213,214,218,219,225,226,230,231,235,236,240,241,245,246,250,251,255,256]
noncomputable def hK(P:Params):List (Nat×Obj):=hA.map λa=>(a,(oB P (d3 P "law_fenlevel_k24_whole_a_foe_has_two_truths" 466 48) (d4 120)).getD a cT)
noncomputable def hH:PySem.W.Hook:=kHook hK hA (λ_=>by kernel_rfl)
noncomputable def xT(s:Shared):Bool:=xlAt vw [] s&&recOk (RowW.records (PySem.Challenge.rw_fenlevel_k24_whole_a_foe_has_two_truths).row.toRowW) s
noncomputable def StZ:Prop:=∀w:PySem.World,((PySem.W.boot_heap w.params).isNs mainGlobals&&(Array.mk []:Array GenState).size==0,(PySem.W.boot_heap w.params).objs.size,(PySem.W.boot_heap w.params).nsMap mainGlobals "__annotations__")=(true,11,some (.ref 6))
noncomputable def StA:Prop:=∀(w:PySem.World)(os:OsState),(staticsOk (importedModules (PySem.Challenge.pw_fenlevel_k24_whole_a_foe_has_two_truths).main.body) (PySem.W.boot_heap w.params) (hE w.params)&&namesBound PySem.Challenge.pw_fenlevel_k24_whole_a_foe_has_two_truths (hE w.params)&&gensDone ⟨hE w.params,#[],{},581,os⟩&&laidKept (PySem.W.boot_heap w.params) (hE w.params))=true
noncomputable def StB:Prop:=∀(w:PySem.World)(os:OsState),openSeen vw [] (importedModules (PySem.Challenge.pw_fenlevel_k24_whole_a_foe_has_two_truths).main.body) xT true ⟨hE w.params,#[],{},581,os⟩=openGood vw []
noncomputable def StC:Prop:=∀(w:PySem.World)(os:OsState),hH.obs ⟨hE w.params,#[],{},581,os⟩=hH.val w
def pr0:(Function.const Prop true (St0/\St1/\St2/\St3/\St4/\St5/\St6/\StZ/\StA/\StB/\StC))=true:=by k_qdec
def th0:St0:=PySem.W.Fast.te937873346748051313.mpr (λ_ _=>by kernel_rfl)
def th1:St1:=PySem.W.Fast.te13982121027552719780.mpr (λ_ _=>by kernel_rfl)
def th2:St2:=PySem.W.Fast.te10105581574835445100.mpr (λ_ _=>by kernel_rfl)
def th3:St3:=PySem.W.Fast.te16437609458486848278.mpr (λ_ _=>by kernel_rfl)
def th4:St4:=PySem.W.Fast.te13904560402631476566.mpr (λ_ _=>by kernel_rfl)
def th5:St5:=PySem.W.Fast.te6988618110474044161.mpr (λ_ _=>by kernel_rfl)
def th6:St6:=PySem.W.Fast.te18292254230441717836.mpr (λ_ _=>by kernel_rfl)
def thZ:StZ:=PySem.W.Fast.te16988565736444548789.mpr (λ_=>by kernel_rfl)
def thA:StA:=PySem.W.Fast.te17744963595637626835.mpr (λ_ _=>by kernel_rfl)
def thB:StB:=PySem.W.Fast.te8016293489012441566.mpr (λ_ _=>by kernel_rfl)
def thC:StC:=PySem.W.Fast.te1647357278597937641.mpr (λ_ _=>by kernel_rfl)
def gr{tb:String->Option Builtin}{p:Program}{w:PySem.World}{n₀:Nat}{ann:Option Value}{env:PySem.Env}{q:Pos}{n N:Nat}{s s' r:Shared}{c:Code}{pos p':Pos}(l:List Stmt)(a k:Nat)(h:segRun tb p w n₀ ann 1 n s (piecesOf ((l.drop a).take k) env c pos [topFrame q])=some (.next,s',c,p'))
  (z:topRun tb p w n₀ ann N s' (restOf (l.drop (a+k)) env c p' [topFrame q])=some r):topRun tb p w n₀ ann (n+N) s (restOf (l.drop a) env c pos [topFrame q])=some r:=by
 have:=piece_app (rest:=(l.drop a).drop k) h (by rw[YDw];exact z)
 rwa[YBb]at this
def zp7:bE.drop 48=[]:=by kernel_rfl
def zpS:∀(w:PySem.World)(os:OsState),topRun treeTable PySem.Challenge.pw_fenlevel_k24_whole_a_foe_has_two_truths w 11 (some (.ref 6)) (12+(1+(399+(401+(391+(105+2)))))) ⟨PySem.W.boot_heap w.params,Array.mk [],PySem.W.boot_drawn,PySem.W.boot_toks,os⟩ (topStub PySem.Challenge.pw_fenlevel_k24_whole_a_foe_has_two_truths)=some ⟨hE w.params,#[],{},581,os⟩:=λw os=>
 go_top (th0 w os) (piece_block (th1 w os) (gr bE 0 16 (segRun_of (th2 w os)) (gr bE 16 14 (segRun_of (th3 w os)) (gr bE 30 14 (segRun_of (th4 w os)) (gr bE 44 4 (segRun_of (th5 w os)) (by rw[zp7];exact piece_nil (th6 w os)))))))
def left_o:LeftO PySem.Challenge.pw_fenlevel_k24_whole_a_foe_has_two_truths vw [] xT hH.obs hH.val 2710:=
 LeftO.of_pieces (boot_open (by kernel_rfl) (by kernel_rfl) (λ_=>by kernel_rfl)) thZ zpS (by kernel_rfl) λw=>funext λos=>looks_pair (thA w os) (looks_pair (thB w os) (thC w os))
end
end Hd
namespace Fd
open PySem L2 Fen Hd
def us0{p:List Value->Prop}(k:p []):∀us:List Value,us.length=0->p us
 |[],_=>k
def usS{p:List Value->Prop}{n:Nat}(k:∀(a:Value) (us:List Value),us.length=n->p (a::us)):∀us:List Value,us.length=n+1->p us
 |a::us,h=>k a us (Nat.succ.inj h)
noncomputable def fdOf(P:Params)(f:Addr):FuncData:=match List.lookup f (hK P)with
 |some ⟨_,_,.func d,_⟩=>d
 |_=>fD "" (.Pass ⟨0,0,0,0⟩) "" 0 0
noncomputable def fcOf(P:Params)(f:Addr):Addr:=match (fdOf P f).code with
 |.ref c=>c
 |_=>0
noncomputable def fmOf(P:Params)(f:Addr):Value:=(fdOf P f).pyModule
noncomputable abbrev fE(P:Params)(x:Str)(s:Stmt)(f:Addr):FuncData:=PySem.W.fnOf x x (zc5 s) (zb6 s) (zat s) .none .none .none (fmOf P f) none (.ref (fcOf P f)) .none
def fF{P:Params}(x:Str)(s:Stmt)(f:Addr)(l:List.lookup f (hK P)=some ⟨.type "function",none,.func (fE P x s f),#[]⟩:=by kernel_rfl)(y:PySem.W.codeIn (hK P) (.ref (fcOf P f)) x=true:=by kernel_rfl):Fun (hK P) x x s f (fE P x s f):=zqT l y (by simp only[PySem.W.keepIn,l])
def mkC{P:Program}{w:PySem.World}{base h:Heap}{mg:Str->Option Value}(X:PySem.W.Frag.In (hK w.params) h)(G:h.Ns mainGlobals mg){k:Nat}{ps:List Str}{sp:Sp}(x:Str)(s:Stmt)(f:Addr)(ok:∀{fd:FuncData},Fun (hK w.params) x x s f fd->FnOk P w (hK w.params) mg base CX0 k f fd ps sp)
  (F:Fun (hK w.params) x x s f (fE w.params x s f):=by exact fF _ _ _) (m:PySem.W.nsIn (hK w.params) mainGlobals x=some (some (.ref f)):=by kernel_rfl)
  (b:∀(kV doc pm:Value)(an:Option Addr)(cdv ct:Value)(us:List Value),us.length=ps.length->bindArgs (PySem.W.fnOf x x (zc5 s) (zb6 s) (zat s) .none kV doc pm an cdv ct) ⟨us,[]⟩=pure (ps.zip us):=by(intro _ _ _ _ _ _;repeat (first|exact us0 rfl|refine usS λ_=>?_))):Cal P w (hK w.params) mg base x k ps sp:=
 Cal.of F (ok F) (YB7 X G m) (F.binds b)
def all_mk{l:PySem.W.OpenLaw}{w:PySem.World}{h:Heap}{mg:Str->Option Value}{fa:Addr}(X:PySem.W.Frag.In (hK w.params) h)(G:h.Ns mainGlobals mg)(hfa:mg "law"=some (.ref fa)) :
  ∃fd:FuncData,(∀(s:Shared)(v:Value),BindsTo s fd ⟨[v],[]⟩ [("_law_script",v)])/\∀base:Heap,PySem.W.Frag.In (hK w.params) base->base.Ns mainGlobals mg->FnOk l.prog w (hK w.params) mg base CX0 15 fa fd ["_law_script"] (zlY (hK w.params)):=by
 have e:=hfa.symm.trans (YB7 X G (v:=.ref 256) (by kernel_rfl));cases e;have Z:∀{x:Str},PySem.W.nsIn (hK w.params) mainGlobals x=some none->mg x=none:=PySem.W.mg_none_of X G;have T:Bt mg:=⟨Z (by kernel_rfl),Z (by kernel_rfl),Z (by kernel_rfl),Z (by kernel_rfl),Z (by kernel_rfl),Z (by kernel_rfl),Z (by kernel_rfl),Z (by kernel_rfl),Z (by kernel_rfl),Z (by kernel_rfl),Z (by kernel_rfl),Z (by kernel_rfl),Z (by kernel_rfl),Z (by kernel_rfl),Z (by kernel_rfl),Z (by kernel_rfl)⟩;have F:=fF (P:=w.params) "law" sLaw 256;refine⟨fE w.params "law" sLaw 256,λs v=>.of_eq rfl,λbase _ _=>?_⟩;have qf:=@mkC l.prog w base h mg X G;have F0:=fF (P:=w.params) "steps_from" zbM 19;have b0:=F0.binds (ps:=["size","runs","struck"]) λ_ _ _ _ _ _=>usS λ_=>usS λ_=>usS λ_=>us0 rfl;have m0:mg "steps_from"=_:=YB7 X G (v:=.ref 19) (by kernel_rfl);have h_steps:=Fen.Cal.of F0 (Fen.znY (P:=l.prog) (w:=w) (base:=base) F0 ⟨T.list,T.len,T.range⟩ T.enumerate) m0 b0;have F1:=fF (P:=w.params) "tree_from" zcs 26;have b1:=F1.binds (ps:=["start","steps"]) λ_ _ _ _ _ _=>usS λ_=>usS λ_=>us0 rfl;have m1:mg "tree_from"=_:=YB7 X G (v:=.ref 26) (by kernel_rfl);have h_tree:=Fen.Cal.of F1 (Fen.zpZ (P:=l.prog) (w:=w) (base:=base) F1 ) m1 b1;have F2:=fF (P:=w.params) "trees_of" zdn 33;have b2:=F2.binds (ps:=["size","runs","struck"]) λ_ _ _ _ _ _=>usS λ_=>usS λ_=>usS λ_=>us0 rfl;have m2:mg "trees_of"=_:=YB7 X G (v:=.ref 33) (by kernel_rfl);have h_trees:=Fen.Cal.of F2 (Fen.zn0 (P:=l.prog) (w:=w) (base:=base) F2 ⟨T.list,T.len,T.range⟩ h_steps h_tree) m2 b2;have og:=qf "hands_of" zd7 38 λF=>zju F T;have ot:=qf "left" znb 43 λF=>zpa F T;have oV:=qf "holds" zee 48 λF=>zhQ F T;have oP:=qf "groups" zc9 53 λF=>zfy F ⟨T.all,T.isinstance,T.tuple,T.bool,T.int,T.str,T.sorted,T.set⟩ h_trees;have F5:=fF (P:=w.params) "holds" zee 48;have b5:=F5.binds (ps:=["runs","heights"]) λ_ _ _ _ _ _=>usS λ_=>usS λ_=>us0 rfl;have m5:mg "holds"=_:=YB7 X G (v:=.ref 48) (by kernel_rfl);have h_holds:=Fen.Cal.of F5 (Fen.zhQ (P:=l.prog) (w:=w) (base:=base) F5 ⟨T.all,T.isinstance,T.tuple,T.bool,T.int,T.str,T.sorted,T.set⟩) m5 b5;have oz:=qf "flat" zjs 60 λF=>zjj F h_trees h_holds;have oi:=qf "lists_of" zdO 65 λF=>zjz F T;have oI:=qf "false_sets" zcw 72 λF=>zhi F T og oi oz ot;have oN:=qf "reading" zdV 79 λF=>zk0 F T og oi oz ot;have oA:=qf "line_hands" zcx 84 λF=>zhk F T og;have oj:=qf "some_line" zca 91 λF=>zde F h_steps h_tree;have F13:=fF (P:=w.params) "across" zev 98;have b13:=F13.binds (ps:=["first","second"]) λ_ _ _ _ _ _=>usS λ_=>usS λ_=>us0 rfl;have m13:mg "across"=_:=YB7 X G (v:=.ref 98) (by kernel_rfl);have h_across:=Fen.Cal.of F13 (Fen.zm5 (P:=l.prog) (w:=w) (base:=base) F13 ⟨T.list,T.len,T.range⟩ T.min) m13 b13;have oG:=qf "open_ring" zb5 105 λF=>ziF F T.enumerate h_trees h_across;have F15:=fF (P:=w.params) "paper_without" zbE 110;have b15:=F15.binds (ps:=["size","runs","many","struck","ends"]) λ_ _ _ _ _ _=>usS λ_=>usS λ_=>usS λ_=>usS λ_=>usS λ_=>us0 rfl;have m15:mg "paper_without"=_:=YB7 X G (v:=.ref 110) (by kernel_rfl);have r_paper_without:=zcU (P:=l.prog) (w:=w) (base:=base) F15 m15 b15 T oG oA oj;have om:=qf "some_paper" zcy 117 λF=>zgY F T (Cal.of F15 (r_paper_without 6) m15 b15);have oJ:=qf "none_paper" zcC 124 λF=>zhH F T om oN;have oE:=qf "lifted" zft 131 λF=>zl2 F T oP;have oo:=qf "readings_to_compare" za1 138 λF=>zcV F T oI ot oz oE;have ow:=qf "rise_between" zbS 145 λF=>zfY F T;have oT:=qf "told" zlj 152 λF=>zqe F T oo ow om oJ;have oR:=qf "parts" zh5 159 λF=>zny F T oj;have oO:=qf "parting" zd5 166 λF=>zkO F T og oi oR;have oS:=qf "foe" pFoe 171 λF=>zq7 F T oO oE ot;have cB:=qf "_law_box" sBox 178 λF=>Fen.zrF F ⟨T.list,T.len,T.range⟩;have oa:=qf "_law_take" zjL 185 λF=>zjm F T;have oC:=qf "_law_great" zin 192 λF=>zhD F T oa;have F28:=fF (P:=w.params) "_law_same" zmw 197;have b28:=F28.binds (ps:=["_law_found","_law_due"]) λ_ _ _ _ _ _=>usS λ_=>usS λ_=>us0 rfl;have m28:mg "_law_same"=_:=YB7 X G (v:=.ref 197) (by kernel_rfl);have r__law_same:=zeM (P:=l.prog) (w:=w) (base:=base) F28 m28 b28 T;have oh:=qf "_law_numbers" zdT 202 λF=>zfl F T;have ox:=qf "_law_other_rise" ziP 209 λF=>zdY F T oa oC;have oK:=qf "_law_world" zig 214 λF=>zg8 F T oa ox;have ou:=qf "_law_left" zmk 219 λF=>ziB F T;have oF:=qf "_law_settled" zd2 226 λF=>zfD F T;have oH:=qf "_law_labels" zga 231 λF=>zgo F T oF;have oq:=qf "_law_hands" ziK 236 λF=>zhv F T;have oM:=qf "_law_lists" ziR 241 λF=>zht F T;have oD:=qf "_law_explains" zc7 246 λF=>zeX F T oh ou oq;have oy:=qf "_law_book_right" zcv 251 λF=>zdM F T oh oD oT;exact zrf F T cB oK oa oM oS oq oH ou oy (Cal.of F28 (r__law_same 6) m28 b28) zpM
def walk{l:PySem.W.OpenLaw}{q:Program}{loose:List Str}{XP:(Str->Option Value)->Heap->Prop}{YP:PySem.World->Heap->Prop}{d:DefRec}{K:Params->qg}(hn:l.most=some 63)(hdf:d.params.defaults=[])
  (hY:∀(w:PySem.World)(h:Heap),YP w h->(K w.params).In h)
  (F:∀(w:PySem.World)(mg:Str->Option Value)(fa:Addr)(h:Heap),(K w.params).In h->h.Ns mainGlobals mg->mg d.name=some (.ref fa) ->
   ∃fd:FuncData,(∀(s:Shared)(u:Value),BindsTo s fd ⟨[u],[]⟩ [("_law_script",u)])/\∀base:Heap,(K w.params).In base->base.Ns mainGlobals mg->FnOk l.prog w (K w.params) mg base CX0 15 fa fd ["_law_script"] (zlY (K w.params))) :
  PySem.W.WalkO q loose XP YP l.row.toRowW d [] (λf vs=>PySem.call f vs):=
 L2.zp0 (n:=63) (k:=15) (x:="_law_script") (CX:=λ_=>CX0) (sp:=λw=>zlY (K w.params)) hn (by decide) hdf ⟨rfl,by decide,by decide⟩ hY F (λ_ _ a ns hl _ hS=>⟨a,ns,rfl,hS,hl,λ_=>rfl⟩) λ_ _ _ _ _ z=>z
end Fd
open PySem PySem.W PyProof.Rows
set_option maxRecDepth 100000 in
set_option maxHeartbeats 0 in
theorem PySem.Challenge.cw_fenlevel_k24_whole_a_foe_has_two_truths_holds : PySem.Challenge.rw_fenlevel_k24_whole_a_foe_has_two_truths.Holds := by
 w_on;o_law
 refine holds_open (q:=Hd.vw) (loose:=[]) (Xt:=Hd.xT) (XP:=XL Hd.vw []) (Yf:=Hd.hH.obs) (Ya:=Hd.hH.val) (YP:=Hd.hH.says) (N:=2710) Hd.left_o Hd.hH.of Hd.hH.keeps (λs e=>xl_of s (YC2.mp e).1) XL.keeps (by rfl) (by rfl) (by rfl) (λs e=>recFacts_of (YC2.mp e).2) (by rfl) (by first|assumption|decide +kernel) (by decide +kernel) ⟨rfl,rfl,rfl,rfl,rfl,by decide +kernel⟩ ?hw ?hc
 (case hw=>w_witness2)
 exact Fd.walk (l:=PySem.Challenge.rw_fenlevel_k24_whole_a_foe_has_two_truths) rfl rfl (λw h qe=>PySem.W.kIn_of qe) (λw mg fa h KX G hmg=>Fd.all_mk KX G hmg)
