import PyProof.Rows.All
import Wide.All
import OpenK.AllK
import Wide.FinOn
import Lean
import PyProof.EqAt
import PyProof.EqKinds
import PyProof.TupleCall
import PyProof.SetKind
import PyProof.Rows.SortShell
import PyProof.SetRoads
import PyProof.ListNew
import PyProof.CollectWalk
import PyProof.Rows.SetFrom
import PyProof.NeKinds
import PyProof.IsiHeapPairs
import PyProof.IsiNone
import PyProof.IsiPairs
import PyProof.ZipIter
import PyProof.Draws
import PyProof.WalksMore
import PyProof.EnumMake
import PyProof.EnumFor
import PyProof.ListRange
import PyProof.RangeFor
import PyProof.DictUpdate
import PyProof.DictItemsLoops
import PyProof.DictWalks
import PyProof.DictIter
import PyProof.P3Eq
import PyProof.P3In
import PyProof.NeData
import KE.KSortAsk
import KE.KSortTup
import PySem.Challenge.RW_fenlevel_k14_whole_sure_open_or_none_lef
abbrev qq:=PySem.W.Frag
set_option compiler.extract_closed false
noncomputable section
set_option linter.all false
def YAa:=@PySem.wpAny_bind
def YAb:=@List.map_cons
def YAc:=@List.length_map
def YAd:=@PySem.Heap.get?_push_of_some
def YAe:=@List.getElem?_eq_getElem
def YAf:=@PySem.wpAny_pure
def YAg:=@List.mem_singleton
def YAh:=@List.mem_cons_self
def YAi:=@List.getElem?_eq_some_iff
def YAj:=@List.mem_cons_of_mem
def YAk:=@List.mem_cons
def YAl:=@PySem.Heap.lt_size
def YAm:=@List.mem_append
def YAn:=@Nat.le_refl
def YAo:=@List.length_append
def YAp:=@List.mem_append_right
def YAq:=@List.getElem?_map
def YAr:=@PySem.Heap.get?_push_size
def YAs:=@Nat.lt_of_lt_of_le
def YAt:=@List.getD_eq_getElem?_getD
def YAu:=@List.size_toArray
def YAv:=@Nat.ne_of_lt
def YAw:=@decide_eq_true
def YAx:=@List.map_append
def YAy:=@List.mem_append_left
def YAz:=@List.mem_of_getElem?
def YAA:=@Bool.false_ne_true
def YAB:=@List.getElem?_set_ne
def YAC:=@decide_eq_false
def YAD:=@Int.toNat_natCast
def YAE:=@List.getElem?_set_self
def YAF:=@List.mem_map
def YAG:=@List.mem_map_of_mem
def YAH:=@Nat.zero_le
def YAI:=@Bool.and_eq_true
def YAJ:=@List.append_assoc
def YAK:=@List.length_cons
def YAL:=@PyProof.Rows.slot_tuple_getitem
def YAM:=@List.map_map
def YAN:=@List.append_nil
def YAO:=@List.not_mem_nil
def YAP:=@PySem.sizeLine_eq
def YAQ:=@Nat.le_trans
def YAR:=@PySem.wpAny_setField_rec
def YAS:=@PySem.wpAny_newObj_type
def YAT:=@List.replicate_succ
def YAU:=@PySem.wpAny_call_entry
def YAV:=@PySem.wpAny_holding
def YAW:=@List.drop_eq_getElem_cons
def YAX:=@Bool.false_eq_true
def YAY:=@List.filterMap_cons
def YAZ:=@Array.length_toList
def YA0:=@PySem.wpAny_callSpecial?_slot
def YA1:=@List.pairwise_iff_getElem
def YA2:=@PySem.wpAny_mono
def YA3:=@of_decide_eq_true
def YA4:=@List.nil_append
def YA5:=@Nat.lt_succ_of_lt
def YA6:=@List.mem_filter
def YA7:=@List.pairwise_cons
def YA8:=@PySem.wpAny_field
def YA9:=@Array.getElem?_eq_getElem
def YBa:=@Nat.lt_irrefl
def YBb:=@List.filter_cons
def YBc:=@List.mem_range
def YBd:=@Nat.ne_of_gt
def YBe:=@List.map_congr_left
def YBf:=@PySem.Heap.size_push
def YBg:=@PySem.wpAny_standAt
def YBh:=@List.nodup_cons
def YBi:=@PySem.wpAny_loadPart'
def YBj:=@List.length_singleton
def YBk:=@Int.toNat_of_nonneg
def YBl:=@PySem.wpAny_truthy_bool
def YBm:=@List.flatten_cons
def YBn:=@PySem.PassesOwn.never
def YBo:=@List.lookup_cons
def YBp:=@PySem.mem_of_lookup
def YBq:=@PySem.Heap.get?_update_self
def YBr:=@PySem.F.slot_list_append
def YBs:=@PySem.F.type_list_append
def YBt:=@PySem.wpAny_seqItems
def YBu:=@List.find?_cons
def YBv:=@PySem.codeAny_builtin
def YBw:=@PySem.F.called_set
def YBx:=@PySem.F.plainAttrs_list
def YBy:=@Int.emod_lt_of_pos
def YBz:=@List.length_take
def YBA:=@Array.getElem?_eq_some_iff
def YBB:=@PySem.Heap.get?_update_other
def YBC:=@List.length_range
def YBD:=@List.getElem?_append_left
def YBE:=@PySem.W.mg_of
def YBF:=@Array.getElem?_toList
def YBG:=@or_false
def YBH:=@Nat.le_add_right
def YBI:=@List.take_length
def YBJ:=@List.pairwise_append
def YBK:=@List.getElem?_of_mem
def YBL:=@List.getElem?_replicate
def YBM:=@List.map_nil
def YBN:=@PyProof.Rows.F.plain_set_update_loop
def YBO:=@PySem.wpAny_rule
def YBP:=@PyProof.Rows.callWith_type1
def YBQ:=@Int.emod_nonneg
def YBR:=@List.getElem?_append_right
def YBS:=@PySem.F.slot_tuple_iterator_next
def YBT:=@List.getElem_mem
def YBU:=@List.ext_getElem
def YBV:=@List.getElem_map
def YBW:=@List.drop_length
def YBX:=@if_false
def YBY:=@List.any_cons
def YBZ:=@List.take_append_drop
def YB0:=@List.length_filter_le
def YB1:=@List.filter_append
def YB2:=@List.contains_iff_mem
def YB3:=@List.getElem?_eq_none_iff
def YB4:=@PySem.Around.under_plainId
def YB5:=@PySem.wpAny_passesOwn
def YB6:=@PySem.wpAny_pyIter_list
def YB7:=@List.getElem?_take_of_lt
def YB8:=@PySem.F.args_tuple_add_2
def YB9:=@PySem.wpAny_comprehension_free
def YCa:=@bne_self_eq_false
def YCb:=@PyProof.Rows.boot_sorted
def YCc:=@PySem.Heap.get?_push_ne
def YCd:=@PySem.F.entry_tuple_add
def YCe:=@PySem.Heap.SameBut.update
def YCf:=@List.take_succ_cons
def YCg:=@List.getElem?_cons_succ
def YCh:=@List.all_eq_true
def YCi:=@PySem.wpAny_askSetting
def YCj:=@Nat.lt_succ_self
def YCk:=@List.mem_flatMap
def YCl:=@PySem.F.slot_tuple_add
def YCm:=@PyProof.Rows.boot_list
def YCn:=@PySem.wpAny_typeOf
def YCo:=@PySem.F.slot_zip_next
def YCp:=@List.getElem?_eq_none
def YCq:=@decide_eq_true_eq
def YCr:=@List.nodup_append
def YCs:=@List.flatMap_cons
def YCt:=@Array.getElem_toList
def YCu:=@PySem.Calls.call_function_entry
def YCv:=@List.exists_mem_of_ne_nil
def YCw:=@List.length_drop
def YCx:=@PySem.wpAny_isInstance
def YCy:=@PySem.Heap.size_update
def YCz:=@List.length_reverse
def YCA:=@Bool.eq_iff_iff
def YCB:=@PySem.SeqAt.EqAt.int_int
def YCC:=@PySem.plainId_quiet
def YCD:=@PySem.wpAny_newList
def YCE:=@PySem.wpAny_pyIter_tuple
def YCF:=@List.length_eq_zero_iff
def YCG:=@List.range_succ_eq_map
def YCH:=@List.take_of_length_le
def YCI:=@PySem.boot_len
def YCJ:=@List.nodup_nil
def YCK:=@List.getElem?_toArray
def YCL:=@PyProof.Rows.boot_min
def YCM:=@Nat.sub_eq_zero_of_le
def YCN:=@PySem.noFill_tuple_add
def YCO:=@if_true
def YCP:=@List.cons_append
def YCQ:=@List.map_flatMap
def YCR:=@PySem.wpAny_newFunctionEnv
def YCS:=@PySem.wpAny_updateSeq_pair
def YCT:=@Bool.and_eq_true_iff
def YCU:=@Nat.add_le_add_right
def YCV:=@List.mem_of_mem_take
def YCW:=@PySem.wpAny_attempt
def YCX:=@PySem.wpAny_onRaise
def YCY:=@List.sum_cons
def YCZ:=@beq_eq_false_iff_ne
def YC0:=@PySem.wpAny_execs_nil
def YC1:=@PyProof.Rows.entry_tuple_getitem
def YC2:=@List.length_nil
def YC3:=@PySem.wpAny_specialOf
def YC4:=@List.forIn_cons
def YC5:=@PySem.codeAny_of_tree
def YC6:=@PySem.wpAny_setEntries_of
def YC7:=@PySem.wpAny_updateSeq
def YC8:=@List.getElem?_range
def YC9:=@List.filter_eq_self
def YDa:=@List.flatMap_append
def YDb:=@Nat.le_of_lt
def YDc:=@PyProof.Rows.assignInOrder_cons
def YDd:=@PySem.codeAny_mono
def YDe:=@PySem.wpAny_Call_Name_kw
def YDf:=@PyProof.Rows.args_tuple_getitem
def YDg:=@PySem.tupleKind_room_in1
def YDh:=@PySem.Code.quiet_builtin
def YDi:=@List.map_replicate
def YDj:=@PyProof.Rows.slicePart_none
def YDk:=@PySem.wpAny_runValue
def YDl:=@PySem.wpAny_assign_Name
def YDm:=@PySem.wpAny_sequenceKey
def YDn:=@PySem.wpAny_pyIter_slot
def YDo:=@PySem.intKind_is
def YDp:=@PySem.fits_of_scanBound
def YDq:=@PySem.F.args_zip_next_1
def YDr:=@List.reverse_cons
def YDs:=@Option.some.injEq
def YDt:=@List.take_add_one
def YDu:=@PySem.seq_tuple_add
def YDv:=@List.all_cons
def YDw:=@List.getElem_inj
def YDx:=@Nat.min_le_right
def YDy:=@Nat.le_of_not_lt
def YDz:=@List.mem_reverse
def YDA:=@List.zipIdx_cons
def YDB:=@PySem.F.entry_zip_next
def YDC:=@Option.bind_some
def YDD:=@List.of_mem_zip
def YDE:=@PySem.concat_meets
def YDF:=@List.foldl_cons
def YDG:=@PySem.codeAny_loop
def YDH:=@List.range_succ
def YDI:=@PyProof.Rows.entry_list_sort
def YDJ:=@Int.ne_of_lt
def YDK:=@List.zipIdx_nil
def YDL:=@Int.lt_trans
def YDM:=@Option.map_some
def YDN:=@Nat.lt_or_ge
def YDO:=@List.filter_nil
def YDP:=@Int.ediv_nonneg
def YDQ:=@PyProof.Rows.size_push'
def YDR:=@PySem.entryFor_alias
def YDS:=@PySem.isSubtype_stop
def YDT:=@PySem.wpAny_newTuple
def YDU:=@PyProof.Rows.slot_list_sort
def YDV:=@PyProof.Rows.args_list_sort
def YDW:=@List.forIn_nil
def YDX:=@Bool.and_false
def YDY:=@PySem.wpAny_noted
def YDZ:=@PySem.wpAny_of_eq
set_option Elab.async false
set_option linter.all false
set_option maxRecDepth 100000
namespace L2
open PySem PySem.Spec PyProof.Rows
abbrev Key:=Sum Int Str
def keyIs:Key->Value->Bool
 |.inl k,v=>Value.isInt k v
 |.inr x,v=>Value.isStrOf x v
def keyH(w:World):Key->Int
 |.inl k=>hashInt k
 |.inr x=>hashStr w x
def za2:∀{k:Key}{v:Value},keyIs k v=true->(∃i t,k=Sum.inl i/\v=Value.int i t)\/(∃x t,k=Sum.inr x/\v=Value.str x t)
 |.inl i,v,h=>by
  obtain⟨t,e⟩:=Value.isInt_shape (k:=i) (v:=v) h;exact .inl ⟨i,t,rfl,e⟩
 |.inr x,v,h=>by
  obtain⟨t,e⟩:=Value.isStrOf_shape (x:=x) (v:=v) h;exact .inr ⟨x,t,rfl,e⟩
def zmr(i:Int)(t:Tok):keyIs (.inl i) (.int i t)=true:=by simp[keyIs,Value.isInt]
def zmK(x:Str)(t:Tok):keyIs (.inr x) (.str x t)=true:=by simp[keyIs,Value.isStrOf]
def zrS(a b:Int):decide ((Sum.inl a:Key)=Sum.inl b)=(a==b):=by
 by_cases e:a=b
 .subst e;simp
 .have h:¬ (Sum.inl a:Key)=Sum.inl b:=λq=>e (Sum.inl.inj q);rw[YAC h];exact(YCZ.mpr e).symm
def zrp(a b:Str):decide ((Sum.inr a:Key)=Sum.inr b)=decide (a=b):=by
 by_cases e:a=b
 .subst e;simp
 .have h:¬ (Sum.inr a:Key)=Sum.inr b:=λq=>e (Sum.inr.inj q);rw[YAC h,YAC e]
def zrE(a:Int)(b:Str):decide ((Sum.inl a:Key)=Sum.inr b)=false:=YAC (λq=>nomatch q)
def zr6(a:Str)(b:Int):decide ((Sum.inr a:Key)=Sum.inl b)=false:=YAC (λq=>nomatch q)
noncomputable def zaH(prog:Program)(w:World):PySem.KeyKind prog w Key where
 is:=keyIs
 hash:=keyH w
 inj:=λv a b ha hb=>by
  rcases za2 ha with⟨i,t,rfl,rfl⟩|⟨x,t,rfl,rfl⟩
  .rcases za2 hb with⟨j,u,rfl,e⟩|⟨y,u,rfl,e⟩
   .injection e with e1 _;rw[e1]
   .exact nomatch e
  .rcases za2 hb with⟨j,u,rfl,e⟩|⟨y,u,rfl,e⟩
   .exact nomatch e
   .injection e with e1 _;rw[e1]
 byValue:=λk v h=>by
  rcases za2 h with⟨i,t,rfl,rfl⟩|⟨x,t,rfl,rfl⟩<;>rfl
 pyHash:=λhv h=>by
  rcases za2 hv with⟨i,t,rfl,rfl⟩|⟨x,t,rfl,rfl⟩
  .exact wpAny_pyHash_int h
  .exact wpAny_pyHash_str h
 eqBool:=λhu hv h=>by
  rcases za2 hu with⟨i,t,rfl,rfl⟩|⟨x,t,rfl,rfl⟩
  .rcases za2 hv with⟨j,u,rfl,rfl⟩|⟨y,u,rfl,rfl⟩
   .rw[zrS]at h;exact wpAny_eqBool_int h
   .rw[zrE]at h;exact SeqAt.EqAt.int_str i t y u _ _ _ _ h
  .rcases za2 hv with⟨j,u,rfl,rfl⟩|⟨y,u,rfl,rfl⟩
   .rw[zr6]at h;exact SeqAt.EqAt.str_int x t j u _ _ _ _ h
   .rw[zrp]at h;exact wpAny_eqBool_str h
 «strs»:=λk x t v h=>by
  rcases za2 h with⟨i,u,rfl,e⟩|⟨y,u,rfl,e⟩
  .exact nomatch e
  .injection e with e1 _
   subst e1;cases v<;>rfl
def zjA(prog:Program)(w:World)(i:Int)(t:Tok):(zaH prog w).is (.inl i) (.int i t)=true:=zmr i t
def zjv(prog:Program)(w:World)(x:Str)(t:Tok):(zaH prog w).is (.inr x) (.str x t)=true:=zmK x t
inductive V where
 |non|bl (b:Bool)|int (i:Int)|str (x:Str)|byt (b:Array UInt8)|flt (b:UInt64)|ref (a:Addr)|ty (n:String)
 deriving DecidableEq
def RelV:V->Value->Prop
 |.non,u=>u=Value.none
 |.bl b,u=>u=Value.bool b
 |.int i,u=>∃t,u=Value.int i t
 |.str x,u=>∃t,u=Value.str x t
 |.byt b,u=>∃t,u=Value.bytes b t
 |.flt b,u=>∃t,u=Value.float b t
 |.ref a,u=>u=Value.ref a
 |.ty n,u=>u=Value.type n
abbrev Vals:List V->List Value->Prop:=Paired RelV
theorem Vals.length{xs:List V}{us:List Value}(r:Vals xs us):xs.length=us.length:=Paired.length r
theorem Vals.get:∀{xs:List V}{us:List Value}{i:Nat}{x:V},Vals xs us->xs[i]?=some x->∃u,us[i]?=some u/\RelV x u
 |_,_,_,_,.nil,e=>by simp at e
 |_,_,0,_,.cons r _,e=>by simp at e;subst e;exact⟨_,rfl,r⟩
 |_,_,i+1,x,.cons _ t,e=>by
  obtain⟨u,h1,h2⟩:=Vals.get (i:=i) (x:=x) t (by simpa using e);exact⟨u,by simpa using h1,h2⟩
theorem Vals.set(r:RelV x u):∀{xs:List V}{us:List Value}(i:Nat),Vals xs us->Vals (xs.set i x) (us.set i u)
 |_,_,_,.nil=>.nil
 |_,_,0,.cons _ t=>.cons r t
 |_,_,i+1,.cons q t=>.cons q (Vals.set r i t)
theorem Vals.append:∀{xs ys:List V}{us ws:List Value},Vals xs us->Vals ys ws->Vals (xs++ys) (us++ws)
 |_,_,_,_,.nil,s=>s
 |_,_,_,_,.cons r t,s=>.cons r (Vals.append t s)
theorem Vals.take:∀{xs:List V}{us:List Value}(n:Nat),Vals xs us->Vals (xs.take n) (us.take n)
 |_,_,0,_=>.nil
 |_,_,_+1,.nil=>.nil
 |_,_,n+1,.cons r t=>.cons r (Vals.take n t)
theorem Vals.drop:∀{xs:List V}{us:List Value}(n:Nat),Vals xs us->Vals (xs.drop n) (us.drop n)
 |_,_,0,r=>r
 |_,_,_+1,.nil=>.nil
 |_,_,n+1,.cons _ t=>Vals.drop n t
def RelO:Option V->Option Value->Prop
 |some v,some u=>RelV v u
 |none,none=>True
 |_,_=>False
def KV{κ:Type}:List (κ×V)->List (κ×Value)->Prop:=Paired λ(p:κ×V) (q:κ×Value)=>p.1=q.1/\RelV p.2 q.2
def kV:Key->V
 |.inl i=>.int i
 |.inr x=>.str x
inductive HO where
 /-- a list -/
 |lst (xs:List V)
 /-- a tuple (never changes) -/
 |tup (xs:List V)
 /-- a dict whose keys are ints and texts;one whose keys are tuples of ints and texts (the empty one is both) -/
 |dK (kvs:List (Key×V))|dT (kvs:List (List Key×V))
 /-- a set of ints: its members,its size -/
 |set (S:Int->Bool) (n:Nat)
 /-- an instance of the class at C,its dict at dx,its attributes -/
 |ins (C dx:Addr) (fs:List (Str×V))
 /-- the dict of the instance at x -/
 |own (x:Addr)
 /-- the dict of an exception -/
 |xd (fs:List (Str×V))
 /-- a bound method,f of x -/
 |met (f x:Addr)
 /-- a range object lo,lo + 1,.. below hi -/
 |rng (lo hi:Int)
 /-- a thing that is known to the object (the script;a dict while a loop walks it): read,never written while it is so -/
 |frz (o:Obj) (u:HO)
 /-- a code object's table -/
 |tbl (ps:Array Value)
 /-- any qe thing,by what is true of its one object (a def of one's own: SetO a S n:=HO.ext λh=>..) -/
 |ext (φ:Heap->Prop)
abbrev Hp:=Addr->Option HO
def upd(H:Hp)(a:Addr)(o:HO):Hp:=λb=>if b=a then some o else H b
def zac:upd H a o a=some o:=by unfold upd;rw[if_pos rfl]
def zaf(h:b≠a):upd H a o b=H b:=by unfold upd;rw[if_neg h]
def zqj:upd (upd H a o) a u=upd H a u:=by
 funext b;unfold upd;split<;>rfl
def zsb{H:Hp}{a b:Addr}{o u:HO}(h:H a=some o)(h':H b=some u)(d:o≠u):a≠b:=by
 intro e;subst e;rw[h]at h';exact d (Option.some.inj h')
def zae{H:Hp}{a b:Addr}{o:HO}(h:H a=some o)(h':H b=none):a≠b:=by
 intro e;subst e;rw[h]at h';cases h'
section
variable(P:Program)(w:World)
noncomputable def ObjOk(H:Hp)(h:Heap)(a:Addr):HO->Prop
 |.lst xs=>xs.length<=sizeLine/\∃(its:List Value)(n:Nat),Vals xs its/\h.get? a=some {cls:=.type "list",data:=.seq its.toArray n}
 |.tup xs=>xs.length<=sizeLine/\∃its:List Value,Vals xs its/\IsTup h a its.toArray
 |.dK kvs=>kvs.length<=sizeLine/\(a==sysModules)=false/\∃vs,KV kvs vs/\h.DictOf (zaH P w) a vs
 |.dT kvs=>kvs.length<=sizeLine/\(a==sysModules)=false/\∃xs:List (List Key×Addr×Value),
   Paired (λ(p:List Key×V) (q:List Key×Addr×Value)=>p.1=q.1/\H q.2.1=some (.tup (p.1.map kV))/\RelV p.2 q.2.2) kvs xs /\
   ∃o es ep,h.get? a=some o/\o.ExactDict/\o.data=.dict es ep/\es.toList=xs.map (entryOfKey (tupleKind (zaH P w)))/\(xs.map (·.1)).Nodup
 |.set S n=>h.SetOf (intKind P w) a S n
 |.ins C dx fs=>H dx=some (.own a)/\fs.length<=1000/\dx≠a/\h.get? a=some (PySem.W.instObj C dx) /\
   ∃mA,h.Ns1 dx mA/\(∀f,RelO (fs.lookup f) (mA f))/\PySem.Within mA (fs.map (·.1))
 |.own _=>∃o,h.get? a=some o
 |.xd fs=>∃mA,h.Ns1 a mA/\∀f,RelO (fs.lookup f) (mA f)
 |.rng lo hi=>∃t u v,h.get? a=some {cls:=.type "range",data:=.fields #[.int lo t,.int hi u,.int 1 v]}
 |.frz o u=>h.get? a=some o/\ObjOk H h a u
 |.tbl ps=>h.get? a=some {cls:=.none,data:=.fields ps}
 |.met f x=>h.get? a=some (PySem.W.methodObj (.ref f) (.ref x))
 |.ext φ=>φ h/\(∃o,h.get? a=some o)/\∀h1 h2:Heap,φ h1->(∀o,h1.get? a=some o->h2.get? a=some o)->φ h2
def HOk(H:Hp)(h:Heap):Prop:=∀a o,H a=some o->ObjOk P w H h a o
end
section
variable{P:Program}{w:World}{H H':Hp}{h h':Heap}{a:Addr}{o:HO}
theorem ObjOk.lt(x:ObjOk P w H h a o):a<h.objs.size:=by
 cases o with
 |lst xs=>obtain⟨_,_,_,_,e⟩:=x;exact YAl e
 |tup xs=>obtain⟨_,_,_,p⟩:=x;exact p.lt
 |dK kvs=>obtain⟨_,_,_,_,o,_,_,e,_⟩:=x;exact YAl e
 |dT kvs=>obtain⟨_,_,_,_,o,_,_,e,_⟩:=x;exact YAl e
 |set S n=>obtain⟨o,_,_,_,e,_⟩:=x;exact YAl e
 |ins C dx fs=>obtain⟨_,_,_,e,_⟩:=x;exact YAl e
 |own y=>obtain⟨_,e⟩:=x;exact YAl e
 |xd fs=>obtain⟨_,⟨_,_,_,e,_⟩,_⟩:=x;exact YAl e
 |rng lo hi=>obtain⟨_,_,_,e⟩:=x;exact YAl e
 |frz ob u=>obtain⟨e,_⟩:=x;exact YAl e
 |tbl ps=>exact YAl (show h.get? a=some _ from x)
 |met f y=>exact YAl (show h.get? a=some _ from x)
 |ext φ=>obtain⟨_,⟨_,e⟩,_⟩:=x;exact YAl e
theorem Paired.mapP{α β:Type}{F G:α->β->Prop}:∀{l₁:List α}{l₂:List β},Paired F l₁ l₂->(∀a b,F a b->G a b)->Paired G l₁ l₂
 |_,_,.nil,_=>.nil
 |_,_,.cons r t,f=>.cons (f _ _ r) (Paired.mapP t f)
def ObjOk.stay(x:ObjOk P w H h a o)(k:∀b u,(b=a\/H b=some (.own a))->h.get? b=some u->h'.get? b=some u)
  (ho:∀b,H b=some (.own a)->H' b=some (.own a)) (ht:∀b xs,H b=some (.tup xs)->H' b=some (.tup xs)):ObjOk P w H' h' a o:=by
 induction o with
 |lst xs=>obtain⟨z,its,n,r,e⟩:=x;exact⟨z,its,n,r,k _ _ (.inl rfl) e⟩
 |tup xs=>obtain⟨z,its,r,ob,e,c⟩:=x;exact⟨z,its,r,ob,k _ _ (.inl rfl) e,c⟩
 |dK kvs=>obtain⟨z,y,vs,r,ob,es,ep,e,c⟩:=x;exact⟨z,y,vs,r,ob,es,ep,k _ _ (.inl rfl) e,c⟩
 |dT kvs=>
  obtain⟨z,y,xs,r,ob,es,ep,e,c⟩:=x;exact⟨z,y,xs,Paired.mapP r λp q z=>⟨z.1,ht _ _ z.2.1,z.2.2⟩,ob,es,ep,k _ _ (.inl rfl) e,c⟩
 |set S n=>obtain⟨ob,es,ep,t,e,c⟩:=x;exact⟨ob,es,ep,t,k _ _ (.inl rfl) e,c⟩
 |ins C dx fs=>
  obtain⟨d,z,ne,e,mA,⟨od,es,ep,e2,c⟩,r⟩:=x;exact⟨ho _ d,z,ne,k _ _ (.inl rfl) e,mA,⟨od,es,ep,k _ _ (.inr d) e2,c⟩,r⟩
 |own y=>obtain⟨ob,e⟩:=x;exact⟨ob,k _ _ (.inl rfl) e⟩
 |xd fs=>obtain⟨mA,⟨od,es,ep,e,c⟩,r⟩:=x;exact⟨mA,⟨od,es,ep,k _ _ (.inl rfl) e,c⟩,r⟩
 |rng lo hi=>obtain⟨t,u,v,e⟩:=x;exact⟨t,u,v,k _ _ (.inl rfl) e⟩
 |frz ob u ih=>obtain⟨e,q⟩:=x;exact⟨k _ _ (.inl rfl) e,ih q⟩
 |tbl ps=>
  have e:h.get? a=some {cls:=.none,data:=.fields ps}:=x;show h'.get? a=some {cls:=.none,data:=.fields ps};exact k a _ (.inl rfl) e
 |met f y=>
  have e:h.get? a=some (PySem.W.methodObj (.ref f) (.ref y)):=x;show h'.get? a=some (PySem.W.methodObj (.ref f) (.ref y));exact k a _ (.inl rfl) e
 |ext φ=>obtain⟨p,⟨o,e⟩,st⟩:=x;exact⟨st _ _ p λo q=>k _ _ (.inl rfl) q,⟨o,k _ _ (.inl rfl) e⟩,st⟩
theorem HOk.lt(x:HOk P w H h)(e:H a=some o):a<h.objs.size:=(x a o e).lt
def HOk.fresh(x:HOk P w H h)(e:h.objs.size<=a):H a=none:=by
 cases q:H a with
 |none=>rfl
 |some u=>exact absurd (YAs (x.lt q) e) (YBa _)
def HOk.kept(x:HOk P w H h)(k:∀b u,h.get? b=some u->h'.get? b=some u):HOk P w H h':=λa o e=>
 (x a o e).stay (λb u _ q=>k b u q) (λ_ q=>q) λ_ _ q=>q
def HOk.laid(x:HOk P w H h)(k:∀b u,h.get? b=some u->h'.get? b=some u)(hp:h.objs.size<=a)(new:ObjOk P w (upd H a o) h' a o):HOk P w (upd H a o) h':=λb u e=>by
 have hn:=x.fresh hp;by_cases hb:b=a
 .subst hb;rw[zac]at e;cases e;exact new
 .rw[zaf hb]at e;exact(x b u e).stay (λc v _ q=>k c v q) (λc q=>by rw[zaf (zae q hn)];exact q) λc xs q=>by rw[zaf (zae q hn)];exact q
end
def Rd(H:Hp)(a:Addr)(u:HO):Prop:=H a=some u\/∃o,H a=some (.frz o u)
def Rd.ok{P:Program}{w:World}{H:Hp}{h:Heap}{a:Addr}{u:HO}(r:Rd H a u)(x:HOk P w H h):ObjOk P w H h a u:=by
 rcases r with r|⟨o,r⟩
 .exact x a u r
 .obtain⟨_,q⟩:=x a _ r;exact q
def Mut:Option HO->Prop
 |some (.lst _)=>True
 |some (.dK _)=>True
 |some (.dT _)=>True
 |some (.set _ _)=>True
 |some (.ins _ _ _)=>True
 |some (.ext _)=>True
 |_=>False
section
variable{P:Program}{w:World}{H:Hp}{h h':Heap}{x e:Addr}{o':HO}
def HOk.write(ok:HOk P w H h)(mu:Mut (H x))(he:e=x\/H e=some (.own x))(k:∀b u,b≠e->h.get? b=some u->h'.get? b=some u)(heo:∃u,h'.get? e=some u)
  (new:ObjOk P w (upd H x o') h' x o'):HOk P w (upd H x o') h':=λb u q=>by
 have nown:∀c y,H c=some (.own y)->c≠x:=λc y r z=>by subst z;rw[r]at mu;exact mu
 have ntup:∀c xs,H c=some (.tup xs)->c≠x:=λc xs r z=>by subst z;rw[r]at mu;exact mu
 by_cases hb:b=x
 .subst hb;rw[zac]at q;cases q;exact new
 .rw[zaf hb]at q;by_cases hbe:b=e
  .have q':H b=some (.own x):=by
    rcases he with z|z
    .exact absurd (hbe.trans z) hb
    .rw[hbe];exact z
   rw[q]at q';cases q';obtain⟨v,hv⟩:=heo;exact⟨v,by rw[hbe];exact hv⟩
  .refine(ok b u q).stay (λc v hc r=>k c v ?_ r) (λc r=>by rw[zaf (nown c b r)];exact r) λc xs r=>by rw[zaf (ntup c xs r)];exact r
   rcases hc with rfl|hc
   .exact hbe
   .rintro rfl;rcases he with z|z
    .exact nown c b hc z
    .rw[hc]at z;cases z;exact hb rfl
end
structure Un(fs ex:List Addr)(H H':Hp)(h h':Heap):Prop where
 keep:∀b o,h.get? b=some o->H b=none->b∉fs->b∉ex->h'.get? b=some o
 slot:∀b o,h.get? b=some o->H b=none->b∈fs->b∉ex->∃sl,h'.get? b=some {o with slots:=sl}
 free:∀b o,h.get? b=some o->H b=none->b∉ex->H' b=none
 there:∀b o,h.get? b=some o->b∉ex->∃o',h'.get? b=some o'
 tups:∀b xs,H b=some (.tup xs)->H' b=some (.tup xs)
 frzs:∀b o u,H b=some (.frz o u)->H' b=some (.frz o u)
 tbls:∀b ps,H b=some (.tbl ps)->∃more,H' b=some (.tbl (ps++more))
section
variable{fs fs' ex ex':List Addr}{H H1 H2:Hp}{h h1 h2 h':Heap}{a x e:Addr}{o:HO}
def Un.any(u:Un fs ex H H1 h h1){b:Addr}{ob:Obj}(q:h.get? b=some ob)(n:H b=none)(hx:b∉ex):∃sl,h1.get? b=some {ob with slots:=sl}:=by
 by_cases hb:b∈fs
 .exact u.slot b ob q n hb hx
 .exact⟨ob.slots,u.keep b ob q n hb hx⟩
def Un.kept(k:∀b u,h.get? b=some u->h'.get? b=some u):Un fs ex H H h h':=
 ⟨λb ob q _ _ _=>k b ob q,λb ob q _ _ _=>⟨ob.slots,k b ob q⟩,λ_ _ _ n _=>n,λb ob q _=>⟨ob,k b ob q⟩,λ_ _ q=>q,λ_ _ _ q=>q,λ_ ps q=>⟨#[],by rw[q];simp⟩⟩
def Un.refl:Un fs ex H H h h:=Un.kept λ_ _ q=>q
def Un.laid(k:∀b u,h.get? b=some u->h'.get? b=some u)(hp:h.objs.size<=a)(hn:H a=none):Un fs ex H (upd H a o) h h' where
 keep:=λb u q _ _ _=>k b u q
 slot:=λb u q _ _ _=>⟨u.slots,k b u q⟩
 free:=λb u q n _=>by rw[zaf (YAv (YAs (YAl q) hp))];exact n
 there:=λb u q _=>⟨u,k b u q⟩
 tups:=λb xs q=>by rw[zaf (zae q hn)];exact q
 frzs:=λb u xs q=>by rw[zaf (zae q hn)];exact q
 tbls:=λb ps q=>⟨#[],by rw[zaf (zae q hn),q];simp⟩
def Un.write(mu:Mut (H x))(he:e=x\/H e=some (.own x))(k:∀b u,b≠e->h.get? b=some u->h'.get? b=some u)(heo:∃u,h'.get? e=some u):Un fs ex H (upd H x o) h h':=by
 have hx:∀b,H b=none->b≠x:=λb n z=>by subst z;rw[n]at mu;exact mu
 have hb:∀b,H b=none->b≠e:=λb n z=>by
  subst z;rcases he with r|r
  .exact hx b n r
  .rw[n]at r;cases r
 have hm:∀b u,H b=some u->¬ Mut (some u)->b≠x:=λb u q nm z=>by subst z;rw[q]at mu;exact nm mu
 refine⟨λb u q n _ _=>k b u (hb b n) q,λb u q n _ _=>⟨u.slots,k b u (hb b n) q⟩,λb u q n _=>by rw[zaf (hx b n)];exact n,λb u q _=>?_,
  λb xs q=>by rw[zaf (hm b _ q λz=>z)];exact q,λb u xs q=>by rw[zaf (hm b _ q λz=>z)];exact q,λb ps q=>⟨#[],by rw[zaf (hm b _ q λz=>z),q];simp⟩⟩
 by_cases hbe:b=e
 .subst hbe;exact heo
 .exact⟨u,k b u hbe q⟩
end
def trk(h:Heap)(H:Hp):List Addr:=(List.range h.objs.size).filter λa=>(H a).isSome
def hidT(h:Heap)(H:Hp):Heap:=PySem.W.hideAll h (trk h H)
def zm4(h:Heap)(H:Hp):(hidT h H).objs.size=h.objs.size:=PySem.W.hideAll_size _ _
def znW{h:Heap}{H:Hp}{b:Addr}{o:Obj}(e:h.get? b=some o)(n:H b=none):(hidT h H).get? b=some o:=
 PySem.W.hideAll_get _ e λhm=>by
  have q:(H b).isSome=true:=(YA6.mp hm).2;rw[n]at q;simp at q
def zpR{h:Heap}{H:Hp}{b:Addr}{o:Obj}(e:(hidT h H).get? b=some o):h.get? b=some o/\H b=none:=by
 have e':h.get? b=some o:=PySem.W.of_hideAll (trk h H) e;refine⟨e',?_⟩;cases q:H b with
 |none=>rfl
 |some x=>
  have hm:b∈trk h H:=YA6.mpr ⟨YBc.mpr (YAl e'),by simp[q]⟩;have z:(hidT h H).get? b=none:=PySem.W.hideAll_none (trk h H) hm;rw[z]at e;cases e
structure Mod(K:qq)(mg:Str->Option Value)(base:Heap):Prop where
 kin:K.In base
 glob:base.Ns mainGlobals mg
 blt:∃mb,base.Ns builtinsNs mb/\∀x:Str,x≠"__name__" -> mb x=bootBuiltins x
 nolimit:base.NoLimit
structure Cx where
 prog:Program
 w:World
 K:qq
 mg:Str->Option Value
 base:Heap
 A:Around
 N:List Str
 s₀:Shared
 H₀:Hp
 env:Env
 outer:List Env
 stack:List Env
 ex:List Addr
 fn:Str->Bool
 calm:Bool
 pn:List (Addr×Obj)
 xe:Value->Shared->Prop
def frs(l:List Env):List Addr:=l.filterMap (·.frame)
abbrev Cx.fs(X:Cx):List Addr:=frs X.outer
def Vis(sc:Scope)(x:Str):Prop:=sc.names.lookup x=some .local\/sc.names.lookup x=some .cell\/sc.names.lookup x=some .free
def Loc(sc:Scope)(x:Str):Prop:=sc.names.lookup x=some .local\/sc.names.lookup x=some .cell
def Look(env:Env)(h:Heap)(m:Str->Option Value)(x:Str)(u:Value):Prop:=
 (env.kindOf x=some .local/\m x=some u)\/((env.kindOf x=some .cell\/env.kindOf x=some .free)/\∃c,env.cells.lookup x=some c/\h.IsCell c (some u))
structure Cx.Ok(X:Cx):Prop where
 mod:Mod X.K X.mg X.base
 kind:X.env.scope.kind=.function
 glob:X.env.globals=mainGlobals
 blt:X.env.builtins=builtinsNs
 above:X.s₀.heap.objs.size<=X.env.locals
 inj:∀x y c,X.env.cells.lookup x=some c->X.env.cells.lookup y=some c->x=y
 has:∀x,(X.env.kindOf x=some .cell\/X.env.kindOf x=some .free)->∃c,X.env.cells.lookup x=some c
 cab:∀x c,X.fn x=true->X.env.cells.lookup x=some c->X.s₀.heap.objs.size<=c
 hd:X.calm=true->X.A.handled=none
 frames:X.A.frames=some X.stack
 stk:X.stack=X.outer\/(X.stack=X.env::X.outer/\X.env.frame=some X.env.locals)
 exf:∀b∈X.ex,b≠X.env.locals/\∀x c,X.env.cells.lookup x=some c->c≠b
 bs:∀b o,X.base.get? b=some o->X.s₀.heap.get? b=some o/\X.H₀ b=none
 bsz:X.base.objs.size<=X.s₀.heap.objs.size
 noex:∀b o,X.base.get? b=some o->b∉X.ex
 exfs:∀b∈X.ex,b∉X.fs
 funs:X.s₀.heap.FunFrames X.base X.outer
 frf:∀b∈X.fs,X.H₀ b=none
structure Inv(X:Cx)(O:List (Addr×Obj))(Y:List (Option V))(H:Hp)(s:Shared):Prop where
 ok:X.Ok
 os:s.os=X.s₀.os
 bare:AllBare s.gens
 base:Un X.fs X.ex X.H₀ H X.s₀.heap s.heap
 loc:∃m,s.heap.Ns X.env.locals m/\∀(i:Nat)(x:Str)(v:V),X.N[i]?=some x->Y[i]?=some (some v)->Vis X.env.scope x->∃u,RelV v u/\Look X.env s.heap m x u
 cell:∀x c,X.env.cells.lookup x=some c->∃v,s.heap.IsCell c v
 free:H X.env.locals=none
 freeC:∀x c,X.env.cells.lookup x=some c->H c=none
 pin:∀p∈X.pn++O,s.heap.get? p.1=some p.2/\H p.1=none/\p.1≠X.env.locals/\p.1∉X.fs/\∀v,p.2.data≠.cell v
 hok:HOk X.prog X.w H s.heap
 len:Y.length=X.N.length
section
variable{X:Cx}{O:List (Addr×Obj)}{Y:List (Option V)}{H H':Hp}{s:Shared}{h':Heap}
def Cx.Ok.nofr(ok:X.Ok)(e:X.base.get? b=some o):b∉X.fs:=λhb=>by
 have:=(ok.funs.mem hb).1
 rw[e]at this;cases this
theorem Inv.bs(I:Inv X O Y H s):∀b o,X.base.get? b=some o->s.heap.get? b=some o/\H b=none:=λb o e=>
 ⟨I.base.keep b o (I.ok.bs b o e).1 (I.ok.bs b o e).2 (I.ok.nofr e) (I.ok.noex b o e),I.base.free b o (I.ok.bs b o e).1 (I.ok.bs b o e).2 (I.ok.noex b o e)⟩
def Inv.bk(I:Inv X O Y H s):∀b o,X.base.get? b=some o->s.heap.get? b=some o:=λb o e=>(I.bs b o e).1
theorem Inv.mod(I:Inv X O Y H s):Mod X.K X.mg X.base:=I.ok.mod
def Inv.kIn(I:Inv X O Y H s):X.K.In s.heap:=I.ok.mod.kin.keeps I.bk
theorem Inv.lt(I:Inv X O Y H s):X.env.locals<s.heap.objs.size:=let⟨_,hn,_⟩:=I.loc;hn.lt
def Inv.sz(I:Inv X O Y H s):X.s₀.heap.objs.size<=s.heap.objs.size:=YAQ I.ok.above (YDb I.lt)
def Inv.nofs(I:Inv X O Y H s)(h:s.heap.objs.size<=a):a∉X.fs:=λhb=>by
 obtain⟨_,o,ho,_⟩:=I.ok.funs.mem hb;exact absurd (YAs (YAl ho) (YAQ I.sz h)) (YBa _)
def Inv.cne(I:Inv X O Y H s):∀x c,X.env.cells.lookup x=some c->c≠X.env.locals:=λx c e z=>by
 obtain⟨v,o,ho,hd⟩:=I.cell x c e;obtain⟨m,⟨o',es,ep,ho',hd',_⟩,_⟩:=I.loc;rw[z,ho']at ho;cases ho;rw[hd']at hd;cases hd
theorem Inv.funs(I:Inv X O Y H s):s.heap.FunFrames X.base X.outer:=by
 have all:∀(l:List Env),(∀b∈frs l,b∈X.fs)->X.s₀.heap.FunFrames X.base l->s.heap.FunFrames X.base l:=by
  intro l
  induction l with
  |nil=>intro _ _;trivial
  |cons env r ih=>
   intro hs hl;obtain⟨hk,⟨L,o,hf,hn,ho,hd⟩,hr⟩:=hl;have hL:L∈X.fs:=hs L (by unfold frs;rw[YAY,hf];exact YAh);obtain⟨sl,e⟩:=I.base.slot L o ho (I.ok.frf L hL) hL λz=>I.ok.exfs L z hL;exact⟨hk,⟨L,_,hf,hn,e,hd⟩,ih (λb hb=>hs b (by unfold frs;rw[YAY,hf];exact YAj _ hb)) hr⟩
 exact all X.outer (λ_ hb=>hb) I.ok.funs
theorem Inv.stack(I:Inv X O Y H s):s.heap.FunFrames X.base X.stack:=by
 rcases I.ok.stk with e|⟨e,hf⟩
 .rw[e];exact I.funs
 .rw[e];obtain⟨m,hn,_⟩:=I.loc;refine .cons (by rw[I.ok.kind];decide) hf hn ?_ I.funs;exact Heap.get?_none_of_le (YAQ I.ok.bsz I.ok.above)
def Inv.stkSub(I:Inv X O Y H s):∀b∈frs X.stack,b∈X.env.locals::X.fs:=λb hb=>by
 rcases I.ok.stk with e|⟨e,hf⟩
 .rw[e]at hb;exact YAj _ hb
 .rw[e]at hb;unfold frs at hb;rw[YAY,hf]at hb;exact hb
def Inv.stkFree(I:Inv X O Y H s):∀b∈frs X.stack,H b=none:=λb hb=>by
 rcases YAk.mp (I.stkSub b hb)with e|hb
 .rw[e];exact I.free
 .obtain⟨_,o,ho,_⟩:=I.ok.funs.mem hb;exact I.base.free b o ho (I.ok.frf b hb) λz=>I.ok.exfs b z hb
def Inv.step{g':Array GenState}{t':Nat}{d':Drawn}{ch:List Addr}(I:Inv X O Y H s)
  (hch:∀b∈ch,(b∈X.ex\/X.s₀.heap.objs.size<=b)/\b≠X.env.locals/\(∀x c,X.env.cells.lookup x=some c->c≠b)/\∀p∈X.pn++O,p.1≠b)
  (keep:∀b o,b≠X.env.locals->b∉X.fs->b∉ch->s.heap.get? b=some o->H b=none->h'.get? b=some o)
  (slot:∀b o,b≠X.env.locals->b∈X.fs->b∉ch->s.heap.get? b=some o->H b=none->∃sl,h'.get? b=some {o with slots:=sl}) (free:∀b o,b∉ch->s.heap.get? b=some o->H b=none->H' b=none)
  (there:∀b o,b∉ch->s.heap.get? b=some o->∃o',h'.get? b=some o')
  (tups:∀b xs,H b=some (.tup xs)->H' b=some (.tup xs)) (frzs:∀b o u,H b=some (.frz o u)->H' b=some (.frz o u)) (tbls:∀b ps,H b=some (.tbl ps)->∃more,H' b=some (.tbl (ps++more)))
  (ns:∀m,s.heap.Ns X.env.locals m->h'.Ns X.env.locals m) (hok:HOk X.prog X.w H' h') (hg:AllBare g') :
  Inv X O Y H' {s with heap:=h',gens:=g',drawn:=d',toks:=t'}:=by
 have neL:∀b o,X.s₀.heap.get? b=some o->b≠X.env.locals:=λb o e=>YAv (YAs (YAl e) I.ok.above);have neC:∀b o,X.s₀.heap.get? b=some o->b∉X.ex->b∉ch:=λb o e hx hb=>by
  rcases(hch b hb).1 with z|z
  .exact hx z
  .exact absurd (YAs (YAl e) z) (YBa _)
 have cellK:∀x c,X.env.cells.lookup x=some c->∀v,s.heap.IsCell c v->h'.IsCell c v:=λx c e v ⟨o,ho,hd⟩=>by
  have nch:c∉ch:=λz=>(hch c z).2.2.1 x c e rfl;by_cases hc:c∈X.fs
  .obtain⟨sl,q⟩:=slot c o (I.cne x c e) hc nch ho (I.freeC x c e);exact⟨_,q,hd⟩
  .exact⟨o,keep c o (I.cne x c e) hc nch ho (I.freeC x c e),hd⟩
 refine⟨I.ok,I.os,hg,⟨λb o e n hb hx=>?_,λb o e n hb hx=>?_,λb o e n hx=>?_,λb o e hx=>?_,λb xs e=>tups b xs (I.base.tups b xs e),λb o xs e=>frzs b o xs (I.base.frzs b o xs e),λb ps e=>?_⟩,?_,λx c e=>?_,?_,λx c e=>?_,λp hp=>?_,hok,I.len⟩
 .exact keep b o (neL b o e) hb (neC b o e hx) (I.base.keep b o e n hb hx) (I.base.free b o e n hx)
 .obtain⟨sl,e1⟩:=I.base.slot b o e n hb hx;obtain⟨sl',e2⟩:=slot b _ (neL b o e) hb (neC b o e hx) e1 (I.base.free b o e n hx);exact⟨sl',e2⟩
 .obtain⟨o',e1⟩:=I.base.there b o e hx;exact free b o' (neC b o e hx) e1 (I.base.free b o e n hx)
 .obtain⟨o',e1⟩:=I.base.there b o e hx;exact there b o' (neC b o e hx) e1
 .obtain⟨m1,e1⟩:=I.base.tbls b ps e;obtain⟨m2,e2⟩:=tbls b _ e1;exact⟨m1++m2,by rw[e2,Array.append_assoc]⟩
 .obtain⟨m,hn,hl⟩:=I.loc;refine⟨m,ns m hn,λi x v e1 e2 e3=>?_⟩;obtain⟨u,r,l⟩:=hl i x v e1 e2 e3;refine⟨u,r,?_⟩;rcases l with l|⟨k,c,e,z⟩
  .exact .inl l
  .exact .inr ⟨k,c,e,cellK x c e _ z⟩
 .obtain⟨v,z⟩:=I.cell x c e;exact⟨v,cellK x c e v z⟩
 .obtain⟨m,⟨o,_,_,ho,_⟩,_⟩:=I.loc;exact free _ o (λz=>(hch _ z).2.1 rfl) ho I.free
 .obtain⟨v,o,ho,hd⟩:=I.cell x c e;exact free c o (λz=>(hch c z).2.2.1 x c e rfl) ho (I.freeC x c e)
 .obtain⟨e,n,ne,nf,d⟩:=I.pin p hp;have nch:p.1∉ch:=λz=>(hch p.1 z).2.2.2 p hp rfl;exact⟨keep p.1 p.2 ne nf nch e n,free p.1 p.2 nch e n,ne,nf,d⟩
def Inv.un{t':Nat}(I:Inv X O Y H s)(u:Un X.fs [] H H' s.heap h')(hok:HOk X.prog X.w H' h'):Inv X O Y H' {s with heap:=h',toks:=t'}:=by
 obtain⟨m,⟨o,es,ep,ho,r⟩,_⟩:=id I.loc;obtain⟨sl,hL⟩:=u.any ho I.free (by simp);exact I.step (g':=s.gens) (d':=s.drawn) (ch:=[]) (λ_ z=>nomatch z) (λb o _ hb _ e n=>u.keep b o e n hb (by simp)) (λb o _ hb _ e n=>u.slot b o e n hb (by simp)) (λb o _ e n=>u.free b o e n (by simp)) (λb o _ e=>u.there b o e (by simp)) u.tups u.frzs u.tbls (λm' hm=>by
  obtain⟨o',es',ep',ho',r'⟩:=hm;rw[ho]at ho';cases ho';exact⟨_,es',ep',hL,r'⟩) hok I.bare
def Inv.call{g':Array GenState}{t':Nat}{d':Drawn}{ch:List Addr}(I:Inv X O Y H s)(u:Un (frs X.stack) ch H H' s.heap h')(hok:HOk X.prog X.w H' h')(hg:AllBare g')
  (hch:∀b∈ch,(b∈X.ex\/X.s₀.heap.objs.size<=b)/\b≠X.env.locals/\(∀x c,X.env.cells.lookup x=some c->c≠b)/\∀p∈X.pn++O,p.1≠b) :
  Inv X O Y H' {s with heap:=h',gens:=g',drawn:=d',toks:=t'}:=by
 obtain⟨m,⟨o,es,ep,ho,r⟩,_⟩:=id I.loc;obtain⟨sl,hL⟩:=u.any ho I.free λz=>(hch _ z).2.1 rfl;exact I.step (ch:=ch) hch (λb o hL hb hc e n=>u.keep b o e n (λz=>(YAk.mp (I.stkSub b z)).elim hL hb) hc) (λb o _ _ hc e n=>u.any e n hc) (λb o hc e n=>u.free b o e n hc) (λb o hc e=>u.there b o e hc) u.tups u.frzs u.tbls (λm' hm=>by
  obtain⟨o',es',ep',ho',r'⟩:=hm;rw[ho]at ho';cases ho';exact⟨_,es',ep',hL,r'⟩) hok hg
def Inv.turned{t':Nat}{it:Addr}(I:Inv X O Y H s)(k:∀b o,b≠it->s.heap.get? b=some o->h'.get? b=some o)(hn:H it=none)(hL:it≠X.env.locals)
  (h1:it∈X.ex\/X.s₀.heap.objs.size<=it) (h2:∀x c,X.env.cells.lookup x=some c->c≠it) (h3:∀p∈X.pn++O,p.1≠it):Inv X O Y H {s with heap:=h',toks:=t'}:=by
 have nit:∀b u,H b=some u->b≠it:=λb u e z=>by rw[z,hn]at e;cases e
 refine I.step (g':=s.gens) (d':=s.drawn) (ch:=[it]) (λb hb=>?_) (λb o _ _ hc e _=>k b o (λz=>hc (by simp[z])) e) (λb o _ _ hc e _=>⟨o.slots,k b o (λz=>hc (by simp[z])) e⟩) (λ_ _ _ _ n=>n)
  (λb o hc e=>⟨o,k b o (λz=>hc (by simp[z])) e⟩) (λ_ _ e=>e) (λ_ _ _ e=>e) (λb ps e=>⟨#[],by rw[e];simp⟩) (λm hm=>?_) (λb u e=>?_) I.bare
 .have e:b=it:=by simpa using hb
  subst e;exact⟨h1,hL,h2,h3⟩
 .obtain⟨o,es,ep,ho,r⟩:=hm;exact⟨o,es,ep,k _ o (Ne.symm hL) ho,r⟩
 .refine(I.hok b u e).stay (λc v hc q=>k c v ?_ q) (λ_ q=>q) λ_ _ q=>q;rcases hc with z|z
  .rw[z];exact nit b u e
  .exact nit c _ z
def Inv.tok(I:Inv X O Y H s)(t:Nat):Inv X O Y H {s with toks:=t}:=I.un (h':=s.heap) (t':=t) Un.refl I.hok
theorem Inv.kept{t':Nat}(I:Inv X O Y H s)(k:∀b u,s.heap.get? b=some u->h'.get? b=some u):Inv X O Y H {s with heap:=h',toks:=t'}:=I.un (Un.kept k) (I.hok.kept k)
theorem Inv.laid{a:Addr}{o:HO}{t':Nat}(I:Inv X O Y H s)(k:∀b u,s.heap.get? b=some u->h'.get? b=some u)(hp:s.heap.objs.size<=a)(new:ObjOk X.prog X.w (upd H a o) h' a o) :
  Inv X O Y (upd H a o) {s with heap:=h',toks:=t'}:=I.un (Un.laid k hp (I.hok.fresh hp)) (I.hok.laid k hp new)
theorem Inv.write{x e:Addr}{o:HO}{t':Nat}(I:Inv X O Y H s)(mu:Mut (H x))(he:e=x\/H e=some (.own x))(k:∀b u,b≠e->s.heap.get? b=some u->h'.get? b=some u)(heo:∃u,h'.get? e=some u)
  (new:ObjOk X.prog X.w (upd H x o) h' x o):Inv X O Y (upd H x o) {s with heap:=h',toks:=t'}:=I.un (Un.write mu he k heo) (I.hok.write mu he k heo new)
def Inv.weak(I:Inv X O Y H s)(hl:Y'.length=Y.length)(w:∀(i:Nat) v,Y'[i]?=some (some v)->Y[i]?=some (some v)):Inv X O Y' H s:=
 ⟨I.ok,I.os,I.bare,I.base,let⟨m,hn,hl'⟩:=I.loc;⟨m,hn,λi x v e1 e2 e3=>hl' i x v e1 (w i v e2) e3⟩,I.cell,I.free,I.freeC,I.pin,I.hok,hl.trans I.len⟩
def Inv.pins_of(I:Inv X O Y H s)(h:∀p∈pins',s.heap.get? p.1=some p.2/\H p.1=none/\p.1≠X.env.locals/\p.1∉X.fs/\∀v,p.2.data≠.cell v):Inv X pins' Y H s:=
 ⟨I.ok,I.os,I.bare,I.base,I.loc,I.cell,I.free,I.freeC,λp hp=>(YAm.mp hp).elim (λz=>I.pin p (YAy _ z)) (h p),I.hok,I.len⟩
def zkh{N:List Str}(hN:N.Nodup){i j:Nat}{x:Str}(a:N[i]?=some x)(b:N[j]?=some x):i=j:=by
 obtain⟨h1,e1⟩:=YAi.mp a;obtain⟨h2,e2⟩:=YAi.mp b;exact(YDw hN).mp (e1.trans e2.symm)
def zfW{M:Model}{A:Around}{E:Value->Shared->Prop}{i:Nat}{x:Str}{v:V}{u:Value}{Q:Unit->Shared->Prop}(I:Inv X O Y H s)(hN:X.N.Nodup)(hi:X.N[i]?=some x)(hx:Loc X.env.scope x)(r:RelV v u)
  (h:∀s',Inv X O (Y.set i (some v)) H s'->(∃a,Heap.SameBut a s.heap s'.heap/\(a=X.env.locals\/X.env.cells.lookup x=some a))->Q () s') (hf:X.fn x=true\/X.env.scope.names.lookup x=some .local:=by first|exact .inl rfl|exact .inr rfl|assumption):wpAny M A (storeName X.env x u) Q E s:=by
 obtain⟨m,hn,hl⟩:=id I.loc;have hcls:(X.env.scope.kind==.class || (X.env.scope.kind==.module&&X.env.locals != X.env.globals))=false:=by rw[I.ok.kind];rfl
 have hiσ:i<Y.length:=by rw[I.len];exact(YAi.mp hi).1
 have cne:=I.cne;have tracked:∀{a:Addr}{h':Heap},(∃o,s.heap.get? a=some o/\H a=none)->Heap.SameBut a s.heap h'->HOk X.prog X.w H h':=λ{a h'} ha hs b ob e=>by
  obtain⟨_,_,hfree⟩:=ha;refine(I.hok b ob e).stay (λc w' hc q=>(hs.2 c ?_).trans q) (λ_ q=>q) λ_ _ q=>q;rintro rfl;rcases hc with rfl|hc
  .rw[hfree]at e;cases e
  .rw[hfree]at hc;cases hc
 rcases hx with hk|hk
 .refine wpAny_storeName_local hk hn (λh' hn' hs=>?_) hcls;obtain⟨oL,_,_,hoL,_⟩:=id hn;refine h _ ⟨I.ok,I.os,I.bare,⟨λb o e n hb hx=>?_,λb o e n hb hx=>?_,I.base.free,λb o e hx=>?_,I.base.tups,I.base.frzs,I.base.tbls⟩,⟨_,hn',λj y v' e1 e2 e3=>?_⟩,λy c e=>?_,I.free,I.freeC,λp hp=>?_,tracked ⟨oL,hoL,I.free⟩ hs,by simpa using I.len⟩ ⟨_,hs,.inl rfl⟩
  .exact(hs.2 b (YAv (YAs (YAl e) I.ok.above))).trans (I.base.keep b o e n hb hx)
  .obtain⟨sl,e1⟩:=I.base.slot b o e n hb hx;exact⟨sl,(hs.2 b (YAv (YAs (YAl e) I.ok.above))).trans e1⟩
  .obtain⟨o',e1⟩:=I.base.there b o e hx;exact⟨o',(hs.2 b (YAv (YAs (YAl e) I.ok.above))).trans e1⟩
  .by_cases hj:j=i
   .subst hj;rw[hi]at e1;cases e1;rw[YAE hiσ]at e2;cases e2;exact⟨u,r,.inl ⟨hk,by simp⟩⟩
   .rw[YAB (Ne.symm hj)]at e2;obtain⟨u',r',q⟩:=hl j y v' e1 e2 e3;refine⟨u',r',?_⟩;rcases q with⟨k,e⟩|⟨k,c,e,z⟩
    .refine .inl ⟨k,?_⟩
     have:y≠x:=λe=>hj (zkh hN e1 (e▸hi))
     simp[this,e]
    .exact .inr ⟨k,c,e,z.sameBut hs (cne y c e)⟩
  .obtain⟨w',z⟩:=I.cell y c e;exact⟨w',z.sameBut hs (cne y c e)⟩
  .obtain⟨e,n,ne,nf,d⟩:=I.pin p hp;exact⟨(hs.2 p.1 ne).trans e,n,ne,nf,d⟩
 .have hfn:X.fn x=true:=by
   rcases hf with z|z
   .exact z
   .rw[z]at hk;cases hk
  obtain⟨c,hc⟩:=I.ok.has x (.inl hk);obtain⟨w',z⟩:=I.cell x c hc;refine wpAny_storeName_cell I.ok.kind hk hc z (λh' hc' hs=>?_);obtain⟨oc,hoc,hocd⟩:=id z;refine h {s with heap:=h'} ⟨I.ok,I.os,I.bare,⟨λb o e n hb hx=>?_,λb o e n hb hx=>?_,I.base.free,λb o e hx=>?_,I.base.tups,I.base.frzs,I.base.tbls⟩,⟨m,hn.sameBut hs (Ne.symm (cne x c hc)),λj y v' e1 e2 e3=>?_⟩,λy c' e=>?_,I.free,I.freeC,λp hp=>?_,tracked ⟨oc,hoc,I.freeC x c hc⟩ hs,by simpa using I.len⟩ ⟨c,hs,.inr hc⟩
  .exact(hs.2 b (YAv (YAs (YAl e) (I.ok.cab x c hfn hc)))).trans (I.base.keep b o e n hb hx)
  .obtain⟨sl,e1⟩:=I.base.slot b o e n hb hx;exact⟨sl,(hs.2 b (YAv (YAs (YAl e) (I.ok.cab x c hfn hc)))).trans e1⟩
  .obtain⟨o',e1⟩:=I.base.there b o e hx;exact⟨o',(hs.2 b (YAv (YAs (YAl e) (I.ok.cab x c hfn hc)))).trans e1⟩
  .by_cases hj:j=i
   .subst hj;rw[hi]at e1;cases e1;rw[YAE hiσ]at e2;cases e2;exact⟨u,r,.inr ⟨.inl hk,c,hc,hc'⟩⟩
   .rw[YAB (Ne.symm hj)]at e2;obtain⟨u',r',q⟩:=hl j y v' e1 e2 e3;refine⟨u',r',?_⟩;rcases q with q|⟨k,c',e,z'⟩
    .exact .inl q
    .refine .inr ⟨k,c',e,z'.sameBut hs ?_⟩;rintro rfl;exact hj (zkh hN e1 (I.ok.inj _ _ _ e hc▸hi))
  .by_cases hcc:c'=c
   .subst hcc;exact⟨_,hc'⟩
   .obtain⟨w2,z2⟩:=I.cell y c' e;exact⟨w2,z2.sameBut hs hcc⟩
  .obtain⟨e,n,ne,nf,d⟩:=I.pin p hp;refine⟨(hs.2 p.1 ?_).trans e,n,ne,nf,d⟩;intro q;rw[q,hoc]at e;have q':oc=p.2:=Option.some.inj e;exact d w' (by rw[<-q'];exact hocd)
def zej{M:Model}{A:Around}{E:Value->Shared->Prop}{i:Nat}{x:Str}{v:V}{u:Value}{Q:Unit->Shared->Prop}(I:Inv X O Y H s)(hN:X.N.Nodup)(hi:X.N[i]?=some x)(hx:Loc X.env.scope x)(r:RelV v u)
  (h:∀s',Inv X O (Y.set i (some v)) H s'->Q () s') (hf:X.fn x=true\/X.env.scope.names.lookup x=some .local:=by first|exact .inl rfl|exact .inr rfl|assumption):wpAny M A (storeName X.env x u) Q E s:=
 zfW I hN hi hx r (λs' I' _=>h s' I') hf
def Inv.call'(I:Inv X O Y H s)(ho:s'.os=s.os)(u:Un (frs X.stack) ch H H' s.heap s'.heap)(hok:HOk X.prog X.w H' s'.heap)(hg:AllBare s'.gens)
  (hch:∀b∈ch,(b∈X.ex\/X.s₀.heap.objs.size<=b)/\b≠X.env.locals/\(∀x c,X.env.cells.lookup x=some c->c≠b)/\∀p∈X.pn++O,p.1≠b):Inv X O Y H' s':=by
 obtain⟨h',g',d',t',o'⟩:=s';have e:o'=s.os:=ho;subst e;exact I.call (g':=g') (t':=t') (d':=d') u hok hg hch
end
abbrev XK:=Value->Option Addr->Hp->Prop
abbrev St:=List (Option V)
abbrev VK:=V->Hp->Prop
abbrev TE:=St->Hp->VK->Prop
abbrev TT:=St->Hp->(Bool->Hp->Prop)->Prop
abbrev TA:=St->Hp->(List V->Hp->Prop)->Prop
structure Ends where
 nx:St->Hp->Prop
 rt:VK
 bk:St->Hp->Prop:=λ_ _=>False
 ct:St->Hp->Prop:=λ_ _=>False
abbrev TS:=Ends->St->Hp->Prop
def EP(X:Cx)(O:List (Addr×Obj))(Y:St)(Q:VK)(u:Value)(s':Shared):Prop:=∃v H',Inv X O Y H' s'/\RelV v u/\Q v H'
def TP(X:Cx)(O:List (Addr×Obj))(Y:St)(Q:Bool->Hp->Prop)(b:Bool)(s':Shared):Prop:=∃H',Inv X O Y H' s'/\Q b H'
def AP(X:Cx)(O:List (Addr×Obj))(Y:St)(Q:List V->Hp->Prop)(us:List Value)(s':Shared):Prop:=∃vs H',Inv X O Y H' s'/\Vals vs us/\Q vs H'
noncomputable def SP(X:Cx)(O:List (Addr×Obj))(D:Ends)(f:Flow)(s':Shared):Prop:=
 match f with
 |.next=>∃ Y' H',Inv X O Y' H' s'/\D.nx Y' H'
 |.brk=>∃ Y' H',Inv X O Y' H' s'/\D.bk Y' H'
 |.cont=>∃ Y' H',Inv X O Y' H' s'/\D.ct Y' H'
 |.ret u=>∃v Y' H',Inv X O Y' H' s'/\RelV v u/\D.rt v H'
def PE(X:Cx)(e:Expr)(t:TE):Prop:=
 ∀(O:List (Addr×Obj))(s:Shared)(Y:St)(H:Hp)(Q:VK),Inv X O Y H s->t Y H Q->wpAny (model X.prog X.w) X.A (eval e X.env) (EP X O Y Q) X.xe s
def PT(X:Cx)(e:Expr)(t:TT):Prop:=
 ∀(O:List (Addr×Obj))(s:Shared)(Y:St)(H:Hp)(Q:Bool->Hp->Prop),Inv X O Y H s->t Y H Q->wpAny (model X.prog X.w) X.A (isTrue e X.env (eval e X.env)) (TP X O Y Q) X.xe s
def PW(X:Cx)(e:Expr)(t:TT):Prop:=
 ∀(whole:Sem Value)(O:List (Addr×Obj))(s:Shared)(Y:St)(H:Hp)(Q:Bool->Hp->Prop),Inv X O Y H s->t Y H Q->wpAny (model X.prog X.w) X.A (isTrue e X.env whole) (TP X O Y Q) X.xe s
def PW.pt{X:Cx}{e:Expr}{t:TT}(h:PW X e t):PT X e t:=h _
def PA(X:Cx)(es:List Expr)(t:TA):Prop:=
 ∀(pos:Pos)(O:List (Addr×Obj))(s:Shared)(Y:St)(H:Hp)(Q:List V->Hp->Prop),Inv X O Y H s->t Y H Q->wpAny (model X.prog X.w) X.A (spliced (backTo pos (starEach es X.env))) (AP X O Y Q) X.xe s
def PS(X:Cx)(st:Stmt)(t:TS):Prop:=
 ∀(O:List (Addr×Obj))(s:Shared)(Y:St)(H:Hp)(D:Ends),Inv X O Y H s->t D Y H->wpAny (model X.prog X.w) X.A (exec st X.env) (SP X O D) X.xe s
def PSs(X:Cx)(st:List Stmt)(t:TS):Prop:=
 ∀(O:List (Addr×Obj))(s:Shared)(Y:St)(H:Hp)(D:Ends),Inv X O Y H s->t D Y H->wpAny (model X.prog X.w) X.A (execs st X.env) (SP X O D) X.xe s
def thn{α:Type}{t:Sem α}{Q Q':α->Shared->Prop}{M:Model}{A:Around}{E:Value->Shared->Prop}{s:Shared}(h:wpAny M A t Q E s)(hQ:∀a s,Q a s->Q' a s):wpAny M A t Q' E s:=YA2 h hQ λ_ _ x=>x
section
variable{X:Cx}
def tVar(i:Nat):TE:=λY H Q=>∃v,Y[i]?=some (some v)/\Q v H
def tC(v:V):TE:=λ_ H Q=>Q v H
def zdK(hN:X.N[i]?=some x)(hv:Vis X.env.scope x)(hd:(x==("__debug__":Str))=false:=by decide)(hcd:(x==("__classdict__":Str))=false:=by decide):PE X (.Name x pos) (tVar i):=by
 intro O s Y H Q I h;obtain⟨v,e,h⟩:=h;obtain⟨m,hn,hl⟩:=I.loc;obtain⟨u,r,l⟩:=hl i x v hN e hv;have fin:EP X O Y Q u s:=⟨v,H,I,r,h⟩;rcases l with⟨hk,hm⟩|⟨hk,c,hc,hcell⟩
 .exact wpAny_Name (wpAny_loadName_local I.ok.kind hk hn hm fin) hd
 .rcases hk with hk|hk
  .exact wpAny_Name (wpAny_loadName_cell I.ok.kind hk hc hcell fin) hd
  .exact wpAny_Name (wpAny_loadName_free I.ok.kind hk hc hcell fin hcd) hd
def zaO{i j pos}:PE X (.Constant (.int i) j pos) (tC (.int i)):=λ_ _ _ H _ I h=>wpAny_Constant_int ⟨.int i,H,I.tok _,⟨_,rfl⟩,h⟩
def zrk{b j pos}:PE X (.Constant (.bool b) j pos) (tC (.bl b)):=λ_ _ _ H _ I h=>Constant_bool ⟨.bl b,H,I,rfl,h⟩
def zj7{j pos}:PE X (.Constant .none j pos) (tC .non):=λ_ _ _ H _ I h=>Constant_none ⟨.non,H,I,rfl,h⟩
def zpt{x j pos}:PE X (.Constant (.str x) j pos) (tC (.str x)):=λ_ _ _ H _ I h=>Calls.Constant_str ⟨.str x,H,I.tok _,⟨_,rfl⟩,h⟩
def Gl(X:Cx)(x:Str):Prop:=X.env.kindOf x=some .globalImplicit
def zqJ{E:Value->Shared->Prop}{O:List (Addr×Obj)}{s:Shared}{Y:St}{H:Hp}{x:Str}{u:Value}{pos:Pos}{Q:Value->Shared->Prop}(I:Inv X O Y H s)(hg:Gl X x)(hm:X.mg x=some u)(h:Q u s)
  (hd:(x==("__debug__":Str))=false:=by decide):wpAny (model X.prog X.w) X.A (eval (.Name x pos) X.env) Q E s:=
 Calls.Name_function_global I.ok.kind hg (Calls.loadGlobal_global (by rw[I.ok.glob];exact I.mod.glob.keeps I.bk) hm h) hd
def zgA{E:Value->Shared->Prop}{O:List (Addr×Obj)}{s:Shared}{Y:St}{H:Hp}{x:Str}{u:Value}{pos:Pos}{Q:Value->Shared->Prop}(I:Inv X O Y H s)(hg:Gl X x)(hm:X.mg x=none)(hv:bootBuiltins x=some u)(h:Q u s)
  (hn:x≠"__name__":=by decide) (hd:(x==("__debug__":Str))=false:=by decide):wpAny (model X.prog X.w) X.A (eval (.Name x pos) X.env) Q E s:=by
 obtain⟨mb,h1,h2⟩:=I.mod.blt;exact Calls.Name_function_global I.ok.kind hg (Calls.loadGlobal_builtin (by rw[I.ok.glob];exact I.mod.glob.keeps I.bk) hm (by rw[I.ok.blt];exact h1.keeps I.bk) ((h2 x hn).trans hv) h) hd
def zqy(hg:Gl X x)(hm:X.mg x=none)(hv:bootBuiltins x=some u)(r:RelV v u)(hn:x≠"__name__":=by decide)(hd:(x==("__debug__":Str))=false:=by decide):PE X (.Name x pos) (tC v):=
 λ_ _ _ H _ I h=>zgA I hg hm hv ⟨v,H,I,r,h⟩ hn hd
variable{a b:Expr}{ta tb:TE}{pos:Pos}
noncomputable def PC(X:Cx)(op:CmpOp)(a b:Expr)(t:TE):Prop:=
 ∀(O:List (Addr×Obj))(s:Shared)(Y:St)(H:Hp)(Q:VK),Inv X O Y H s->t Y H Q ->
  wpAny (model X.prog X.w) X.A (eval a X.env) (λv s₁=>wpAny (model X.prog X.w) X.A (eval b X.env) (λu s₂=>wpAny (model X.prog X.w) X.A (compareOp op v u) (EP X O Y Q) X.xe s₂) X.xe s₁) X.xe s
def zkN(b:Expr){op:CmpOp}(h:op≠.In)(h2:op≠.NotIn):behindInMarks op b=false:=by
 have e1:(op==CmpOp.In)=false:=by cases op<;>first|rfl|exact absurd rfl h
 have e2:(op==CmpOp.NotIn)=false:=by cases op<;>first|rfl|exact absurd rfl h2
 cases b<;>simp[behindInMarks,e1,e2]
def tIsN(ta:TE):TE:=λY H Q=>ta Y H λx H1=>Q (.bl (decide (x=.non))) H1
def zsn(ta:TE):TE:=λY H Q=>ta Y H λx H1=>Q (.bl (!decide (x=.non))) H1
def RelV.none_iff{x:V}{v:Value}(r:RelV x v):(v==Value.none)=decide (x=.non):=by
 cases x with
 |non=>cases r;rfl
 |bl _=>cases r;rfl
 |int _=>obtain⟨t,rfl⟩:=r;rfl
 |str _=>obtain⟨t,rfl⟩:=r;rfl
 |byt _=>obtain⟨t,rfl⟩:=r;rfl
 |flt _=>obtain⟨t,rfl⟩:=r;rfl
 |ref _=>cases r;rfl
 |ty _=>cases r;rfl
def zpq{j pos'}(ha:PE X a ta):PC X .Is a (.Constant .none j pos') (tIsN ta):=by
 intro O s Y H Q I h;refine thn (ha O s Y H _ I h) λv s1 ⟨x,H1,I1,r1,q1⟩=>?_;exact Constant_none (is_none_gen ⟨.bl _,H1,I1,by rw[r1.none_iff];rfl,q1⟩)
def zql{j pos'}(ha:PE X a ta):PC X .IsNot a (.Constant .none j pos') (zsn ta):=by
 intro O s Y H Q I h;refine thn (ha O s Y H _ I h) λv s1 ⟨x,H1,I1,r1,q1⟩=>?_;exact Constant_none (isnot_none_gen ⟨.bl _,H1,I1,by rw[r1.none_iff];rfl,q1⟩)
def tB(t:TE):TT:=λY H Q=>t Y H λx H1=>∃c,x=.bl c/\Q c H1
def zr2(h:PC X op a b t)(h1:behindInMarks op b=false:=by first|exact zkN _ (by decide) (by decide)|rfl):PE X (.Compare a [op] [b] pos) t:=λO s Y H Q I hw=>wpAny_Compare1 (h O s Y H Q I hw) h1
def zik{op:CmpOp}{t:TE}(h:PC X op a b t)(h1:behindInMarks op b=false:=by first|exact zkN _ (by decide) (by decide)|rfl):PT X (.Compare a [op] [b] pos) (tB t):=by
 intro O s Y H Q I hw;refine wpAny_isTrue_Compare1 (thn (h O s Y H _ I hw) λv s1 h1=>thn h1 λu s2 h2=>thn h2 λc s3 ⟨x,H1,I1,r1,q1⟩=>?_) h1;obtain⟨d,rfl,q⟩:=q1;cases r1;exact YBl ⟨H1,I1,q⟩
def zrZ{e:Expr}{t:TE}(h:PE X e t)(he:∀whole,isTrue e X.env whole=(do let v <-whole;standAt e.pos;holding [v] (truthy v)):=by intro _;rfl):PT X e (tB t):=by
 intro O s Y H Q I hw;refine isTrue_plain (thn (h O s Y H _ I hw) λv s1 ⟨x,H1,I1,r1,q1⟩=>?_) (he _);obtain⟨d,rfl,q⟩:=q1;cases r1;exact YBl ⟨H1,I1,q⟩
variable{tA tB':TT}{rest:List Expr}
def tAnd(t u:TT):TT:=λY H Q=>t Y H λc H1=>if c=true then u Y H1 Q else Q false H1
def tOr(t u:TT):TT:=λY H Q=>t Y H λc H1=>if c=true then Q true H1 else u Y H1 Q
def tNot(t:TT):TT:=λY H Q=>t Y H λc H1=>Q (!c) H1
def zjy(ha:PT X a tA):PW X (.BoolOp .And [a] pos) tA:=by
 intro wh O s Y H Q I h;refine isTrue_and (thn (ha O s Y H Q I h) λc s1 e=>?_);cases c with
 |true=>exact isTrue_and_nil e
 |false=>exact e
def zrT(ha:PT X a tA):PW X (.BoolOp .Or [a] pos) tA:=by
 intro wh O s Y H Q I h;refine isTrue_or (thn (ha O s Y H Q I h) λc s1 e=>?_);cases c with
 |false=>exact isTrue_or_nil e
 |true=>exact e
def znx(ha:PT X a tA)(hb:PW X (.BoolOp .And (b::rest) pos) tB'):PW X (.BoolOp .And (a::b::rest) pos) (tAnd tA tB'):=by
 intro wh O s Y H Q I h;refine isTrue_and (thn (ha O s Y H _ I h) λc s1 ⟨H1,I1,q1⟩=>?_);cases c with
 |true=>exact hb wh O s1 Y H1 Q I1 q1
 |false=>exact⟨H1,I1,q1⟩
def zsU(ha:PT X a tA)(hb:PW X (.BoolOp .Or (b::rest) pos) tB'):PW X (.BoolOp .Or (a::b::rest) pos) (tOr tA tB'):=by
 intro wh O s Y H Q I h;refine isTrue_or (thn (ha O s Y H _ I h) λc s1 ⟨H1,I1,q1⟩=>?_);cases c with
 |true=>exact⟨H1,I1,q1⟩
 |false=>exact hb wh O s1 Y H1 Q I1 q1
def zq9(ha:PT X a tA):PT X (.UnaryOp .Not a pos) (tNot tA):=by
 intro O s Y H Q I h;exact isTrue_not (ha O s Y H (λc H1=>Q (!c) H1) I h)
def zsV(ta tb:TE):TE:=λY H Q=>ta Y H λx H1=>∃c,x=.bl c/\if c=true then tb Y H1 Q else Q (.bl false) H1
def zsv(ta:TE):TE:=λY H Q=>ta Y H λx H1=>∃c,x=.bl c/\Q (.bl (!c)) H1
def zri{op}(h:PE X a t):PE X (.BoolOp op [a] pos) t:=λO s Y H Q I hw=>BoolOp_one (h O s Y H Q I hw)
def zq4(ha:PE X a ta)(hb:PE X (.BoolOp .And (b::rest) pos) tb):PE X (.BoolOp .And (a::b::rest) pos) (zsV ta tb):=by
 intro O s Y H Q I h;refine BoolOp_and (thn (ha O s Y H _ I h) λv s1 ⟨x,H1,I1,r1,q1⟩=>?_);obtain⟨c,rfl,q1⟩:=q1;cases r1;refine YBl ?_;cases c with
 |true=>exact hb O s1 Y H1 Q I1 q1
 |false=>exact⟨.bl false,H1,I1,rfl,q1⟩
def zrX(ha:PE X a ta):PE X (.UnaryOp .Not a pos) (zsv ta):=by
 intro O s Y H Q I h;refine UnaryOp_ (thn (ha O s Y H _ I h) λv s1 ⟨x,H1,I1,r1,q1⟩=>?_);obtain⟨c,rfl,q1⟩:=q1;cases r1;exact not_of (YBl ⟨.bl (!c),H1,I1,rfl,q1⟩)
def tIf(t:TT)(ta tb:TE):TE:=λY H Q=>t Y H λc H1=>if c=true then ta Y H1 Q else tb Y H1 Q
def zog{c:Expr}(hc:PT X c tA)(ha:PE X a ta)(hb:PE X b tb):PE X (.IfExp c a b pos) (tIf tA ta tb):=by
 intro O s Y H Q I h;refine wpAny_IfExp (thn (hc O s Y H _ I h) λd s1 ⟨H1,I1,q1⟩=>?_);cases d with
 |true=>exact ha O s1 Y H1 Q I1 q1
 |false=>exact hb O s1 Y H1 Q I1 q1
end
def SqL(K:qq)(H:Hp)(a:Addr)(xs:List V):Prop:=
 Rd H a (.lst xs) \/
  ∃(o:Obj)(its:Array Value)(n:Nat),K.lookup a=some o/\o.cls=.type "list" /\ o.dict=none/\o.data=.seq its n/\its.size<=sizeLine/\Vals xs its.toList
def SqT(K:qq)(H:Hp)(a:Addr)(xs:List V):Prop:=
 Rd H a (.tup xs) \/
  ∃(o:Obj)(its:Array Value)(n:Nat),K.lookup a=some o/\o.cls=.type "tuple" /\ o.data=.seq its n/\its.size<=sizeLine/\Vals xs its.toList
def absV:Value->Option V
 |.none=>some .non
 |.bool b=>some (.bl b)
 |.int i _=>some (.int i)
 |.str x _=>some (.str x)
 |.bytes b _=>some (.byt b)
 |.float b _=>some (.flt b)
 |.ref a=>some (.ref a)
 |.type n=>some (.ty n)
 |_=>none
def RelV.abs(r:RelV x u):absV u=some x:=by
 cases x with
 |non=>cases r;rfl
 |bl _=>cases r;rfl
 |int _=>obtain⟨t,rfl⟩:=r;rfl
 |str _=>obtain⟨t,rfl⟩:=r;rfl
 |byt _=>obtain⟨t,rfl⟩:=r;rfl
 |flt _=>obtain⟨t,rfl⟩:=r;rfl
 |ref _=>cases r;rfl
 |ty _=>cases r;rfl
theorem RelV.inj{x y:V}{u:Value}(r:RelV x u)(q:RelV y u):x=y:=Option.some.inj (r.abs.symm.trans q.abs)
theorem Vals.inj:∀{xs ys:List V}{us:List Value},Vals xs us->Vals ys us->xs=ys
 |_,_,_,.nil,.nil=>rfl
 |_,_,_,.cons r t,.cons r' t'=>by rw[r.inj r',Vals.inj t t']
section
variable{X:Cx}{O:List (Addr×Obj)}{Y:St}{H:Hp}{s:Shared}{a:Addr}{xs ys:List V}
def SqL.of{K:qq}(h:H a=some (.lst xs)):SqL K H a xs:=.inl (.inl h)
def SqT.of{K:qq}(h:H a=some (.tup xs)):SqT K H a xs:=.inl (.inl h)
def Inv.list(I:Inv X O Y H s)(h:SqL X.K H a xs):∃its:List Value,Vals xs its/\PlainL s.heap a its.toArray/\xs.length<=sizeLine:=by
 rcases h with h|⟨o,its,n,hk,hc,hd,hs,hz,r⟩
 .obtain⟨z,its,n,r,e⟩:=h.ok I.hok;exact⟨its,r,⟨_,n,e,rfl,rfl,rfl⟩,z⟩
 .refine⟨its.toList,r,⟨o,n,I.kIn a o hk,hc,hd,by simpa using hs⟩,?_⟩;have e:=r.length;simp only[YAZ]at e;omega
def Inv.tuple(I:Inv X O Y H s)(h:SqT X.K H a xs):∃its:List Value,Vals xs its/\IsTup s.heap a its.toArray/\xs.length<=sizeLine:=by
 rcases h with h|⟨o,its,n,hk,hc,hs,hz,r⟩
 .obtain⟨z,its,r,p⟩:=h.ok I.hok;exact⟨its,r,p,z⟩
 .refine⟨its.toList,r,⟨o,I.kIn a o hk,hc,n,by simpa using hs⟩,?_⟩;have e:=r.length;simp only[YAZ]at e;omega
def Inv.list_inj(I:Inv X O Y H s)(h:SqL X.K H a xs)(h':SqL X.K H a ys):xs=ys:=by
 obtain⟨its,r,⟨o,n,e,_,_,d⟩,_⟩:=I.list h;obtain⟨its',r',⟨o',n',e',_,_,d'⟩,_⟩:=I.list h';rw[e]at e';cases e';rw[d]at d';injection d' with d1 _
 have:its=its':=by simpa using congrArg Array.toList d1
 subst this;exact r.inj r'
def Inv.tuple_inj(I:Inv X O Y H s)(h:SqT X.K H a xs)(h':SqT X.K H a ys):xs=ys:=by
 obtain⟨its,r,⟨o,e,_,n,d⟩,_⟩:=I.tuple h;obtain⟨its',r',⟨o',e',_,n',d'⟩,_⟩:=I.tuple h';rw[e]at e';cases e';rw[d]at d';injection d' with d1 _
 have:its=its':=by simpa using congrArg Array.toList d1
 subst this;exact r.inj r'
end
abbrev Cx.wish(X:Cx)(E:Value->Shared->Prop):Cx:={X with xe:=E}
abbrev Cx.nox(X:Cx):Cx:=X.wish λ_ _=>False
theorem Cx.Ok.wish{X:Cx}(ok:X.Ok)(E:Value->Shared->Prop):(X.wish E).Ok:=
 ⟨ok.mod,ok.kind,ok.glob,ok.blt,ok.above,ok.inj,ok.has,ok.cab,ok.hd,ok.frames,ok.stk,ok.exf,ok.bs,ok.bsz,ok.noex,ok.exfs,ok.funs,ok.frf⟩
def Cx.Ok.unwish{X:Cx}{E:Value->Shared->Prop}(ok:(X.wish E).Ok):X.Ok:=
 ⟨ok.mod,ok.kind,ok.glob,ok.blt,ok.above,ok.inj,ok.has,ok.cab,ok.hd,ok.frames,ok.stk,ok.exf,ok.bs,ok.bsz,ok.noex,ok.exfs,ok.funs,ok.frf⟩
section
variable{X:Cx}{O:List (Addr×Obj)}{Y:St}{H:Hp}{s:Shared}{E:Value->Shared->Prop}
theorem Inv.wish(I:Inv X O Y H s)(E:Value->Shared->Prop):Inv (X.wish E) O Y H s:=⟨I.ok.wish E,I.os,I.bare,I.base,I.loc,I.cell,I.free,I.freeC,I.pin,I.hok,I.len⟩
theorem Inv.unwish(I:Inv (X.wish E) O Y H s):Inv X O Y H s:=⟨I.ok.unwish,I.os,I.bare,I.base,I.loc,I.cell,I.free,I.freeC,I.pin,I.hok,I.len⟩
theorem SP.unwish(h:SP (X.wish E) O D f s'):SP X O D f s':=by
 cases f with
 |next=>obtain⟨Y',H',I,q⟩:=h;exact⟨Y',H',I.unwish,q⟩
 |brk=>obtain⟨Y',H',I,q⟩:=h;exact⟨Y',H',I.unwish,q⟩
 |cont=>obtain⟨Y',H',I,q⟩:=h;exact⟨Y',H',I.unwish,q⟩
 |ret u=>obtain⟨v,Y',H',I,r,q⟩:=h;exact⟨v,Y',H',I.unwish,r,q⟩
theorem PSs.nox{st:List Stmt}{t:TS}(h:PSs X.nox st t):PSs X st t:=λO s Y H D I hw=>
 YA2 (h O s Y H D (I.wish _) hw) (λ_ _ q=>q.unwish) λ_ _ z=>False.elim z
end
section
variable{X:Cx}{st:Stmt}{rest:List Stmt}{t u:TS}{e:Expr}{te:TE}{pos:Pos}
def zse:TS:=λD Y H=>D.nx Y H
def tSeq(t u:TS):TS:=λD Y H=>t {D with nx:=u D} Y H
def zbR:PSs X [] zse:=λ_ _ Y H _ I h=>YC0 ⟨Y,H,I,h⟩
def zam(h1:PS X st t)(h2:PSs X rest u):PSs X (st::rest) (tSeq t u):=by
 intro O s Y H D I h;refine wpAny_execs_cons (thn (h1 O s Y H {D with nx:=u D} I h) λf s1 q=>?_);cases f with
 |next=>
  obtain⟨Y',H',I',q⟩:=q;exact h2 O s1 Y' H' D I' q
 |ret v=>exact q
 |brk=>exact q
 |cont=>exact q
def zaD(h1:PS X st t):PSs X [st] t:=by
 intro O s Y H D I h;refine wpAny_execs_cons (thn (h1 O s Y H D I h) λf s1 q=>?_);cases f with
 |next=>exact YC0 q
 |ret v=>exact q
 |brk=>exact q
 |cont=>exact q
def Inv.quiet{O:List (Addr×Obj)}{Y:St}{H:Hp}{s:Shared}(I:Inv X O Y H s):interactive X.env=false:=by simp[interactive,I.ok.kind]
def zsg(te:TE):TS:=λD Y H=>te Y H λ_ H1=>D.nx Y H1
def zdc(he:PE X e te)(hs:swapsWith e none pos.line X.env=pure false:=by rfl):PS X (.Expr e pos) (zsg te):=by
 intro O s Y H D I h;exact wpAny_Expr_any (thn (he O s Y H _ I h) λv s1 ⟨x,H1,I1,r1,q1⟩=>⟨Y,H1,I1,q1⟩) I.quiet hs
def tRet(te:TE):TS:=λD Y H=>te Y H D.rt
def zbO(he:PE X e te):PS X (.Return (some e) pos) (tRet te):=by
 intro O s Y H D I h;exact wpAny_Return_some (thn (he O s Y H _ I h) λv s1 ⟨x,H1,I1,r1,q1⟩=>⟨x,Y,H1,I1,r1,q1⟩)
def tIfS(c:TT)(t u:TS):TS:=λD Y H=>c Y H λb H1=>if b=true then t D Y H1 else u D Y H1
def zeM{c:Expr}{a b:List Stmt}{tc:TT}(hc:PT X c tc)(ha:PSs X a t)(hb:PSs X b u):PS X (.If c a b pos) (tIfS tc t u):=by
 intro O s Y H D I h;refine wpAny_If (thn (hc O s Y H _ I h) λd s1 ⟨H1,I1,q1⟩=>?_);cases d with
 |true=>exact ha O s1 Y H1 D I1 q1
 |false=>exact hb O s1 Y H1 D I1 q1
def zrM:TS:=λ_ _ _=>False
def ziQ:PSs X sts zrM:=λ_ _ _ _ _ _ h=>h.elim
end
abbrev TG:=V->St->Hp->(St->Hp->Prop)->Prop
abbrev TGs:=List V->St->Hp->(St->Hp->Prop)->Prop
def PG(X:Cx)(target:Expr)(t:TG):Prop:=
 ∀(O:List (Addr×Obj))(s:Shared)(Y:St)(H:Hp)(v:V)(u:Value)(Q:St->Hp->Prop),Inv X O Y H s->RelV v u->t v Y H Q ->
  wpAny (model X.prog X.w) X.A (assign target X.env u) (λ_ s'=>∃ Y' H',Inv X O Y' H' s'/\Q Y' H') X.xe s
noncomputable def PGs(X:Cx)(ts:List Expr)(t:TGs):Prop:=
 ∀(O:List (Addr×Obj))(s:Shared)(Y:St)(H:Hp)(vs:List V)(us:List Value)(Q:St->Hp->Prop),Inv X O Y H s->Vals vs us->t vs Y H Q ->
  wpAny (model X.prog X.w) X.A (assignInOrder ((assignEach ts X.env).map (·.2)) us) (λ_ s'=>∃ Y' H',Inv X O Y' H' s'/\Q Y' H') X.xe s
abbrev TSet:=V->V->V->Hp->(Hp->Prop)->Prop
def PSet(X:Cx)(t:TSet):Prop:=
 ∀(O:List (Addr×Obj))(s:Shared)(Y:St)(H:Hp)(o i v:V)(ov iv u:Value)(Q:Hp->Prop),Inv X O Y H s->RelV o ov->RelV i iv->RelV v u->t o i v H Q ->
  wpAny (model X.prog X.w) X.A (setItem ov iv u) (λ_ s'=>∃H',Inv X O Y H' s'/\Q H') X.xe s
abbrev TIp:=V->V->Hp->VK->Prop
def PIp(X:Cx)(op:Operator)(t:TIp):Prop:=
 ∀(O:List (Addr×Obj))(s:Shared)(Y:St)(H:Hp)(x y:V)(v u:Value)(Q:VK),Inv X O Y H s->RelV x v->RelV y u->t x y H Q ->
  wpAny (model X.prog X.w) X.A (inplaceOp op v u) (EP X O Y Q) X.xe s
section
variable{X:Cx}{pos:Pos}
def zc9(i:Nat):TG:=λv Y H Q=>Q (Y.set i (some v)) H
def zaz(hN:X.N.Nodup)(hi:X.N[i]?=some x)(hx:Loc X.env.scope x)(hf:X.fn x=true\/X.env.scope.names.lookup x=some .local:=by first|exact .inl rfl|exact .inr rfl|assumption):PG X (.Name x pos) (zc9 i):=by
 intro O s Y H v u Q I r h;exact YDl (zej I hN hi hx r (λs' I'=>⟨_,H,I',h⟩) hf)
def gNil:TGs:=λvs Y H Q=>vs=[]/\Q Y H
def zfh(t:TG)(u:TGs):TGs:=λvs Y H Q=>∃v r,vs=v::r/\t v Y H λY' H'=>u r Y' H' Q
def zaI:PGs X [] gNil:=by
 intro O s Y H vs us Q I r h;obtain⟨e,h⟩:=h;subst e;cases r;exact assignInOrder_nil ⟨Y,H,I,h⟩
def zad{e:Expr}{es:List Expr}{t:TG}{u:TGs}(h1:PG X e t)(h2:PGs X es u)
  (hs:(assignEach (e::es) X.env).map (·.2)=assign e X.env::(assignEach es X.env).map (·.2):=by rfl):PGs X (e::es) (zfh t u):=by
 intro O s Y H vs us Q I r h;obtain⟨v,vr,e1,h⟩:=h;subst e1;cases r with
 |cons r rr=>
  rw[hs];refine YDc (thn (h1 O s Y H _ _ _ I r h) λ_ s1 ⟨Y1,H1,I1,q1⟩=>?_);exact h2 O s1 Y1 H1 _ _ Q I1 rr q1
def gTup(K:qq)(n:Nat)(t:TGs):TG:=λv Y H Q=>∃a xs,v=.ref a/\SqT K H a xs/\xs.length=n/\t xs Y H Q
def zcO(hc:X.calm=true)(h:PGs X es t)
  (hn:(assignEach es X.env).length=n:=by rfl) (hst:(assignEach es X.env).findIdx? (·.1)=none:=by rfl):PG X (.Tuple es k pos) (gTup X.K n t):=by
 intro O s Y H v u Q I r hw;obtain⟨a,xs,e1,hq,hl,hw⟩:=hw;subst e1;cases r;obtain⟨its,rv,ht,hz⟩:=I.tuple hq;refine assign_Tuple_tuple (I.ok.hd hc) ht (by simp[hn,<-hl,rv.length]) hst λh' hx=>?_;have I1:Inv X O Y H {s with heap:=h'}:=I.kept (t':=s.toks) λb o e=>hx b o (YAv (YAl e)) e;exact h O _ Y H xs _ Q I1 (by simpa using rv) hw
def gSub(to ti:TE)(t:TSet):TG:=λv Y H Q=>to Y H λo H1=>ti Y H1 λi H2=>t o i v H2 λH3=>Q Y H3
def zi1{o i:Expr}{to ti:TE}{t:TSet}(ho:PE X o to)(hi:PE X i ti)(hs:PSet X t)
  (ha:∀v,assign (.Subscript o i pos) X.env v=(do
   let ov <-holding [v] (eval o X.env)
   let iv <-holding [v,ov] (eval i X.env)
   standAt pos
   holding [v,ov,iv] (setItem ov iv v)
   release [v,ov,iv] []):=by intro _;rfl):PG X (.Subscript o i pos) (gSub to ti t):=by
 intro O s Y H v u Q I r h;rw[ha];refine YAa (YAV (thn (ho O s Y H _ I h) λov s1 ⟨x,H1,I1,r1,q1⟩=>?_));refine YAa (YAV (thn (hi O s1 Y H1 _ I1 q1) λiv s2 ⟨y,H2,I2,r2,q2⟩=>?_));refine YAa (YBg (YAa (YAV (thn (hs O s2 Y H2 x y v ov iv u _ I2 r1 r2 r q2) λ_ s3 ⟨H3,I3,q3⟩=>?_))));exact wpAny_release ⟨Y,H3,I3,q3⟩
def tAsg(te:TE)(g:TG):TS:=λD Y H=>te Y H λx H1=>g x Y H1 D.nx
def zdE{tg e:Expr}{te:TE}{g:TG}(he:PE X e te)(hg:PG X tg g)(hs:swapsWithSole [tg] e pos.line X.env=pure false:=by rfl)(hw:swappedStores [tg] e X.env=pure none:=by rfl)
  (h1:(assignEach [tg] X.env).map (·.2)=[assign tg X.env]:=by rfl):PS X (.Assign [tg] e pos) (tAsg te g):=by
 intro O s Y H D I h;refine wpAny_Assign_stores (thn (he O s Y H _ I h) λv s1 ⟨x,H1,I1,r1,q1⟩=>?_) hs hw;rw[h1];exact thn (hg O s1 Y H1 x v _ I1 r1 q1) λ_ s2 q=>q
def zbu{i:Nat}{x:Str}{e:Expr}{te:TE}{pos':Pos}(hN:X.N.Nodup)(hi:X.N[i]?=some x)(hx:Loc X.env.scope x)(he:PE X e te)(hs:swapsWith e (some (.Name x pos')) pos.line X.env=pure false:=by rfl)(hf:X.fn x=true\/X.env.scope.names.lookup x=some .local:=by first|exact .inl rfl|exact .inr rfl|assumption) :
  PS X (.Assign [.Name x pos'] e pos) (tAsg te (zc9 i)):=by
 intro O s Y H D I h;refine wpAny_Assign_Name (thn (he O s Y H _ I h) λv s1 ⟨y,H1,I1,r1,q1⟩=>?_) hs;exact zej I1 hN hi hx r1 (λs2 I2=>⟨_,H1,I2,q1⟩) hf
def tPar(i j:Nat)(ta:TA):TS:=λD Y H=>ta Y H λvs H1=>∃v w,vs=[v,w]/\D.nx ((Y.set i (some v)).set j (some w)) H1
def zr7{i j:Nat}{x y:Str}{a b:Expr}{ta:TA}{px py pt:Pos}{kt k2 pt2}(hc:X.calm=true)(hN:X.N.Nodup)(hi:X.N[i]?=some x)(hj:X.N[j]?=some y)(hij:i≠j)
  (hx:X.env.scope.names.lookup x=some .local) (hy:X.env.scope.names.lookup y=some .local) (ha:PA X [a,b] ta)
  (hw:swappedStores [.Tuple [.Name x px,.Name y py] kt pt] (.Tuple [a,b] k2 pt2) X.env=pure (some [x,y]))
  (hs:swapsWithSole [.Tuple [.Name x px,.Name y py] kt pt] (.Tuple [a,b] k2 pt2) pos.line X.env=pure false:=by rfl) :
  PS X (.Assign [.Tuple [.Name x px,.Name y py] kt pt] (.Tuple [a,b] k2 pt2) pos) (tPar i j ta):=by
 intro O s Y H D I h;rw[exec_Assign_arm];refine YAa (YBg ?_);rw[hs];refine YAa (YAf ?_);rw[if_neg (by decide)];refine YAa (Tuple_ (thn (ha _ O s Y H _ I h) λus s1 ⟨vs,H1,I1,r1,q1⟩=>?_));obtain⟨v,w,e1,q1⟩:=q1;subst e1;obtain⟨u1,u2,rfl,rv,rw'⟩:∃u1 u2,us=[u1,u2]/\RelV v u1/\RelV w u2:=by
  cases r1 with
  |cons p q=>
   cases q with
   |cons p' q'=>
    cases q';exact⟨_,_,rfl,p,p'⟩
 refine YAS ?_ (by show 2<=sizeLine;decide);have I2:Inv X O Y H1 {s1 with heap:=s1.heap.push {cls:=.type "tuple",data:=.seq [u1,u2].toArray}}:=I1.kept (t':=s1.toks) λb o e=>YAd _ e;rw[hw];refine YAa (YAf ?_);show wpAny (model X.prog X.w) X.A (do rule "assign.swapped-stores"; let items <-unpackItems (.ref s1.heap.objs.size) 2 none;assignInOrder [λv=>bindName X.env y v,λv=>bindName X.env x v] items.reverse;pure Flow.next) _ _ _;refine YAa (YBO (YAa (unpackItems_tuple (items:=#[u1,u2]) (I.ok.hd hc) (IsTup.new s1.heap _) λh' hx'=>?_)));have I3:=I2.kept (h':=h') (t':=s1.toks) λb o e=>hx' b o (YAv (YAl e)) e;show wpAny _ _ (assignInOrder [λv=>bindName X.env y v,λv=>bindName X.env x v] [u2,u1] >>=λ_=>pure Flow.next) _ _ _;refine YAa (YDc (wpAny_bindName (zej I3 hN hj (.inl hy) rw' (λs2 I4=>?_) (.inr hy))));refine YDc (wpAny_bindName (zej I4 hN hi (.inl hx) rv (λs3 I5=>assignInOrder_nil (YAf ?_)) (.inr hx)));rw[List.set_comm _ _ (Ne.symm hij)]at I5;exact⟨_,H1,I5,q1⟩
def tAug(i:Nat)(te:TE)(ti:TIp):TS:=λD Y H=>∃x,Y[i]?=some (some x)/\te Y H λy H1=>ti x y H1 λz H2=>D.nx (Y.set i (some z)) H2
def zrH{i:Nat}{x:Str}{e:Expr}{te:TE}{op:Operator}{ti:TIp}{pos':Pos}(hN:X.N.Nodup)(hi:X.N[i]?=some x)(hx:Loc X.env.scope x)(he:PE X e te)(ho:PIp X op ti)(hf:X.fn x=true\/X.env.scope.names.lookup x=some .local:=by first|exact .inl rfl|exact .inr rfl|assumption) :
  PS X (.AugAssign (.Name x pos') op e pos) (tAug i te ti):=by
 intro O s Y H D I h;obtain⟨v,e1,h⟩:=h;obtain⟨m,hn,hl⟩:=I.loc;have vis:Vis X.env.scope x:=by rcases hx with k|k;exact .inl k;exact .inr (.inl k)
 obtain⟨u,r,l⟩:=hl i x v hi e1 vis;refine wpAny_AugAssign_Name ?_;have go:wpAny (model X.prog X.w) X.A (eval e X.env) (λw s₂=>wpAny (model X.prog X.w) X.A (inplaceOp op u w) (λr s₃=>wpAny (model X.prog X.w) X.A (storeName X.env x r) (λ_=>SP X O D .next) X.xe s₃) X.xe s₂) X.xe s:=by
  refine thn (he O s Y H _ I h) λw s1 ⟨y,H1,I1,r1,q1⟩=>?_;refine thn (ho O s1 Y H1 v y u w _ I1 r r1 q1) λz s2 ⟨zv,H2,I2,r2,q2⟩=>?_;exact zej I2 hN hi hx r2 (λs3 I3=>⟨_,H2,I3,q2⟩) hf
 rcases l with⟨hk,hm⟩|⟨hk,c,hc,hcell⟩
 .exact wpAny_loadName_local I.ok.kind hk hn hm go
 .rcases hk with hk|hk
  .exact wpAny_loadName_cell I.ok.kind hk hc hcell go
  .rcases hx with k|k
   .have:X.env.scope.names.lookup x=some .free:=hk
    rw[k]at this;cases this
   .have:X.env.scope.names.lookup x=some .free:=hk
    rw[k]at this;cases this
def zsK(to ti te:TE)(tget:V->V->Hp->VK->Prop)(tip:TIp)(tset:TSet):TS:=λD Y H=>to Y H λo H1=>ti Y H1 λi H2=>tget o i H2 λx H3=>te Y H3 λy H4=>tip x y H4 λz H5=>tset o i z H5 λH6=>D.nx Y H6
def PGet(X:Cx)(t:V->V->Hp->VK->Prop):Prop:=
 ∀(O:List (Addr×Obj))(s:Shared)(Y:St)(H:Hp)(o i:V)(ov iv:Value)(Q:VK),Inv X O Y H s->RelV o ov->RelV i iv->t o i H Q ->
  wpAny (model X.prog X.w) X.A (getItem ov iv) (EP X O Y Q) X.xe s
def znm{o i e:Expr}{to ti te:TE}{tget:V->V->Hp->VK->Prop}{tip:TIp}{tset:TSet}{op:Operator}{tpos:Pos}(ho:PE X o to)(hi:PE X i ti)(hg:PGet X tget)(he:PE X e te)(hp:PIp X op tip)(hs:PSet X tset)
  (ha:∀ov iv new,augStore i ov iv new=(do holding [new,ov,iv] (setItem ov iv new);release [new,ov,iv] [];pure .next):=by intros;rfl):PS X (.AugAssign (.Subscript o i tpos) op e pos) (zsK to ti te tget tip tset):=by
 intro O s Y H D I h;refine wpAny_AugAssign_SubscriptAny (thn (ho O s Y H _ I h) λov s1 ⟨x1,H1,I1,r1,q1⟩=>?_) ha;refine thn (hi O s1 Y H1 _ I1 q1) λiv s2 ⟨x2,H2,I2,r2,q2⟩=>?_;refine thn (hg O s2 Y H2 x1 x2 ov iv _ I2 r1 r2 q2) λold s3 ⟨x3,H3,I3,r3,q3⟩=>?_;refine thn (he O s3 Y H3 _ I3 q3) λv s4 ⟨x4,H4,I4,r4,q4⟩=>?_;refine thn (hp O s4 Y H4 x3 x4 old v _ I4 r3 r4 q4) λnew s5 ⟨x5,H5,I5,r5,q5⟩=>?_;exact thn (hs O s5 Y H5 x1 x2 x5 ov iv new _ I5 r1 r2 r5 q5) λ_ s6 ⟨H6,I6,q6⟩=>⟨Y,H6,I6,q6⟩
def ipI(f:Int->Int->Int):TIp:=λx y H Q=>∃i j,x=.int i/\y=.int j/\Q (.int (f i j)) H
def znn:PIp X .Add (ipI λi j=>i+j):=by
 intro O s Y H x y v u Q I r1 r2 h;obtain⟨i,j,e1,e2,q⟩:=h;subst e1;subst e2;obtain⟨t,rfl⟩:=r1;obtain⟨t',rfl⟩:=r2;exact iadd_int ⟨.int _,H,I.tok _,⟨_,rfl⟩,q⟩
end
section
variable{X:Cx}{pos:Pos}
def zqQ(c:TT)(tb:TS):TS:=λD Y H=>∃W:Nat->St->Hp->Prop,(∃m,W m Y H)/\∀m Y H,W m Y H ->
 c Y H λb H1=>if b=true then ∃N:St->Hp->Prop,(∀ Y' H',N Y' H'->∃m',m'<m/\W m' Y' H')/\tb {D with nx:=N,ct:=N,bk:=D.nx} Y H1 else D.nx Y H1
def zj9{c:Expr}{body:List Stmt}{tc:TT}{tb:TS}(hp:PassesOwn (model X.prog X.w) X.A X.env X.xe)(hc:PT X c tc)(hb:PSs X body tb):PS X (.While c body [] pos) (zqQ tc tb):=by
 intro O s Y H D I h;obtain⟨W,⟨m0,w0⟩,turn⟩:=h;refine wpAny_While (codeAny_whileLoop (λn s'=>∃ Y' H',Inv X O Y' H' s'/\W n Y' H') ?_ m0 ⟨Y,H,I,w0⟩);rintro n s1 ⟨Y1,H1,I1,w1⟩;refine YB5 hp (thn (hc O s1 Y1 H1 _ I1 (turn n Y1 H1 w1)) λb s2 ⟨H2,I2,q2⟩=>?_);cases b with
 |true=>
  obtain⟨N,hN,q2⟩:=q2;rw[if_pos rfl];refine YB5 hp (thn (hb O s2 Y1 H2 _ I2 q2) λf s3 q3=>?_);cases f with
  |next=>
   obtain⟨Y3,H3,I3,n3⟩:=q3;obtain⟨m',hm,w3⟩:=hN Y3 H3 n3;exact⟨m',hm,Y3,H3,I3,w3⟩
  |cont=>
   obtain⟨Y3,H3,I3,n3⟩:=q3;obtain⟨m',hm,w3⟩:=hN Y3 H3 n3;exact⟨m',hm,Y3,H3,I3,w3⟩
  |brk=>exact q3
  |ret v=>exact q3
 |false=>
  rw[if_neg YAA];exact YC0 ⟨Y1,H2,I2,q2⟩
end
structure It where
 go:Nat->Hp->Prop
 yld:Nat->Hp->V->Hp->Prop
 stop:Nat->Hp->Prop
def FpOk(X:Cx)(O:List (Addr×Obj))(H:Hp)(b:Addr):Prop:=
 H b=none/\b≠X.env.locals/\b∉X.fs/\(b∈X.ex\/X.s₀.heap.objs.size<=b)/\(∀x c,X.env.cells.lookup x=some c->c≠b)/\∀p∈X.pn++O,p.1≠b
def Inv.fpOk{X:Cx}{O:List (Addr×Obj)}{Y:St}{H H':Hp}{s:Shared}{b:Addr}(I:Inv X O Y H s)(hb:s.heap.objs.size<=b)(hn:H' b=none):FpOk X O H' b:=by
 refine⟨hn,YBd (YAs I.lt hb),I.nofs hb,.inr (YAQ I.sz hb),λx c e z=>?_,λp hp z=>?_⟩
 .obtain⟨v,q⟩:=I.cell x c e;exact absurd (YAs q.lt (by rw[z];exact hb)) (YBa _)
 .exact absurd (YAs (YAl (I.pin p hp).1) (by rw[z];exact hb)) (YBa _)
structure Turn(P:Program)(w:World)(K:qq)(tg:Expr)(J:It)(fp:List Addr)(it:Addr)(tn:Nat->Heap->Prop):Prop where
 mem:it∈fp
 obj:∀i h,tn i h->∀b∈fp,∃o,h.get? b=some o/\∀v,o.data≠.cell v
 keep:∀i h h',tn i h->(∀b∈fp,∀o,h.get? b=some o->h'.get? b=some o)->tn i h'
 item:∀(X:Cx),X.prog=P->X.w=w->X.K=K->X.calm=true->∀(i:Nat)(O:List (Addr×Obj))(s:Shared)(Y:St)(H:Hp)(E:Value->Shared->Prop),Inv X O Y H s->(∀b∈fp,FpOk X O H b)->tn i s.heap->J.go i H ->
  wpAny (model P w) X.A (pyNext (.ref it)) (λr s1=>∃u,r=some u /\
   wpAny (model P w) X.A (letOwnedTupleGo tg (.ref it) u) (λ_ s2=>∃x H',Inv X O Y H' s2/\RelV x u/\J.yld i H x H'/\tn (i+1) s2.heap/\∀b∈fp,H' b=none) E s1) E s
 done:∀(X:Cx),X.prog=P->X.w=w->X.K=K->X.calm=true->∀(i:Nat)(O:List (Addr×Obj))(s:Shared)(Y:St)(H:Hp)(E:Value->Shared->Prop),Inv X O Y H s->(∀b∈fp,FpOk X O H b)->tn i s.heap->J.stop i H ->
  wpAny (model P w) X.A (pyNext (.ref it)) (λr s1=>r=none/\Inv X O Y H s1) E s
 self:∀(A:Around)(i:Nat)(s:Shared)(Q:Value->Shared->Prop)(E:Value->Shared->Prop),tn i s.heap->Q (.ref it) s->wpAny (model P w) A (pyIter (.ref it)) Q E s
abbrev TI:=St->Hp->(It->Hp->Prop)->Prop
def PIE(X:Cx)(O:List (Addr×Obj))(Y:St)(tg:Expr)(R:It->Hp->Prop)(itv:Value)(s2:Shared):Prop:=
 ∃(it:Addr)(fp:List Addr)(tn:Nat->Heap->Prop)(J:It)(H':Hp),itv=.ref it/\Inv X O Y H' s2/\Turn X.prog X.w X.K tg J fp it tn/\tn 0 s2.heap/\(∀b∈fp,FpOk X O H' b)/\R J H'
def PI(X:Cx)(tg iter:Expr)(wi:TI):Prop:=
 ∀(O:List (Addr×Obj))(s:Shared)(Y:St)(H:Hp)(R:It->Hp->Prop),Inv X O Y H s->wi Y H R ->
  wpAny (model X.prog X.w) X.A (eval iter X.env) (λv s1=>wpAny (model X.prog X.w) X.A (pyIter v) (PIE X O Y tg R) X.xe s1) X.xe s
def zqq(ho:s.heap.get? it=some o)(hc:o.cls=.type n)(hd:o.data=.fields vs)
    (hn:["enumerate","zip","dict_itemiterator","dict_reverseitemiterator","odict_iterator","itertools.zip_longest","itertools.pairwise"].contains n=false) (hQ:Q () s):wpAny M A (letOwnedTupleGo tg (.ref it) u) Q E s:=by
  unfold letOwnedTupleGo;cases tg<;>first
    |exact YAf hQ
    | (cases u<;>first
        |exact YAf hQ
        | (refine YAa (wpAny_load ho ?_)
           rw[hc,hd];show wpAny M A (if (["enumerate","zip","dict_itemiterator","dict_reverseitemiterator","odict_iterator","itertools.zip_longest","itertools.pairwise"].contains n&&vs[0]?==some (rawInt _))=true then _ else _) Q E s;rw[if_neg (by intro h;rw[hn,Bool.false_and]at h;cases h)];exact YAf hQ))
def Itl(K:qq)(a:Addr):It:=
 ⟨λi H=>∃xs x,SqL K H a xs/\xs[i]?=some x,λi H x H'=>H'=H/\∀xs,SqL K H a xs->xs[i]?=some x,λi H=>∃xs,SqL K H a xs/\xs.length<=i⟩
def Itt(K:qq)(a:Addr):It:=
 ⟨λi H=>∃xs x,SqT K H a xs/\xs[i]?=some x,λi H x H'=>H'=H/\∀xs,SqT K H a xs->xs[i]?=some x,λi H=>∃xs,SqT K H a xs/\xs.length<=i⟩
def Itr(lo:Int)(n:Nat):It:=⟨λi _=>i<n,λi H x H'=>H'=H/\x=.int (lo+i),λi _=>n<=i⟩
def zin{P:Program}{w:World}{K:qq}{tg:Expr}(a it:Addr):Turn P w K tg (Itl K a) [it] it (λi h=>h.IsListIter it a i)where
 mem:=by simp
 obj:=λi h st b hb=>by
  have e:b=it:=by simpa using hb
  subst e;obtain⟨o,e,c,d⟩:=st;exact⟨o,e,λv z=>by rw[d]at z;cases z⟩
 keep:=λi h h' st k=>st.at λo e=>k it (by simp) o e
 item:=by
  intro X hP hw hK hc i O s Y H E I hf st hg;subst hP hw hK;obtain⟨xs,x,hq,hx⟩:=hg;obtain⟨its,rv,p,hz⟩:=I.list hq;obtain⟨u,hu,ru⟩:=rv.get hx;obtain⟨f0,f1,f2,f3,f4,f5⟩:=hf it (by simp);refine wpAny_pyNext_list_item st p.isList (x:=u) (by simpa using hu) λh' st' sb=>?_;have I1:Inv X O Y H {s with heap:=h'}:=I.turned (t':=s.toks) (λb o hb e=>(sb.2 b hb).trans e) f0 f1 f3 f4 f5;obtain⟨o,e,c,d⟩:=id st';exact⟨u,rfl,zqq (s:={s with heap:=h'}) e c d (by decide) ⟨x,H,I1,ru,⟨rfl,λys hy=>by rw[I.list_inj hy hq];exact hx⟩,st',λb hb=>(hf b hb).1⟩⟩
 done:=by
  intro X hP hw hK hc i O s Y H E I hf st hg;subst hP hw hK;obtain⟨xs,hq,hx⟩:=hg;obtain⟨its,rv,p,hz⟩:=I.list hq;obtain⟨f0,f1,f2,f3,f4,f5⟩:=hf it (by simp);have hl:=rv.length;exact wpAny_pyNext_list_end (I.ok.hd hc) st p.isList (by simp;omega) λh' eb=>⟨rfl,I.turned (t':=s.toks) (λb o hb e=>eb b o hb e) f0 f1 f3 f4 f5⟩
 self:=λ_ _ _ _ _ st h=>wpAny_pyIter_listiter st h
def zlb{P:Program}{w:World}{K:qq}{tg:Expr}(a it:Addr):Turn P w K tg (Itt K a) [it] it (λi h=>h.IsTupleIter it a i)where
 mem:=by simp
 obj:=λi h st b hb=>by
  have e:b=it:=by simpa using hb
  subst e;obtain⟨o,e,c,d⟩:=st;exact⟨o,e,λv z=>by rw[d]at z;cases z⟩
 keep:=λi h h' st k=>st.at λo e=>k it (by simp) o e
 item:=by
  intro X hP hw hK hc i O s Y H E I hf st hg;subst hP hw hK;obtain⟨xs,x,hq,hx⟩:=hg;obtain⟨its,rv,p,hz⟩:=I.tuple hq;obtain⟨u,hu,ru⟩:=rv.get hx;obtain⟨f0,f1,f2,f3,f4,f5⟩:=hf it (by simp);refine wpAny_pyNext_tuple_item st (show s.heap.IsTuple a its.toArray from p) (x:=u) (by simpa using hu) λh' st' sb=>?_;have I1:Inv X O Y H {s with heap:=h'}:=I.turned (t':=s.toks) (λb o hb e=>(sb.2 b hb).trans e) f0 f1 f3 f4 f5;obtain⟨o,e,c,d⟩:=id st';exact⟨u,rfl,zqq (s:={s with heap:=h'}) e c d (by decide) ⟨x,H,I1,ru,⟨rfl,λys hy=>by rw[I.tuple_inj hy hq];exact hx⟩,st',λb hb=>(hf b hb).1⟩⟩
 done:=by
  intro X hP hw hK hc i O s Y H E I hf st hg;subst hP hw hK;obtain⟨xs,hq,hx⟩:=hg;obtain⟨its,rv,p,hz⟩:=I.tuple hq;obtain⟨f0,f1,f2,f3,f4,f5⟩:=hf it (by simp);have hl:=rv.length;exact wpAny_pyNext_tuple_end (I.ok.hd hc) st (show s.heap.IsTuple a its.toArray from p) (by simp;omega) λh' eb=>⟨rfl,I.turned (t':=s.toks) (λb o hb e=>eb b o hb e) f0 f1 f3 f4 f5⟩
 self:=λ_ _ _ _ _ st h=>wpAny_pyIter_tupleiter st h
def zlz{P:Program}{w:World}{K:qq}{tg:Expr}(it:Addr)(lo:Int)(n:Nat):Turn P w K tg (Itr lo n) [it] it (λi h=>IsRangeIter h it (lo+(i:Nat)*1) ((n:Int)-(i:Nat)) 1)where
 mem:=by simp
 obj:=λi h st b hb=>by
  have e:b=it:=by simpa using hb
  subst e;exact⟨_,st,λv z=>by
   have z':Data.fields _=Data.cell v:=z;cases z'⟩
 keep:=λi h h' st k=>k it (by simp) _ st
 item:=by
  intro X hP hw hK hc i O s Y H E I hf st hg;subst hP hw hK;obtain⟨f0,f1,f2,f3,f4,f5⟩:=hf it (by simp);have W:=Walks.range (prog:=X.prog) (w:=X.w) (I.ok.hd hc) it lo 1 n;refine W.item i s _ _ hg st λv h' tk hv st' kk=>?_;obtain⟨t,rfl⟩:=hv;have I1:Inv X O Y H {s with heap:=h',toks:=tk}:=I.turned (λb o hb e=>kk b o (by simpa using hb) e) f0 f1 f3 f4 f5;refine⟨_,rfl,zqq (s:={s with heap:=h',toks:=tk}) (n:="range_iterator") st' rfl rfl (by decide) ⟨.int (lo+i),H,I1,⟨t,?_⟩,⟨rfl,rfl⟩,st',λb hb=>(hf b hb).1⟩⟩;rw[Int.mul_one]
 done:=by
  intro X hP hw hK hc i O s Y H E I hf st hg;subst hP hw hK;obtain⟨f0,f1,f2,f3,f4,f5⟩:=hf it (by simp);exact wpAny_pyNext_range_end (I.ok.hd hc) st (by have:n<=i:=hg;omega) λh' eb=>⟨rfl,I.turned (t':=s.toks) (λb o hb e=>eb b o hb e) f0 f1 f3 f4 f5⟩
 self:=λ_ _ _ _ _ st h=>wpAny_pyIter_rangeiter st h
section
variable{X:Cx}{tg:Expr}
def zsj(K:qq)(tl:TE):TI:=λY H R=>tl Y H λx H1=>∃a,x=.ref a/\(∃xs,SqL K H1 a xs)/\R (Itl K a) H1
def zeR{l:Expr}{tl:TE}(hl:PE X l tl):PI X tg l (zsj X.K tl):=by
 intro O s Y H R I h;refine thn (hl O s Y H _ I h) λv s1 ⟨x,H1,I1,r1,q1⟩=>?_;obtain⟨a,e,⟨xs,hq⟩,q⟩:=q1;subst e;cases r1;obtain⟨its,rv,p,hz⟩:=I1.list hq;refine YB6 p.isList ?_;refine⟨s1.heap.objs.size,[s1.heap.objs.size],_,_,H1,rfl,I1.kept (t':=s1.toks) λb o e=>YAd _ e,zin a _,⟨_,YAr _ rfl,rfl,rfl⟩,λb hb=>?_,q⟩;have e:b=s1.heap.objs.size:=by simpa using hb
 subst e;exact I1.fpOk (YAn _) (I1.hok.fresh (YAn _))
def zoY{O:List (Addr×Obj)}{Y:St}{H:Hp}{s:Shared}{R:It->Hp->Prop}{E:Value->Shared->Prop}{lo hi:Int}{t u v:Tok}{tk:Nat}(I:Inv X O Y H s)(h1:-(2^62)<=lo)(h2:lo<2^62)(h3:-(2^62)<=hi)(h4:hi<2^62)
  (q:R (Itr lo (hi-lo).toNat) H):wpAny (model X.prog X.w) X.A (pyIter (.ref s.heap.objs.size)) (PIE X O Y tg R) E {s with heap:=s.heap.push {cls:=.type "range",data:=.fields #[.int lo t,.int hi u,.int 1 v]},toks:=tk}:=by
 refine wpAny_pyIter_range (IsRange.new ..) (small_one h1 h2 h3 h4) ?_;have I1:Inv X O Y H {s with heap:=s.heap.push {cls:=.type "range",data:=.fields #[.int lo t,.int hi u,.int 1 v]},toks:=tk}:=I.kept λb o e=>YAd _ e;refine⟨(s.heap.push {cls:=.type "range",data:=.fields #[.int lo t,.int hi u,.int 1 v]}).objs.size,[(s.heap.push {cls:=.type "range",data:=.fields #[.int lo t,.int hi u,.int 1 v]}).objs.size],_,_,H,rfl,
  I1.kept (t':=tk) λb o e=>YAd _ e,zlz _ lo (hi-lo).toNat,?_,λb hb=>?_,q⟩
 .have e1:lo+((0:Nat):Int)*1=lo:=by simp
  have e2:(((hi-lo).toNat:Nat):Int)-((0:Nat):Int)=Builtin.Range.rangeSize lo hi 1:=by rw[rangeSize_one];split<;>omega
  show IsRangeIter _ _ (lo+((0:Nat):Int)*1) ((((hi-lo).toNat:Nat):Int)-((0:Nat):Int)) 1;rw[e1,e2];exact YAr _ rfl
 .have e:b=(s.heap.push {cls:=.type "range",data:=.fields #[.int lo t,.int hi u,.int 1 v]}).objs.size:=by simpa using hb
  subst e;exact I1.fpOk (YAn _) (I1.hok.fresh (YAn _))
def zsI(ta:TA):TI:=λY H R=>ta Y H λvs H1=>∃j:Int,vs=[.int j]/\-(2^62)<=j/\j<2^62/\R (Itr 0 j.toNat) H1
def zfP{a:Expr}{ta:TA}{p pos:Pos}(hg:Gl X "range")(hm:X.mg "range"=none)(ha:PA X [a] ta)(hs:starEach [a] X.env=[(false,eval a X.env)]:=by rfl):PI X tg (.Call (.Name "range" p) [a] [] pos) (zsI ta):=by
 intro O s Y H R I h;refine Call_ (zgA I hg hm boot_range (YBP (thn (ha pos O s Y H _ I h) λus s1 ⟨vs,H1,I1,r1,q1⟩=>?_) hs rfl));obtain⟨j,e,q1,q2,q⟩:=q1;subst e;cases r1 with
 |cons r rr=>
  cases rr;obtain⟨t,rfl⟩:=r;exact call_range_1 (zoY I1 (by omega) (by omega) q1 q2 (by simpa using q))
noncomputable def tFor(wi:TI)(g:TG)(tb:TS):TS:=λD Y H=>wi Y H λJ H1=>∃W:Nat->Nat->St->Hp->Prop,(∃m,W 0 m Y H1)/\∀i m Y H,W i m Y H ->
 (J.stop i H/\D.nx Y H)\/(J.go i H/\∃N:St->Hp->Prop,(∀ Y' H',N Y' H'->∃m',m'<m/\W (i+1) m' Y' H')/\∀x H',J.yld i H x H'->g x Y H' λY2 H2=>tb {D with nx:=N,ct:=N,bk:=D.nx} Y2 H2)
def ze5(fp:List Addr)(h:Heap):List (Addr×Obj):=fp.filterMap λb=>(h.get? b).map λo=>(b,o)
def zbe{fp:List Addr}{h:Heap}{b:Addr}{o:Obj}(hb:b∈fp)(e:h.get? b=some o):(b,o)∈ze5 fp h:=List.mem_filterMap.mpr ⟨b,hb,by rw[e];rfl⟩
def znk(hp:p∈ze5 fp h):p.1∈fp/\h.get? p.1=some p.2:=by
 obtain⟨b,hb,e⟩:=List.mem_filterMap.mp hp;cases q:h.get? b with
 |none=>rw[q]at e;cases e
 |some o=>
  rw[q]at e;have e':(b,o)=p:=Option.some.inj e;subst e';exact⟨hb,q⟩
def Inv.pinned{O:List (Addr×Obj)}{Y:St}{H:Hp}{s:Shared}{fp:List Addr}(I:Inv X O Y H s)(hf:∀b∈fp,FpOk X O H b)(ho:∀b∈fp,∃o,s.heap.get? b=some o/\∀v,o.data≠.cell v):Inv X (O++ze5 fp s.heap) Y H s:=
 I.pins_of λp hp=>(YAm.mp hp).elim (λz=>I.pin p (YAp _ z)) λz=>by
  obtain⟨hb,e⟩:=znk z;obtain⟨f0,f1,f2,_⟩:=hf p.1 hb;obtain⟨o,e',d⟩:=ho p.1 hb;rw[e]at e';cases e';exact⟨e,f0,f1,f2,d⟩
def Inv.unpinned{O pl:List (Addr×Obj)}{Y:St}{H:Hp}{s:Shared}(I:Inv X (O++pl) Y H s):Inv X O Y H s:=I.pins_of λp hp=>I.pin p (YAp _ (YAy _ hp))
def zey{iter:Expr}{body:List Stmt}{wi:TI}{g:TG}{tb:TS}{pos:Pos}(hp:PassesOwn (model X.prog X.w) X.A X.env X.xe)(hc:X.calm=true)(hi:PI X tg iter wi)(hg:PG X tg g)(hb:PSs X body tb)
  (hs:∀x,foldedSetIterable iter X.env x=pure x:=by intro _;rfl):PS X (.For tg iter body [] pos) (tFor wi g tb):=by
 intro O s Y H D I h;refine wpAny_For (thn (hi O s Y H _ I h) λv s1 h1=>thn h1 λitv s2 h2=>?_) hs;obtain⟨it,fp,tn,J,H2,e,I2,T,st2,f2,W,⟨m0,w0⟩,turn⟩:=h2;subst e
 -- what stays true of the iterator's objects through the loop
 have stat:∀{H':Hp},(∀b∈fp,H' b=none)->∀b∈fp,FpOk X O H' b:=λhn b hb=>⟨hn b hb,(f2 b hb).2⟩;refine codeAny_forLoop_any (λn s'=>∃i Y' H',Inv X O Y' H' s'/\tn i s'.heap/\(∀b∈fp,H' b=none)/\W i n Y' H') ?_ m0 ⟨0,Y,H2,I2,st2,λb hb=>(f2 b hb).1,w0⟩;rintro n s3 ⟨i,Y3,H3,I3,st3,fr3,w3⟩;rcases turn i n Y3 H3 w3 with⟨stop,qn⟩|⟨go,N,hN,step⟩
 .refine YB5 hp (thn (T.done X rfl rfl rfl hc i O s3 Y3 H3 X.xe I3 (stat fr3) st3 stop) λr s4 ⟨hr,I4⟩=>?_);subst hr;exact YC0 ⟨Y3,H3,I4,qn⟩
 .refine YB5 hp (thn (T.item X rfl rfl rfl hc i O s3 Y3 H3 X.xe I3 (stat fr3) st3 go) λr s4 ⟨u,hr,h4⟩=>?_);subst hr;refine YB5 hp (thn h4 λ_ s5 ⟨x,H5,I5,r5,y5,st5,fr5⟩=>?_);have I5':=I5.pinned (stat fr5) (T.obj _ _ st5);refine YB5 hp (thn (hg _ s5 Y3 H5 x u _ I5' r5 (step x H5 y5)) λ_ s6 ⟨Y6,H6,I6,q6⟩=>?_);refine YB5 hp (thn (hb _ s6 Y6 H6 _ I6 q6) λf s7 q7=>?_);have again:∀{Y7:St}{H7:Hp},Inv X (O++ze5 fp s5.heap) Y7 H7 s7->N Y7 H7->∃m,m<n/\∃i Y' H',Inv X O Y' H' s7/\tn i s7.heap/\(∀b∈fp,H' b=none)/\W i m Y' H':=λ{Y7 H7} I7 n7=>by
   obtain⟨m',hm,w7⟩:=hN Y7 H7 n7;refine⟨m',hm,i+1,Y7,H7,I7.unpinned,T.keep _ _ _ st5 λb hb o e=>(I7.pin (b,o) (YAp _ (YAp _ (zbe hb e)))).1,λb hb=>?_,w7⟩;obtain⟨o,e,d⟩:=T.obj _ _ st5 b hb;exact(I7.pin (b,o) (YAp _ (YAp _ (zbe hb e)))).2.1
  cases f with
  |next=>obtain⟨Y7,H7,I7,n7⟩:=q7;exact again I7 n7
  |cont=>obtain⟨Y7,H7,I7,n7⟩:=q7;exact again I7 n7
  |brk=>obtain⟨Y7,H7,I7,q7⟩:=q7;exact⟨Y7,H7,I7.unpinned,q7⟩
  |ret v=>obtain⟨x7,Y7,H7,I7,r7,q7⟩:=q7;exact⟨x7,Y7,H7,I7.unpinned,r7,q7⟩
end
def zfk{K:qq}{a:Addr}{xs:List V}{g:TG}{tb:TS}{D:Ends}{Y:St}{H:Hp}(Pv:Nat->St->Hp->Prop)(h0:Pv 0 Y H)(hl:∀i Y H,i<=xs.length->Pv i Y H->SqL K H a xs)
  (hs:∀i x Y H,xs[i]?=some x->Pv i Y H->g x Y H λY2 H2=>tb {D with nx:=Pv (i+1),ct:=Pv (i+1),bk:=D.nx} Y2 H2) (hd:∀ Y H,Pv xs.length Y H->D.nx Y H) :
  ∃W:Nat->Nat->St->Hp->Prop,(∃m,W 0 m Y H)/\∀i m Y H,W i m Y H ->
   ((Itl K a).stop i H/\D.nx Y H)\/((Itl K a).go i H/\∃N:St->Hp->Prop,(∀ Y' H',N Y' H'->∃m',m'<m/\W (i+1) m' Y' H')/\∀x H',(Itl K a).yld i H x H'->g x Y H' λY2 H2=>tb {D with nx:=N,ct:=N,bk:=D.nx} Y2 H2):=by
 refine⟨λi m Y H=>m=xs.length-i/\i<=xs.length/\Pv i Y H,⟨xs.length,by simp,YAH _,h0⟩,?_⟩;rintro i m Y H ⟨rfl,hi,p⟩;have q:=hl i Y H hi p;by_cases hlt:i<xs.length
 .refine .inr ⟨⟨xs,xs[i],q,by simp[hlt]⟩,Pv (i+1),λY' H' p'=>⟨xs.length-(i+1),by omega,rfl,hlt,p'⟩,λx H' y=>?_⟩;obtain⟨e,y⟩:=y;subst e;exact hs i x Y _ (y xs q) p
 .have e:i=xs.length:=by omega
  subst e;exact .inl ⟨⟨xs,q,YAn _⟩,hd Y H p⟩
def zmd{lo:Int}{n:Nat}{g:TG}{tb:TS}{D:Ends}{Y:St}{H:Hp}(Pv:Nat->St->Hp->Prop)(h0:Pv 0 Y H)
  (hs:∀i Y H,i<n->Pv i Y H->g (.int (lo+i)) Y H λY2 H2=>tb {D with nx:=Pv (i+1),ct:=Pv (i+1),bk:=D.nx} Y2 H2) (hd:∀ Y H,Pv n Y H->D.nx Y H) :
  ∃W:Nat->Nat->St->Hp->Prop,(∃m,W 0 m Y H)/\∀i m Y H,W i m Y H ->
   ((Itr lo n).stop i H/\D.nx Y H)\/((Itr lo n).go i H/\∃N:St->Hp->Prop,(∀ Y' H',N Y' H'->∃m',m'<m/\W (i+1) m' Y' H')/\∀x H',(Itr lo n).yld i H x H'->g x Y H' λY2 H2=>tb {D with nx:=N,ct:=N,bk:=D.nx} Y2 H2):=by
 refine⟨λi m Y H=>m=n-i/\i<=n/\Pv i Y H,⟨n,by simp,YAH _,h0⟩,?_⟩;rintro i m Y H ⟨rfl,hi,p⟩;by_cases hlt:i<n
 .refine .inr ⟨hlt,Pv (i+1),λY' H' p'=>⟨n-(i+1),by omega,rfl,hlt,p'⟩,λx H' y=>?_⟩;obtain⟨e,y⟩:=y;subst e y;exact hs i Y _ hlt p
 .have e:i=n:=by omega
  subst e;exact .inl ⟨YAn _,hd Y H p⟩
abbrev R2:=V->V->Hp->VK->Prop
def OpR(X:Cx)(f:Value->Value->Sem Value)(r:R2):Prop:=
 ∀(O:List (Addr×Obj))(s:Shared)(Y:St)(H:Hp)(x y:V)(v u:Value)(Q:VK),Inv X O Y H s->RelV x v->RelV y u->r x y H Q ->
  wpAny (model X.prog X.w) X.A (f v u) (EP X O Y Q) X.xe s
def UnR(X:Cx)(f:Value->Sem Value)(r:V->Hp->VK->Prop):Prop:=
 ∀(O:List (Addr×Obj))(s:Shared)(Y:St)(H:Hp)(x:V)(v:Value)(Q:VK),Inv X O Y H s->RelV x v->r x H Q ->
  wpAny (model X.prog X.w) X.A (f v) (EP X O Y Q) X.xe s
def CallR(X:Cx)(f:Value)(r:List V->Hp->VK->Prop):Prop:=
 ∀(O:List (Addr×Obj))(s:Shared)(Y:St)(H:Hp)(xs:List V)(us:List Value)(Q:VK),Inv X O Y H s->Vals xs us->r xs H Q ->
  wpAny (model X.prog X.w) X.A (call f us) (EP X O Y Q) X.xe s
def TruR(X:Cx)(r:V->Hp->(Bool->Hp->Prop)->Prop):Prop:=
 ∀(O:List (Addr×Obj))(s:Shared)(Y:St)(H:Hp)(x:V)(v:Value)(Q:Bool->Hp->Prop),Inv X O Y H s->RelV x v->r x H Q ->
  wpAny (model X.prog X.w) X.A (truthy v) (TP X O Y Q) X.xe s
def tOp(r:R2)(ta tb:TE):TE:=λY H Q=>ta Y H λx H1=>tb Y H1 λy H2=>r x y H2 Q
def tUn(r:V->Hp->VK->Prop)(ta:TE):TE:=λY H Q=>ta Y H λx H1=>r x H1 Q
def rI(C:Int->Int->Prop)(g:Int->Int->V):R2:=λx y H Q=>∃i j,x=.int i/\y=.int j/\C i j/\Q (g i j) H
def rI0(g:Int->Int->V):R2:=λx y H Q=>∃i j,x=.int i/\y=.int j/\Q (g i j) H
def rU(g:Int->V):V->Hp->VK->Prop:=λx H Q=>∃i,x=.int i/\Q (g i) H
section
variable{X:Cx}{a b c:Expr}{ta tb tc:TE}{pos:Pos}
def binT(ha:PE X a ta)(hb:PE X b tb){O:List (Addr×Obj)}{s:Shared}{Y:St}{H:Hp}{R:V->V->Hp->Prop}(I:Inv X O Y H s)
  (h:ta Y H λx H1=>tb Y H1 λy H2=>R x y H2) {Q:Value->Shared->Prop} {f:Value->Value->Sem Value}
  (hf:∀v u s2 x y H2,Inv X O Y H2 s2->RelV x v->RelV y u->R x y H2->wpAny (model X.prog X.w) X.A (f v u) Q X.xe s2) :
  wpAny (model X.prog X.w) X.A (eval a X.env) (λv s₁=>wpAny (model X.prog X.w) X.A (eval b X.env) (λu s₂=>wpAny (model X.prog X.w) X.A (f v u) Q X.xe s₂) X.xe s₁) X.xe s:=by
 refine thn (ha O s Y H _ I h) λv s1 ⟨x,H1,I1,r1,q1⟩=>?_;refine thn (hb O s1 Y H1 _ I1 q1) λu s2 ⟨y,H2,I2,r2,q2⟩=>?_;exact hf v u s2 x y H2 I2 r1 r2 q2
def zb8{op:Operator}{r:R2}(ho:OpR X (binaryOp op) r)(ha:PE X a ta)(hb:PE X b tb):PE X (.BinOp a op b pos) (tOp r ta tb):=by
 intro O s Y H Q I h;exact wpAny_BinOp (binT ha hb I h λv u s2 x y H2 I2 rx ry q=>ho O s2 Y H2 x y v u Q I2 rx ry q)
def zp9{op:UnaryOp}{r:V->Hp->VK->Prop}(ho:UnR X (unaryOp op) r)(ha:PE X a ta):PE X (.UnaryOp op a pos) (tUn r ta):=by
 intro O s Y H Q I h;exact UnaryOp_ (thn (ha O s Y H _ I h) λv s1 ⟨x,H1,I1,r1,q1⟩=>ho O s1 Y H1 x v Q I1 r1 q1)
def opI{f:Value->Value->Sem Value}{C:Int->Int->Prop}{g:Int->Int->Int}
  (rule:∀(i j:Int)(t u:Tok)(s:Shared)(Q:Value->Shared->Prop)(E:Value->Shared->Prop),C i j->Q (.int (g i j) s.toks) {s with toks:=s.toks+1}->wpAny (model X.prog X.w) X.A (f (.int i t) (.int j u)) Q E s) :
  OpR X f (rI C λi j=>.int (g i j)):=by
 intro O s Y H x y v u Q I rx ry h;obtain⟨i,j,rfl,rfl,hc,q⟩:=h;obtain⟨t,rfl⟩:=rx;obtain⟨t',rfl⟩:=ry;exact rule i j t t' s _ _ hc ⟨.int (g i j),H,I.tok _,⟨_,rfl⟩,q⟩
def opI0{f:Value->Value->Sem Value}{g:Int->Int->Int}
  (rule:∀(i j:Int)(t u:Tok)(s:Shared)(Q:Value->Shared->Prop)(E:Value->Shared->Prop),Q (.int (g i j) s.toks) {s with toks:=s.toks+1}->wpAny (model X.prog X.w) X.A (f (.int i t) (.int j u)) Q E s) :
  OpR X f (rI0 λi j=>.int (g i j)):=by
 intro O s Y H x y v u Q I rx ry h;obtain⟨i,j,rfl,rfl,q⟩:=h;obtain⟨t,rfl⟩:=rx;obtain⟨t',rfl⟩:=ry;exact rule i j t t' s _ _ ⟨.int (g i j),H,I.tok _,⟨_,rfl⟩,q⟩
def opB0{f:Value->Value->Sem Value}{g:Int->Int->Bool}
  (rule:∀(i j:Int)(t u:Tok)(s:Shared)(Q:Value->Shared->Prop)(E:Value->Shared->Prop),Q (.bool (g i j)) s->wpAny (model X.prog X.w) X.A (f (.int i t) (.int j u)) Q E s) :
  OpR X f (rI0 λi j=>.bl (g i j)):=by
 intro O s Y H x y v u Q I rx ry h;obtain⟨i,j,rfl,rfl,q⟩:=h;obtain⟨t,rfl⟩:=rx;obtain⟨t',rfl⟩:=ry;exact rule i j t t' s _ _ ⟨.bl (g i j),H,I,rfl,q⟩
def CDiv(i j:Int):Prop:=0<j/\j<1073741824
def CPow(i j:Int):Prop:=0<=j/\j<=1000000/\i.natAbs<2^64
def CMul(i j:Int):Prop:=(-(2^64)<i/\i<2^64)\/(-(2^64)<j/\j<2^64)
def CMul.ok{i j:Int}(h:CMul i j):IntMulOk i j:=by
 rcases h with⟨h1,h2⟩|⟨h1,h2⟩
 .exact .of_left (intBits_le_64 h1 h2)
 .exact .of_right (intBits_le_64 h1 h2)
def op_add:OpR X (binaryOp .Add) (rI0 λi j=>.int (i+j)):=opI0 λ_ _ _ _ _ _ _ q=>add_int q
def zm8:OpR X (binaryOp .Sub) (rI0 λi j=>.int (i-j)):=opI0 λ_ _ _ _ _ _ _ q=>sub_int q
def op_mul:OpR X (binaryOp .Mult) (rI CMul λi j=>.int (i*j)):=opI λ_ _ _ _ _ _ _ hc q=>mul_int q hc.ok
def zqw:OpR X (binaryOp .FloorDiv) (rI CDiv λi j=>.int (i / j)):=opI λi j _ _ _ _ _ hc q=>by
 have h1:(0:Int)<j:=hc.1;have h2:j<1073741824:=hc.2;exact floordiv_int (by omega) (by rw[Int.fdiv_eq_ediv_of_nonneg i (by omega)];exact q) (.inl (PyProof.noPylong_small (by omega)))
def zgY:OpR X (binaryOp .Mod) (rI (λ_ j=>0<j) λi j=>.int (i % j)):=opI λi j _ _ _ _ _ hc q=>by
 have h1:(0:Int)<j:=hc;exact mod_int' (by omega) (by rw[Int.fmod_eq_emod_of_nonneg i (by omega)];exact q)
def znv:OpR X (binaryOp .Pow) (rI CPow λi j=>.int (i^j.toNat)):=opI λ_ _ _ _ _ _ _ hc q=>pow_int_small hc.1 hc.2.1 hc.2.2 q
def unI{f:Value->Sem Value}{g:Int->Int}
  (rule:∀(i:Int)(t:Tok)(s:Shared)(Q:Value->Shared->Prop)(E:Value->Shared->Prop),Q (.int (g i) s.toks) {s with toks:=s.toks+1}->wpAny (model X.prog X.w) X.A (f (.int i t)) Q E s) :
  UnR X f (rU λi=>.int (g i)):=by
 intro O s Y H x v Q I rx h;obtain⟨i,rfl,q⟩:=h;obtain⟨t,rfl⟩:=rx;exact rule i t s _ _ ⟨.int (g i),H,I.tok _,⟨_,rfl⟩,q⟩
def zlK:UnR X (unaryOp .USub) (rU λi=>.int (-i)):=unI λ_ _ _ _ _ q=>neg_int q
end
noncomputable def scal:V->V->Bool
 |.non,.non=>true|.non,.int _=>true|.int _,.non=>true|.non,.bl _=>true|.bl _,.non=>true|.non,.str _=>true|.str _,.non=>true
 |.int _,.int _=>true|.bl _,.bl _=>true|.str _,.str _=>true|.byt _,.byt _=>true
 |.int _,.str _=>true|.str _,.int _=>true|.bl _,.str _=>true|.str _,.bl _=>true
 |_,_=>false
def rEq:R2:=λx y H Q=>scal x y=true/\Q (.bl (decide (x=y))) H
def rNe:R2:=λx y H Q=>scal x y=true/\Q (.bl (!decide (x=y))) H
def zm5:decide (V.int i=V.int j)=(i==j):=by
 rw[YCA]
 simp
def dec_bl:decide (V.bl i=V.bl j)=(i==j):=by
 rw[YCA]
 simp
def zlM:decide (V.str i=V.str j)=(i==j):=by
 rw[YCA]
 simp
def zmH:decide (V.byt i=V.byt j)=(i.toList==j.toList):=by
 rw[YCA];cases i;cases j
 simp
section
variable{X:Cx}{a b c:Expr}{ta tb tc:TE}{pos:Pos}
def fin_bl(I:Inv X O Y H s)(q:Q (.bl k) H)(e:k=k'):EP X O Y Q (.bool k') s:=by
 subst e;exact⟨.bl k,H,I,rfl,q⟩
def zpz:OpR X (compareOp .Eq) rEq:=by
 intro O s Y H x y v u Q I rx ry h;obtain⟨hs,q⟩:=h;cases x with
 |non=>
  cases rx;cases y with
  |non=>cases ry;exact PySem.EqNone.eq_none_none (fin_bl I q (by simp))
  |bl j=>cases ry;exact PySem.EqNone.eq_none_bool (fin_bl I q (by simp))
  |int j=>obtain⟨t',rfl⟩:=ry;exact PySem.EqNone.eq_none_int (fin_bl I q (by simp))
  |str j=>obtain⟨t',rfl⟩:=ry;exact PySem.EqNone.eq_none_str (fin_bl I q (by simp))
  |_=>exact absurd (show false=true from hs) YAA
 |bl i=>
  cases rx;cases y with
  |non=>cases ry;exact PySem.EqNone.eq_bool_none (fin_bl I q (by simp))
  |bl j=>cases ry;exact eq_bool (fin_bl I q dec_bl)
  |str j=>obtain⟨t',rfl⟩:=ry;exact PySem.EqMixed.eq_bool_str (fin_bl I q (by simp))
  |_=>exact absurd (show false=true from hs) YAA
 |int i=>
  obtain⟨t,rfl⟩:=rx;cases y with
  |non=>cases ry;exact PySem.EqNone.eq_int_none (fin_bl I q (by simp))
  |int j=>obtain⟨t',rfl⟩:=ry;exact eq_int (fin_bl I q zm5)
  |str j=>obtain⟨t',rfl⟩:=ry;exact PySem.EqMixed.eq_int_str (fin_bl I q (by simp))
  |_=>exact absurd (show false=true from hs) YAA
 |str i=>
  obtain⟨t,rfl⟩:=rx;cases y with
  |non=>cases ry;exact PySem.EqNone.eq_str_none (fin_bl I q (by simp))
  |bl j=>cases ry;exact PySem.EqMixed.eq_str_bool (fin_bl I q (by simp))
  |int j=>obtain⟨t',rfl⟩:=ry;exact PySem.EqMixed.eq_str_int (fin_bl I q (by simp))
  |str j=>obtain⟨t',rfl⟩:=ry;exact eq_str (fin_bl I q zlM)
  |_=>exact absurd (show false=true from hs) YAA
 |byt i=>
  obtain⟨t,rfl⟩:=rx;cases y with
  |byt j=>obtain⟨t',rfl⟩:=ry;exact PySem.W.eq_bytes (fin_bl I q zmH)
  |_=>exact absurd (show false=true from hs) YAA
 |_=>cases y<;>exact absurd (show false=true from hs) YAA
def zsA:OpR X (compareOp .NotEq) rNe:=by
 intro O s Y H x y v u Q I rx ry h;obtain⟨hs,q⟩:=h;cases x with
 |non=>
  cases rx;cases y with
  |non=>cases ry;exact PySem.EqNone.ne_none_none (fin_bl I q (by simp))
  |bl j=>cases ry;exact PySem.EqNone.ne_none_bool (fin_bl I q (by simp))
  |int j=>obtain⟨t',rfl⟩:=ry;exact PySem.EqNone.ne_none_int (fin_bl I q (by simp))
  |str j=>obtain⟨t',rfl⟩:=ry;exact PySem.EqNone.ne_none_str (fin_bl I q (by simp))
  |_=>exact absurd (show false=true from hs) YAA
 |bl i=>
  cases rx;cases y with
  |non=>cases ry;exact PySem.EqNone.ne_bool_none (fin_bl I q (by simp))
  |bl j=>cases ry;exact ne_bool (fin_bl I q (congrArg not dec_bl))
  |str j=>obtain⟨t',rfl⟩:=ry;exact PySem.EqMixed.ne_bool_str (fin_bl I q (by simp))
  |_=>exact absurd (show false=true from hs) YAA
 |int i=>
  obtain⟨t,rfl⟩:=rx;cases y with
  |non=>cases ry;exact PySem.EqNone.ne_int_none (fin_bl I q (by simp))
  |int j=>obtain⟨t',rfl⟩:=ry;exact ne_int (fin_bl I q (congrArg not zm5))
  |str j=>obtain⟨t',rfl⟩:=ry;exact PySem.EqMixed.ne_int_str (fin_bl I q (by simp))
  |_=>exact absurd (show false=true from hs) YAA
 |str i=>
  obtain⟨t,rfl⟩:=rx;cases y with
  |non=>cases ry;exact PySem.EqNone.ne_str_none (fin_bl I q (by simp))
  |bl j=>cases ry;exact PySem.EqMixed.ne_str_bool (fin_bl I q (by simp))
  |int j=>obtain⟨t',rfl⟩:=ry;exact PySem.EqMixed.ne_str_int (fin_bl I q (by simp))
  |str j=>obtain⟨t',rfl⟩:=ry;exact ne_str (fin_bl I q (congrArg not zlM))
  |_=>exact absurd (show false=true from hs) YAA
 |byt i=>
  obtain⟨t,rfl⟩:=rx;cases y with
  |byt j=>obtain⟨t',rfl⟩:=ry;exact PySem.W.ne_bytes (fin_bl I q (congrArg not zmH))
  |_=>exact absurd (show false=true from hs) YAA
 |_=>cases y<;>exact absurd (show false=true from hs) YAA
def znY:OpR X (compareOp .Lt) (rI0 λi j=>.bl (decide (i<j))):=opB0 λ_ _ _ _ _ _ _ q=>lt_int q
def zss:OpR X (compareOp .LtE) (rI0 λi j=>.bl (decide (i<=j))):=opB0 λ_ _ _ _ _ _ _ q=>le_int q
def zqb:OpR X (compareOp .Gt) (rI0 λi j=>.bl (decide (j<i))):=opB0 λ_ _ _ _ _ _ _ q=>gt_int q
def zsN:OpR X (compareOp .GtE) (rI0 λi j=>.bl (decide (j<=i))):=opB0 λ_ _ _ _ _ _ _ q=>ge_int q
def OpR.or{f:Value->Value->Sem Value}{r r':R2}(h:OpR X f r)(h':OpR X f r'):OpR X f (λx y H Q=>r x y H Q\/r' x y H Q):=by
 intro O s Y H x y v u Q I rx ry q;rcases q with q|q
 .exact h O s Y H x y v u Q I rx ry q
 .exact h' O s Y H x y v u Q I rx ry q
def zcj(b:Expr)(h:op≠.In:=by decide)(h2:op≠.NotIn:=by decide):behindInMarks op b=false:=by
 have e1:(op==CmpOp.In)=false:=by cases op<;>first|rfl|exact absurd rfl h
 have e2:(op==CmpOp.NotIn)=false:=by cases op<;>first|rfl|exact absurd rfl h2
 cases b<;>simp[behindInMarks,e1,e2]
def zmz(ho:OpR X (compareOp op) r)(ha:PE X a ta)(hb:PE X b tb)(hm:behindInMarks op b=false):PE X (.Compare a [op] [b] pos) (tOp r ta tb):=by
 intro O s Y H Q I h;exact wpAny_Compare1 (binT ha hb I h λv u s2 x y H2 I2 rx ry q=>ho O s2 Y H2 x y v u Q I2 rx ry q) hm
def zqx(t:TE):TT:=λY H Q=>t Y H λx H'=>∃k,x=.bl k/\Q k H'
def zcx{op:CmpOp}{r:R2}(ho:OpR X (compareOp op) r)(ha:PE X a ta)(hb:PE X b tb)(hm:behindInMarks op b=false):PT X (.Compare a [op] [b] pos) (zqx (tOp r ta tb)):=by
 intro O s Y H Q I h;refine wpAny_isTrue_Compare1 (thn (ha O s Y H _ I h) λv s1 ⟨x,H1,I1,r1,q1⟩=>thn (hb O s1 Y H1 _ I1 q1) λu s2 ⟨y,H2,I2,r2,q2⟩=>
  thn (ho O s2 Y H2 x y v u _ I2 r1 r2 q2) λc s3 ⟨z,H3,I3,r3,k,e,q3⟩=>?_) hm
 subst e;cases r3;exact YBl ⟨H3,I3,q3⟩
def zo3(r r':R2)(ta tb tc:TE):TE:=λY H Q=>ta Y H λx H1=>tb Y H1 λy H2=>r x y H2 λz H3=>∃k,z=.bl k /\
 (if k=true then tc Y H3 λw' H4=>r' y w' H4 Q else Q (.bl false) H3)
def zoh{op op':CmpOp}{r r':R2}(ho:OpR X (compareOp op) r)(ho':OpR X (compareOp op') r')(ha:PE X a ta)(hb:PE X b tb)(hc:PE X c tc)
  (hm:lastMarks [op,op'] [b,c]=false:=by with_unfolding_all rfl):PT X (.Compare a [op,op'] [b,c] pos) (zqx (zo3 r r' ta tb tc)):=by
 intro O s Y H Q I h;refine isTrue_chain (thn (ha O s Y H _ I h) λv s1 ⟨x,H1,I1,r1,q1⟩=>test_link (thn (hb O s1 Y H1 _ I1 q1) λu s2 ⟨y,H2,I2,r2,q2⟩=>
  thn (ho O s2 Y H2 x y v u _ I2 r1 r2 q2) λd s3 ⟨z,H3,I3,r3,k,e,q3⟩=>?_)) hm
 subst e;cases r3;refine YBl ?_;cases k with
 |false=>
  obtain⟨k',e',q'⟩:=q3;cases e';exact ite_ff ⟨H3,I3,q'⟩
 |true=>
  refine ite_tt (test_last (thn (hc O s3 Y H3 _ I3 q3) λw' s4 ⟨z',H4,I4,r4,q4⟩=>thn (ho' O s4 Y H4 y z' u w' _ I4 r2 r4 q4) λd' s5 ⟨z2,H5,I5,r5,k2,e2,q5⟩=>?_));subst e2;cases r5;exact YBl ⟨H5,I5,q5⟩
noncomputable def TruV(K:qq)(x:V)(H:Hp)(k:Bool):Prop:=
 match x with
 |.non=>k=false
 |.bl b=>k=b
 |.int i=>k=(i != 0)
 |.str y=>y.length<=sizeLine/\k=((y.length:Int) != 0)
 |.byt y=>y.size<=sizeLine/\k=((y.size:Int) != 0)
 |.ref p=>(∃xs,SqL K H p xs/\k = !xs.isEmpty)\/(∃xs,SqT K H p xs/\k = !xs.isEmpty)\/∃kvs,H p=some (.dK kvs)/\k = !kvs.isEmpty
 |_=>False
def zld{κ:Type}{kvs:List (κ×V)}{vs:List (κ×Value)}(r:KV kvs vs):(!vs.isEmpty) = !kvs.isEmpty:=by
 cases r<;>rfl
def zgV{xs:List V}{its:List Value}(r:Vals xs its):(!its.toArray.isEmpty) = !xs.isEmpty:=by
 cases r<;>simp
def zfE:(sizeLine:Nat)<2^63:=by rw[YAP];decide
def zrj:TruR X (λx H Q=>∃k,TruV X.K x H k/\Q k H):=by
 intro O s Y H x v Q I rx h;obtain⟨k,e,q⟩:=h;have hl:=zfE;have hs:sizeLine=16777216:=YAP;cases x with
 |non=>
  cases rx;have e':k=false:=e;subst e';exact truthy_none ⟨H,I,q⟩
 |bl b=>
  cases rx;have e':k=b:=e;subst e';exact YBl ⟨H,I,q⟩
 |int i=>
  obtain⟨t,rfl⟩:=rx;have e':k=(i != 0):=e;subst e';exact PySem.P.truthy_int ⟨H,I,q⟩
 |str y=>
  obtain⟨t,rfl⟩:=rx;obtain⟨hy,e'⟩:y.length<=sizeLine/\k=((y.length:Int) != 0):=e;subst e';exact PySem.P.truthy_str (by omega) ⟨H,I.tok _,q⟩
 |byt y=>
  obtain⟨t,rfl⟩:=rx;obtain⟨hy,e'⟩:y.size<=sizeLine/\k=((y.size:Int) != 0):=e;subst e';exact PySem.W.truthy_bytes (by omega) ⟨H,I.tok _,q⟩
 |ref p=>
  cases rx;have e':(∃xs,SqL X.K H p xs/\k = !xs.isEmpty)\/(∃xs,SqT X.K H p xs/\k = !xs.isEmpty)\/∃kvs,H p=some (.dK kvs)/\k = !kvs.isEmpty:=e;rcases e' with⟨xs,hx,e'⟩|⟨xs,hx,e'⟩|⟨kvs,hx,e'⟩
  .subst e';obtain⟨its,r,pl,hz⟩:=I.list hx;have hlen:=r.length;exact wpAny_truthy_list pl.isList (by simp only[YAu];omega) ⟨H,I.tok _,by rw[zgV r];exact q⟩
  .subst e';obtain⟨its,r,pl,hz⟩:=I.tuple hx;have hlen:=r.length;exact truthy_tuple pl (by simp only[YAu];omega) ⟨H,I.tok _,by rw[zgV r];exact q⟩
  .subst e';obtain⟨hz,hS,vs,r,m⟩:kvs.length<=sizeLine/\(p==sysModules)=false/\∃vs,KV kvs vs/\s.heap.DictOf (zaH X.prog X.w) p vs:=I.hok p _ hx;have hlen:kvs.length=vs.length:=Paired.length r;exact wpAny_truthy_dict hS m (by omega) ⟨H,I.tok _,by rw[zld r];exact q⟩
 |_=>exact(show False from e).elim
def zko(ha:PE X a ta)(he:∀whole,isTrue a X.env whole=(do let v <-whole;standAt a.pos;holding [v] (truthy v))) :
  PT X a (λY H Q=>ta Y H λx H'=>∃k,TruV X.K x H' k/\Q k H'):=by
 intro O s Y H Q I h;exact isTrue_plain (thn (ha O s Y H _ I h) λv s1 ⟨x,H1,I1,r1,q1⟩=>zrj O s1 Y H1 x v Q I1 r1 q1) (he _)
def zlw:OpR X (binaryOp .Add) (λx y H Q=>∃i j,x=.str i/\y=.str j/\i.length+j.length<=sizeLine/\Q (.str (i++j)) H):=by
 intro O s Y H x y v u Q I rx ry h;obtain⟨i,j,rfl,rfl,hz,q⟩:=h;obtain⟨t,rfl⟩:=rx;obtain⟨t',rfl⟩:=ry;exact add_str (λt' tk=>⟨.str (i++j),H,I.tok _,⟨_,rfl⟩,q⟩) hz
def zda(r:Vals [x] us):∃u,us=[u]/\RelV x u:=by
 cases r with
 |cons r1 r2=>cases r2;exact⟨_,rfl,r1⟩
def zoD(r:Vals [x,y] us):∃u w',us=[u,w']/\RelV x u/\RelV y w':=by
 cases r with
 |cons r1 r2=>
  cases r2 with
  |cons r3 r4=>cases r4;exact⟨_,_,rfl,r1,r3⟩
def zii(hc:X.calm=true):CallR X (.builtin "min") (λxs H Q=>∃i j,xs=[.int i,.int j]/\Q (.int (if j<i then j else i)) H):=by
 intro O s Y H xs us Q I r h;obtain⟨i,j,rfl,q⟩:=h;obtain⟨u,w',rfl,⟨t,rfl⟩,⟨t',rfl⟩⟩:=zoD r;refine min_two_ints (I.ok.hd hc) λh' tk k=>⟨_,H,I.kept k,?_,q⟩;by_cases hj:j<i
 .rw[if_pos hj,if_pos hj];exact⟨_,rfl⟩
 .rw[if_neg hj,if_neg hj];exact⟨_,rfl⟩
def zl5:CallR X (.type "int") (λxs H Q=>(∃i,xs=[.int i]/\Q (.int i) H)\/∃k,xs=[.bl k]/\Q (.int (if k then 1 else 0)) H):=by
 intro O s Y H xs us Q I r h;rcases h with⟨i,rfl,q⟩|⟨k,rfl,q⟩
 .obtain⟨u,rfl,t,rfl⟩:=zda r;exact call_int_int ⟨.int i,H,I,⟨_,rfl⟩,q⟩
 .obtain⟨u,rfl,r1⟩:=zda r;cases r1;exact call_int_bool ⟨.int (if k then 1 else 0),H,I.tok _,⟨_,rfl⟩,q⟩
end
def RelO.some_of(r:RelO (some v) o):∃u,o=some u/\RelV v u:=by
 cases o with
 |none=>exact(show False from r).elim
 |some u=>exact⟨u,rfl,r⟩
structure Room(k:Nat)(A:Around):Prop where
 hd:A.handled=none
 dp:A.depth+3*k+5<recursionLimit
 un:A.units+16*k+200<cLine
def Room.mono(r:Room k A)(h:j<=k):Room j A:=⟨r.hd,by have:=r.dp;omega,by have:=r.un;omega⟩
theorem Room.deeper{k:Nat}{A:Around}(r:Room (k+1) A)(env:Env):Room k (A.deeper env):=
 ⟨r.hd,by have:=r.dp;show A.depth+1+3*k+5<_;omega,by have:=r.un;show A.units+3+16*k+200<_;omega⟩
theorem Room.depth{k:Nat}{A:Around}(r:Room k A):A.depth<recursionLimit:=by have:=r.dp;omega
theorem Room.units(r:Room k A):A.units+64<cLine:=by have:=r.un;omega
def tNil:TA:=λ_ H Q=>Q [] H
def zsP(ta:TE)(tr:TA):TA:=λY H Q=>ta Y H λx H1=>tr Y H1 λxs H2=>Q (x::xs) H2
section
variable{X:Cx}{e:Expr}{es:List Expr}{te:TE}{t:TA}{pos:Pos}
def zav:PA X [] tNil:=λ_ _ _ _ H Q I h=>Calls.spliced_nil ⟨[],H,I,.nil,h⟩
def zah(ha:PE X e te)(hr:PA X es t)(hs:starEach (e::es) X.env=(false,eval e X.env)::starEach es X.env:=by rfl):PA X (e::es) (zsP te t):=by
 intro pos O s Y H Q I h;rw[hs];show wpAny _ _ (spliced ((false,eval e X.env)::backTo pos (starEach es X.env))) _ _ s;refine Calls.spliced_cons (thn (ha O s Y H _ I h) λu s1 ⟨x,H1,I1,r1,q1⟩=>?_);exact thn (hr pos O s1 Y H1 _ I1 q1) λus s2 ⟨xs,H2,I2,r2,q2⟩=>⟨x::xs,H2,I2,.cons r1 r2,q2⟩
def tTup(t:TA):TE:=λY H Q=>t Y H λxs H1=>xs.length<=sizeLine/\∀p,H1 p=none->Q (.ref p) (upd H1 p (.tup xs))
def tLst(t:TA):TE:=λY H Q=>t Y H λxs H1=>xs.length<=sizeLine/\∀p,H1 p=none->Q (.ref p) (upd H1 p (.lst xs))
def zd5{x1}(h:PA X es t):PE X (.Tuple es x1 pos) (tTup t):=by
 intro O s Y H Q I hq;refine wpAny_Tuple_spliced (thn (h pos O s Y H _ I hq) λus s1 ⟨xs,H1,I1,r,z,q⟩=>⟨by rw[<-r.length];exact z,?_⟩);have hf:H1 s1.heap.objs.size=none:=I1.hok.fresh (YAn _);refine⟨.ref s1.heap.objs.size,upd H1 s1.heap.objs.size (.tup xs),I1.laid (t':=s1.toks) (λb u e=>YAd _ e) (YAn _) ?_,rfl,q _ hf⟩;exact⟨z,us,r,⟨_,YAr _ rfl,rfl,_,rfl⟩⟩
def zd1(h:PA X es t):PE X (.List es pos) (tLst t):=by
 intro O s Y H Q I hq;refine wpAny_List_spliced (thn (h pos O s Y H _ I hq) λus s1 ⟨xs,H1,I1,r,z,q⟩=>⟨by rw[<-r.length];exact z,?_⟩);have hf:H1 s1.heap.objs.size=none:=I1.hok.fresh (YAn _);refine⟨.ref s1.heap.objs.size,upd H1 s1.heap.objs.size (.lst xs),I1.laid (t':=s1.toks) (λb u e=>YAd _ e) (YAn _) ?_,rfl,q _ hf⟩;exact⟨z,us,0,r,YAr _ rfl⟩
end
abbrev Sp:=List V->Hp->VK->XK->Prop
abbrev CXT:=List Env->Hp->Shared->XK->Value->Shared->Prop
structure Env0(P:Program)(w:World)(K:qq)(mg:Str->Option Value)(base:Heap)(A:Around)(outer:List Env)(s:Shared)(H:Hp):Prop where
 frames:A.frames=some outer
 mod:Mod K mg base
 bs:∀b o,base.get? b=some o->s.heap.get? b=some o/\H b=none
 bsz:base.objs.size<=s.heap.objs.size
 funs:s.heap.FunFrames base outer
 frf:∀b∈frs outer,H b=none
 hok:HOk P w H s.heap
 bare:AllBare s.gens
def CE(outer:List Env)(P:Program)(w:World)(H:Hp)(s:Shared)(Q:VK)(u:Value)(s':Shared):Prop:=
 ∃v H',s'.os=s.os/\AllBare s'.gens/\Un (frs outer) [] H H' s.heap s'.heap/\HOk P w H' s'.heap/\RelV v u/\Q v H'
def CR(CX:CXT)(outer:List Env)(P:Program)(w:World)(H:Hp)(s:Shared)(Q:VK)(E:XK)(r:Result)(s':Shared):Prop:=
 match r with
 |.ok (.ret u)=>CE outer P w H s Q u s'
 |.ok _=>False
 |.error e=>CX outer H s E e s'
structure FnOk(P:Program)(w:World)(K:qq)(mg:Str->Option Value)(base:Heap)(CX:CXT)(k:Nat)(f:Addr)(fd:FuncData)(ps:List Str)(sp:Sp):Prop where
 len:∀vs H Q E,sp vs H Q E->vs.length=ps.length
 run:∀(A:Around)(outer:List Env)(s:Shared)(H:Hp)(args:Args)(us:List Value)(vs:List V)(Q:VK)(E:XK),Room k A->Env0 P w K mg base A outer s H->BindsTo s fd args (ps.zip us)->Vals vs us->sp vs H Q E ->
  codeAny (model P w) A (.call (.ref f) args) (CR CX outer P w H s Q E) s
def FnOk.imp{P:Program}{w:World}{K:qq}{mg:Str->Option Value}{base:Heap}{CX:CXT}{k:Nat}{f:Addr}{fd:FuncData}{ps:List Str}{sp sp':Sp}(F:FnOk P w K mg base CX k f fd ps sp)
  (h:∀vs H Q E,sp' vs H Q E->sp vs H Q E):FnOk P w K mg base CX k f fd ps sp':=
 ⟨λvs H Q E q=>F.len vs H Q E (h _ _ _ _ q),λA outer s H args us vs Q E hr he hb hv hs=>F.run A outer s H args us vs Q E hr he hb hv (h _ _ _ _ hs)⟩
section
variable{X:Cx}{O:List (Addr×Obj)}{Y:St}{H:Hp}{s s':Shared}
def Inv.env0(I:Inv X O Y H s):Env0 X.prog X.w X.K X.mg X.base X.A X.stack s H:=
 ⟨I.ok.frames,I.ok.mod,I.bs,YAQ I.ok.bsz I.sz,I.stack,I.stkFree,I.hok,I.bare⟩
def Inv.after(I:Inv X O Y H s)(h:CE X.stack X.prog X.w H s Q u s'):EP X O Y Q u s':=by
 obtain⟨v,H',os,bare,un,hok,r,q⟩:=h;obtain⟨hh,g,d,t,os'⟩:=s';obtain rfl:os'=s.os:=os;exact⟨v,H',I.call (h':=hh) (g':=g) (d':=d) (t':=t) (ch:=[]) un hok bare (λb z=>absurd z (by simp)),r,q⟩
end
def zqL(sp:Sp)(dvs:List V)(E:XK)(t:TA):TE:=λY H Q=>t Y H λvs H1=>sp (vs++dvs) H1 Q E
def Binds(K:qq)(fd:FuncData)(ps:List Str)(ds:List Value):Prop:=
 ∀(s:Shared)(us:List Value),K.In s.heap->(us++ds).length=ps.length->BindsTo s fd ⟨us,[]⟩ (ps.zip (us++ds))
def Binds.all{K:qq}{fd:FuncData}{ps:List Str}(h:∀us:List Value,us.length=ps.length->bindArgs fd ⟨us,[]⟩=pure (ps.zip us)):Binds K fd ps []:=λs us _ hl=>by
 rw[YAN]at hl ⊢;exact .of_eq (h us hl)
def znJ(CX:CXT)(X:Cx)(E:XK):Prop:=∀(O:List (Addr×Obj))(Y:St)(H:Hp)(s:Shared)(e:Value)(s':Shared),Inv X O Y H s->CX X.stack H s E e s'->X.xe e s'
section
variable{X:Cx}{CX:CXT}{k:Nat}{f C:Addr}{fd:FuncData}{ps:List Str}{sp:Sp}{dvs:List V}{ds:List Value}{E:XK}{x m:Str}{p pos apos:Pos}{e o:Expr}{es:List Expr}{ta:TE}{t:TA}
def zru{O:List (Addr×Obj)}{Y:St}{H:Hp}{s:Shared}{Q:VK}{us:List Value}{vs:List V}(F:FnOk X.prog X.w X.K X.mg X.base CX k f fd ps sp)(hr:Room k X.A)(hb:Binds X.K fd ps ds)(hd:Vals dvs ds)(hx:znJ CX X E)
  (I:Inv X O Y H s) (r:Vals vs us) (h:sp (vs++dvs) H Q E):wpAny (model X.prog X.w) X.A (call (.ref f) us) (EP X O Y Q) X.xe s:=by
 have r2:Vals (vs++dvs) (us++ds):=r.append hd;have hl:(us++ds).length=ps.length:=by rw[<-r2.length];exact F.len _ _ _ _ h
 refine wpAny_call (YDd (F.run X.A X.stack s H ⟨us,[]⟩ (us++ds) (vs++dvs) Q E hr I.env0 (hb s us I.kIn hl) r2 h) λr s' hq=>?_);cases r with
 |error e=>exact hx O Y H s e s' I hq
 |ok fl=>
  cases fl with
  |ret u=>exact I.after hq
  |next=>exact False.elim hq
  |brk=>exact False.elim hq
  |cont=>exact False.elim hq
def zfD(F:FnOk X.prog X.w X.K X.mg X.base CX k f fd ps sp)(hr:Room k X.A)(hg:Gl X x)(hm:X.mg x=some (.ref f))(hk:PySem.W.keepIn X.K (.ref f)=true)(hb:Binds X.K fd ps ds)(hd:Vals dvs ds)(hx:znJ CX X E)
  (ha:PA X (e::es) t) (hdb:(x==("__debug__":Str))=false:=by decide) (he:starEach (e::es) X.env=(false,eval e X.env)::starEach es X.env:=by rfl) (hpl:(backTo pos (starEach es X.env)).any (·.1)=false:=by rfl) :
  PE X (.Call (.Name x p) (e::es) [] pos) (zqL sp dvs E t):=by
 intro O s Y H Q I h;refine YDe (zqJ I hg hm ?_ hdb);refine PySem.W.callWith_K (h₀:=X.base) I.ok.mod.kin hk (thn (ha pos O s Y H _ I h) λus s1 ⟨vs,H1,I1,r,q⟩=>⟨I1.kIn,?_⟩) he hpl;exact zru F hr hb hd hx I1 r q
end
structure FnScope(N P:List Str)(sc:Scope):Prop where
 kind:sc.kind=.function
 co:sc.isCoroutine=false
 gen:sc.isGenerator=false
 nd:N.Nodup
 pre:N.take P.length=P
 par:∀x∈P,sc.names.lookup x=some .local\/sc.names.lookup x=some .cell
 nofree:∀y∈sc.names,y.2≠.free
theorem zit{kindOf:Str->Option NameKind}{x:Str}:∀{binds:List (Str×Value)}{m:Str->Option Value},(∀v,(x,v)∉binds)->bindL kindOf binds m x=m x
 |[],_,_=>rfl
 | (n,v)::r,m,h=>by
  unfold bindL;rw[zit λw hw=>h w (YAj _ hw)];split
  .have:x≠n:=by rintro rfl;exact h v YAh
   simp[this]
  .rfl
theorem ziD{kindOf:Str->Option NameKind}{x:Str}:∀{binds:List (Str×Value)}{m:Str->Option Value},(∀v,(x,v)∉binds)->bindC kindOf binds m x=m x
 |[],_,_=>rfl
 | (n,v)::r,m,h=>by
  unfold bindC;rw[ziD λw hw=>h w (YAj _ hw)];split
  .rfl
  .have:x≠n:=by rintro rfl;exact h v YAh
   simp[this]
theorem zir{kindOf:Str->Option NameKind}{x:Str}{v:Value}:∀{P:List Str}{vs:List Value}{i:Nat}{m:Str->Option Value},P.Nodup->P[i]?=some x->vs[i]?=some v->kindOf x=some .local ->
  bindL kindOf (P.zip vs) m x=some v
 |[],_,_,_,_,h,_,_=>by simp at h
 |_::_,[],_,_,_,_,h,_=>by simp at h
 |p::P,w::vs,0,m,nd,h1,h2,hk=>by
  simp at h1 h2;subst h1;subst h2;show bindL kindOf ((p,w)::P.zip vs) m p=_;unfold bindL;rw[zit λv hv=>(YBh.mp nd).1 (YDD hv).1,if_pos hk]
  simp
 |p::P,w::vs,i+1,m,nd,h1,h2,hk=>by
  show bindL kindOf ((p,w)::P.zip vs) m x=_;unfold bindL;exact zir (i:=i) (YBh.mp nd).2 (by simpa using h1) (by simpa using h2) hk
theorem zi6{kindOf:Str->Option NameKind}{x:Str}{v:Value}:∀{P:List Str}{vs:List Value}{i:Nat}{m:Str->Option Value},P.Nodup->P[i]?=some x->vs[i]?=some v->kindOf x≠some .local ->
  bindC kindOf (P.zip vs) m x=some v
 |[],_,_,_,_,h,_,_=>by simp at h
 |_::_,[],_,_,_,_,h,_=>by simp at h
 |p::P,w::vs,0,m,nd,h1,h2,hk=>by
  simp at h1 h2;subst h1;subst h2;show bindC kindOf ((p,w)::P.zip vs) m p=_;unfold bindC;rw[ziD λv hv=>(YBh.mp nd).1 (YDD hv).1,if_neg hk]
  simp
 |p::P,w::vs,i+1,m,nd,h1,h2,hk=>by
  show bindC kindOf ((p,w)::P.zip vs) m x=_;unfold bindC;exact zi6 (i:=i) (YBh.mp nd).2 (by simpa using h1) (by simpa using h2) hk
def start(N:List Str)(vs:List V):St:=vs.map some++List.replicate (N.length-vs.length) none
noncomputable def cxOf(CX:CXT)(P:Program)(w:World)(K:qq)(mg:Str->Option Value)(base:Heap)(N:List Str)(qual:Str)(scope:Scope)(f:Addr)(cd:Value)(A:Around)(outer:List Env)(s:Shared)(H:Hp)(E:XK):Cx where
 prog:=P
 w:=w
 K:=K
 mg:=mg
 base:=base
 A:=A.deeper (envOfC qual scope s.heap.objs.size f cd)
 N:=N
 s₀:=s
 H₀:=H
 env:=envOfC qual scope s.heap.objs.size f cd
 outer:=outer
 stack:=envOfC qual scope s.heap.objs.size f cd::outer
 ex:=[]
 calm:=true
 fn:=λ_=>true
 pn:=[]
 xe:=λe s'=>wpAny (model P w) (A.deeper (envOfC qual scope s.heap.objs.size f cd)) (leaving (envOfC qual scope s.heap.objs.size f cd) e) (λ_ s''=>CX outer H s E e s'') (λe' s''=>CX outer H s E e' s'') s'
def zj6{sc:Scope}{n:Nat}{x:Str}(h:sc.names.lookup x=some .cell):∃c,(cellsFrom n sc.names []).lookup x=some c:=by
 have q:=PySem.W.cellsFrom_some sc.names n [] (.inl h);exact Option.isSome_iff_exists.mp q
def zmw{CX:CXT}{P:Program}{w:World}{K:qq}{mg:Str->Option Value}{base:Heap}{N ps:List Str}{qual:Str}{scope:Scope}{f:Addr}{cd:Value}{A:Around}{outer:List Env}{s s1:Shared}{H:Hp}{E:XK}{us:List Value}{vs:List V}
  (S:FnScope N ps scope) (hd:A.handled=none) (e0:Env0 P w K mg base A outer s H) (hl:vs.length=ps.length) (r:Vals vs us)
  (x:InCallC s s.heap.objs.size (bindL (envOfC qual scope s.heap.objs.size f cd).kindOf (ps.zip us) λ_=>none) (cellsFrom (s.heap.objs.size+1) scope.names []) (bindC (envOfC qual scope s.heap.objs.size f cd).kindOf (ps.zip us) λ_=>none) s1) :
  Inv (cxOf CX P w K mg base N qual scope f cd A outer s H E) [] (start N vs) H s1:=by
 have hpl:ps.length<=N.length:=by have:=congrArg List.length S.pre;rw[YBz]at this;omega
 obtain⟨h1,tk,rfl,hk⟩:=x.done;have noA:∀b:Addr,b∉(cxOf CX P w K mg base N qual scope f cd A outer s H E).ex:=λb z=>absurd (show b∈([]:List Addr)from z) (by simp);refine⟨⟨e0.mod,S.kind,rfl,rfl,YAn _,λy z c h1 h2=>?_,λy hy=>?_,λy c _ h=>?_,λ_=>hd,Around.frames_deeper e0.frames,.inr ⟨rfl,rfl⟩,λb z=>absurd z (noA b),e0.bs,e0.bsz,λb _ _=>noA b,λb z=>absurd z (noA b),e0.funs,e0.frf⟩,
  rfl,e0.bare,Un.kept hk,⟨_,x.toInCall.ns,λi y v h1 h2 h3=>?_⟩,λy c h=>⟨_,x.cell y c h⟩,e0.hok.fresh (YAn _),λy c h=>?_,λp hp=>absurd (show p∈([]:List (Addr×Obj))from hp) (by simp),e0.hok.kept hk,?_⟩
 .exact name_of_addr x.apart (YBp h1) (YBp h2)
 .have hy:scope.names.lookup y=some .cell\/scope.names.lookup y=some .free:=hy;rcases hy with hy|hy
  .exact zj6 hy
  .exact absurd rfl (S.nofree _ (YBp hy))
 .exact YDb (x.above y c (YBp h))
 .have hi:i<vs.length:=by
   unfold start at h2;by_cases hi:i<vs.length
   .exact hi
   .rw[YBR (by simpa using hi)]at h2;rw[YBL]at h2;split at h2<;>cases h2
  have ha:vs[i]?=some v:=by
   unfold start at h2;rw[YBD (by simpa using hi),YAq]at h2;cases e:vs[i]? with
   |none=>rw[e]at h2;cases h2
   |some a=>rw[e]at h2;cases h2;rfl
  obtain⟨u,hu,rv⟩:=r.get ha;have hp:ps[i]?=some y:=by
   rw[<-S.pre,YB7 (by omega)];exact h1
  have ndP:ps.Nodup:=by rw[<-S.pre];exact S.nd.sublist (List.take_sublist _ _)
  refine⟨u,rv,?_⟩;rcases S.par y (YAz hp)with k|k
  .exact .inl ⟨k,zir ndP hp hu k⟩
  .obtain⟨c,e⟩:=zj6 (n:=s.heap.objs.size+1) k;refine .inr ⟨.inl k,c,e,?_⟩;have q:=x.cell y c e;rw[zi6 ndP hp hu (by show scope.names.lookup y≠_;rw[k];decide)]at q;exact q
 .exact e0.hok.fresh (YDb (x.above y c (YBp h)))
 .unfold start;show _=N.length;rw[YAo,YAc,List.length_replicate];omega
def zsr{CX:CXT}{P:Program}{w:World}{K:qq}{mg:Str->Option Value}{base:Heap}{k:Nat}{f:Addr}{name qual:Str}{params:Arguments}{body:List Stmt}{scope:Scope}{dV kV doc pm cdv ct oc:Value}{an od:Option Addr}
  {osl:Array (Option Value)} {N ps:List Str} {sp:Sp} (lk:K.lookup f=some ⟨oc,od,.func (PySem.W.fnOf name qual params body scope dV kV doc pm an cdv ct),osl⟩) (hcd:PySem.W.codeIn K cdv qual=true) (S:FnScope N ps scope)
  (len:∀vs H Q E,sp vs H Q E->vs.length=ps.length)
  (hbody:∀(A:Around)(outer:List Env)(s:Shared)(H:Hp)(vs:List V)(Q:VK)(E:XK),Room k (A.deeper (envOfC qual scope s.heap.objs.size f cdv))->sp vs H Q E ->
   ∃t,PSs (cxOf CX P w K mg base N qual scope f cdv A outer s H E) body t/\t {nx:=λ_ H'=>Q .non H',rt:=Q} (start N vs) H) :
  FnOk P w K mg base CX (k+1) f (PySem.W.fnOf name qual params body scope dV kV doc pm an cdv ct) ps sp:=by
 refine⟨len,λA outer s H args us vs Q E hr e0 hb r hsp=>?_⟩;have hl:=len _ _ _ _ hsp;have KX:K.In s.heap:=e0.mod.kin.keeps λb o e=>(e0.bs b o e).1;have lim:s.heap.NoLimit:=e0.mod.nolimit.keeps λb o e=>(e0.bs b o e).1;have hkind:∀y∈ps.zip us,scope.names.lookup y.1=some .local\/(scope.names.lookup y.1=some .cell/\((cellsFrom (s.heap.objs.size+1) scope.names []).lookup y.1).isSome=true):=λ⟨n,v⟩ hy=>by
  rcases S.par n (YDD hy).1 with q|q
  .exact .inl q
  .exact .inr ⟨q,PySem.W.cellsFrom_some _ _ _ (.inl q)⟩
 refine codeAny_call_function hr.depth (KX _ _ lk) rfl S.co S.gen rfl (PySem.W.codeRec_of KX hcd) (hb _ _ _ _ ?_);refine wpAny_newFunctionEnv_cells S.kind hkind λenv he s1 x=>?_;subst he;refine⟨lim.keeps x.toInCall.keep,codeAny_func ?_⟩;obtain⟨t,ht,hq⟩:=hbody A outer s H vs Q E (hr.deeper _) hsp;have I:Inv (cxOf CX P w K mg base N qual scope f cdv A outer s H E) [] (start N vs) H s1:=zmw S hr.hd e0 hl r x;refine YA2 (ht [] s1 (start N vs) H _ I hq) (λfl s' hs=>?_) λe s' hs=>hs;have fin:∀{Y':St}{H':Hp}{v:V}{u:Value},Inv (cxOf CX P w K mg base N qual scope f cdv A outer s H E) [] Y' H' s'->RelV v u->Q v H'->CE outer P w H s Q u s':=
  λ{Y' H' v u} J rv q=>⟨v,H',J.os,J.bare,J.base,J.hok,rv,q⟩
 cases fl with
 |ret u=>
  obtain⟨v,Y',H',J,rv,q⟩:=hs;exact fin J rv q
 |next=>
  obtain⟨Y',H',J,q⟩:=hs;exact fin (v:=V.non) (u:=Value.none) J rfl q
 |brk=>
  obtain⟨_,_,_,q⟩:=hs;exact False.elim q
 |cont=>
  obtain⟨_,_,_,q⟩:=hs;exact False.elim q
section
variable{X:Cx}{x:Str}{p pos:Pos}{e:Expr}{es:List Expr}{t:TA}{id T:String}{r:List V->Hp->VK->Prop}
def tCB(r:List V->Hp->VK->Prop)(t:TA):TE:=λY H Q=>t Y H λvs H1=>r vs H1 Q
def zbA(hc:CallR X (.builtin id) r)(hg:Gl X x)(hm:X.mg x=none)(hv:bootBuiltins x=some (.builtin id))(ha:PA X (e::es) t)(hn:x≠"__name__":=by decide)(hdb:(x==("__debug__":Str))=false:=by decide)
  (he:starEach (e::es) X.env=(false,eval e X.env)::starEach es X.env:=by rfl) (hpl:(backTo pos (starEach es X.env)).any (·.1)=false:=by rfl):PE X (.Call (.Name x p) (e::es) [] pos) (tCB r t):=by
 intro O s Y H Q I h;refine YDe (zgA I hg hm hv ?_ hn hdb);exact PyProof.Rows.callWith_builtin1 (thn (ha pos O s Y H _ I h) λus s1 ⟨vs,H1,I1,r1,q1⟩=>hc O s1 Y H1 vs us Q I1 r1 q1) he hpl
def zcE(hc:CallR X (.type T) r)(hg:Gl X x)(hm:X.mg x=none)(hv:bootBuiltins x=some (.type T))(ha:PA X (e::es) t)(hn:x≠"__name__":=by decide)(hdb:(x==("__debug__":Str))=false:=by decide)
  (he:starEach (e::es) X.env=(false,eval e X.env)::starEach es X.env:=by rfl) (hpl:(backTo pos (starEach es X.env)).any (·.1)=false:=by rfl):PE X (.Call (.Name x p) (e::es) [] pos) (tCB r t):=by
 intro O s Y H Q I h;refine YDe (zgA I hg hm hv ?_ hn hdb);exact YBP (thn (ha pos O s Y H _ I h) λus s1 ⟨vs,H1,I1,r1,q1⟩=>hc O s1 Y H1 vs us Q I1 r1 q1) he hpl
end
end L2
namespace HT
open PySem PyProof.Rows
def zhK:List Int->List Int->Bool
 |[],[]=>false
 |[],_::_=>true
 |_::_,[]=>false
 |x::xs,y::ys=>if x=y then zhK xs ys else decide (x<y)
def zlf(x y:Int)(xs ys:List Int):zhK (x::xs) (y::ys)=if x=y then zhK xs ys else decide (x<y):=rfl
def zha:zhK [] []=false:=rfl
def zoW(A:Around)(s:Shared)(a:Int)(t:Tok)(c:Int)(u:Tok):∃e,SeqAt.EqAt A s (.int a t) (.int c u) e/\(e=true↔a=c):=
 ⟨(a==c),YCB a t c u,by simp⟩
def zom(A:Around)(s:Shared)(a:Int)(t:Tok)(c:Int)(u:Tok)(prog:Program)(w:World)(E:Value->Shared->Prop)(Q:Value->Shared->Prop)(h:Q (.bool (decide (a<c))) s) :
  wpAny (model prog w) A (richCompare .Lt (.int a t) (.int c u)) Q E s:=
 (PyProof.Rows.lt_int h:wpAny (model prog w) A (compareOp .Lt (.int a t) (.int c u)) Q E s)
section
variable{prog:Program}{w:World}{A:Around}{E:Value->Shared->Prop}{s:Shared}
def cat_tup(ht:IsTup s.heap t vs.toArray)(hb:IsTup s.heap b ws.toArray)(hv:vs≠[])
  (h1:ws=[]->Q (.ref t) s) (h2:ws≠[]->Q (.ref s.heap.objs.size) {s with heap:=s.heap.push {cls:=.type "tuple",data:=.seq (vs++ws).toArray}})
  (hsz:vs.length+ws.length<=sizeLine):wpAny (model prog w) A (binaryOp .Add (.ref t) (.ref b)) Q E s:=by
 obtain⟨⟨cls,dd,data,sl⟩,ho,hc,n,hd⟩:=id ht;obtain⟨⟨cls2,dd2,data2,sl2⟩,ho2,hc2,n2,hd2⟩:=id hb;simp only at hc hd hc2 hd2;subst hc hd hc2 hd2;have e:vs.toArray++ws.toArray=(vs++ws).toArray:=by simp
 by_cases hw:ws=[]
 .exact YDE ⟨_,ho,rfl⟩ ⟨_,ho2,rfl⟩ YCN YDu YCl YCd (YB8 _ _)
   (tuple_addW1 t b vs.toArray ws.toArray n n2 dd dd2 sl sl2 (by simpa using hv) (by simp[hw])) ⟨ho,ho2,h1 hw⟩
 .refine YDE ⟨_,ho,rfl⟩ ⟨_,ho2,rfl⟩ YCN YDu YCl YCd (YB8 _ _)
   (tuple_addW2 t b vs.toArray ws.toArray n n2 dd dd2 sl sl2 (by simpa using hv) (by simpa using hw) (by rw[YAu,YAu];exact hsz)) ⟨ho,ho2,?_⟩
  rw[e];exact h2 hw
def sIx(n d:Nat):Option Int->Nat
 |none=>d
 |some v=>if v<0 then(v+(n:Int)).toNat else min v.toNat n
def sIx_none(n d:Nat):sIx n d none=d:=rfl
def sIx_nat(n d k:Nat):sIx n d (some (k:Int))=min k n:=by
 show(if (k:Int)<0 then((k:Int)+(n:Int)).toNat else min (k:Int).toNat n)=min k n;rw[if_neg (by omega),YAD]
def zra(n d:Nat)(hd:d<=n)(o:Option Int):sIx n d o<=n:=by
 cases o with
 |none=>exact hd
 |some v=>
  show(if v<0 then(v+(n:Int)).toNat else min v.toNat n)<=n;by_cases hv:v<0
  .rw[if_pos hv];omega
  .rw[if_neg hv];exact YDx _ _
def zmv(v:Int)(n d:Nat):(if v<0 then max (v+(n:Int)) 0 else min v (n:Int))=((sIx n d (some v):Nat):Int):=by
 show(if v<0 then max (v+(n:Int)) 0 else min v (n:Int))=(((if v<0 then(v+(n:Int)).toNat else min v.toNat n):Nat):Int);by_cases hv:v<0
 .simp only[if_pos hv];omega
 .simp only[if_neg hv];omega
def zlE(lo hi:Option Int)(n:Nat):Builtin.Slice.sliceAdjust lo hi 1 (n:Int)=(((sIx n 0 lo:Nat):Int),((sIx n n hi:Nat):Int)):=by
 have h1:¬ ((1:Int)<0):=by omega
 unfold Builtin.Slice.sliceAdjust;simp only[h1,YBX];refine Prod.ext ?_ ?_
 .cases lo with
  |none=>rfl
  |some v=>exact zmv v n 0
 .cases hi with
  |none=>rfl
  |some v=>exact zmv v n n
def zla(i j:Nat):Builtin.Slice.slicePlaces (i:Int) (j:Int) 1=j-i:=by
 unfold Builtin.Slice.slicePlaces;have h1:(1:Int)>0:=by omega
 simp only[h1,YCO,Int.ediv_one];split<;>omega
def zgS{v:Value}{o:Option Int}{Q:Option Int->Shared->Prop}(p:IsPart v o)(h:Q o s):wpAny (model prog w) A (Builtin.Slice.slicePartIndex v) Q E s:=by
 cases p with
 |none=>exact YDj h
 |int i t=>exact slicePart_int h
def zc6{sl:Addr}{vl vu:Value}{lo hi:Option Int}{n:Nat}{Q:Int×Int×Nat->Shared->Prop}(hs:s.heap.IsSliceOf sl vl vu .none)(pl:IsPart vl lo)(pu:IsPart vu hi)
  (h:Q (((sIx n 0 lo:Nat):Int),1,sIx n n hi-sIx n 0 lo) s):wpAny (model prog w) A (Builtin.Slice.sliceApplied (.ref sl) (pure (n:Int))) Q E s:=by
 obtain⟨os,hos,hcs,hds⟩:=id hs;unfold Builtin.Slice.sliceApplied Builtin.Slice.sliceFields;refine YAa (YAa (YA8 hos hds (x:=vl) rfl (YAa (YA8 hos hds (x:=vu) rfl (YAa (YA8 hos hds (x:=.none) rfl (YAf ?_)))))));refine YAa (YDj ?_);show wpAny _ _ (if ((1:Int)==0)=true then _ else _) _ _ s;rw[if_neg (by decide)];refine YAa (zgS pl (YAa (zgS pu (YAa (YAf ?_)))));show wpAny _ _ (match Builtin.Slice.sliceAdjust lo hi 1 (n:Int)with|(lo,hi)=>pure (lo,(1:Int),Builtin.Slice.slicePlaces lo hi 1)) _ _ s;rw[zlE lo hi n];show wpAny _ _ (pure (((sIx n 0 lo:Nat):Int),(1:Int),Builtin.Slice.slicePlaces ((sIx n 0 lo:Nat):Int) ((sIx n n hi:Nat):Int) 1)) _ _ s;rw[zla];exact YAf h
def zoS(xs:Array Value)(i k:Nat):((List.range k).filterMap λ(m:Nat)=>xs[((i:Int)+(m:Int)*1).toNat]?).toArray=((xs.toList.drop i).take k).toArray:=by
 have e:(λ(m:Nat)=>xs[((i:Int)+(m:Int)*1).toNat]?)=λm=>xs[i+m]?:=by
  funext m
  have:((i:Int)+(m:Int)*1).toNat=i+m:=by omega
  rw[this]
 rw[e]
 have:=pick_run xs i k
 rw[List.filterMap_map]at this;have e2:((λx=>xs[x]?)∘λx=>i+x)=λm=>xs[i+m]?:=rfl;rw[e2]at this;rw[this]
def getItem_tuple_cut{t sl:Addr}{items:Array Value}{vl vu:Value}{lo hi:Option Int}{Q:Value->Shared->Prop}(ht:IsTup s.heap t items)(hs:s.heap.IsSliceOf sl vl vu .none)(pl:IsPart vl lo)(pu:IsPart vu hi)
  (hw:¬ (sIx items.size 0 lo=0/\sIx items.size items.size hi=items.size))
  (h:Q (.ref s.heap.objs.size) {s with heap:=s.heap.push {cls:=.type "tuple",data:=.seq ((items.toList.drop (sIx items.size 0 lo)).take (sIx items.size items.size hi-sIx items.size 0 lo)).toArray}})
  (hsz:items.size<=sizeLine):wpAny (model prog w) A (getItem (.ref t) (.ref sl)) Q E s:=by
 have htake:sizeOk (.seq ((items.toList.drop (sIx items.size 0 lo)).take (sIx items.size items.size hi-sIx items.size 0 lo)).toArray):=by
  show((items.toList.drop (sIx items.size 0 lo)).take (sIx items.size items.size hi-sIx items.size 0 lo)).toArray.size<=sizeLine;rw[YAu,YBz,YCw,YAZ];omega
 have hj:sIx items.size items.size hi<=items.size:=zra _ _ (YAn _) hi;obtain⟨os,hos,hcs,hds⟩:=id hs;have hTs:s.TypeIs (.ref sl) "slice":=⟨os,hos,hcs⟩;unfold getItem
 try with_reducible refine YAV ?_
 first|refine YAa (YAf ?_)|skip
 refine YAa (YDm ht.typeIs (by decide) ?_);refine YAa (YA0 (name:=Str.ofString "__getitem__") ht.typeIs YAL
  (YAU YAL ht.typeIs YC1 ?_ (YDf _ _)))
 show wpAny _ _ (Builtin.Tuple.tupleItemsOf (.ref t) >>= _) _ _ s;refine YAa (tupleItemsOf_ ht ?_);refine YAa (YCn hTs ?_);rw[if_pos (by decide)];refine YAa (zc6 hs pl pu ?_);have hno:¬ ((((sIx items.size 0 lo:Nat):Int)==0&&(1:Int)==1&&(sIx items.size items.size hi-sIx items.size 0 lo)==items.size)=true):=by
  intro q;rw[YAI,YAI]at q;have q1:((sIx items.size 0 lo:Nat):Int)=0:=eq_of_beq q.1.1;have q2:sIx items.size items.size hi-sIx items.size 0 lo=items.size:=eq_of_beq q.2;exact hw ⟨by omega,by omega⟩
 show wpAny _ _ (if (((sIx items.size 0 lo:Nat):Int)==0&&(1:Int)==1&&(sIx items.size items.size hi-sIx items.size 0 lo)==items.size)=true then _ else _) _ _ s;rw[if_neg hno,zoS];first
  |exact YAa (m:=Builtin.Tuple.tupleExact _) (YAS (YAf ⟨_,rfl,YAf h⟩) htake)
  |exact YAa (m:=Builtin.Tuple.tupleExact _) (YAS (YAa (YAf (YAf ⟨_,rfl,YAf h⟩))) htake)
  |exact YAa (YAa (m:=Builtin.Tuple.tupleExact _) (YAS (YAf (YAf ⟨_,rfl,YAf h⟩)) htake))
  |exact YAa (YAa (m:=Builtin.Tuple.tupleExact _) (YAS (YAf ⟨_,rfl,YAf h⟩) htake))
end
end HT
namespace L2
open PySem PySem.Spec PyProof.Rows
abbrev TO:=St->Hp->(Option Int->Hp->Prop)->Prop
def PO(X:Cx)(e:Option Expr)(t:TO):Prop:=
 ∀(O:List (Addr×Obj))(s:Shared)(Y:St)(H:Hp)(Q:Option Int->Hp->Prop),Inv X O Y H s->t Y H Q ->
  wpAny (model X.prog X.w) X.A (evalPart e X.env) (λu s'=>∃o H',Inv X O Y H' s'/\IsPart u o/\Q o H') X.xe s
def zqF:TO:=λ_ H Q=>Q none H
def zsq(t:TE):TO:=λY H Q=>t Y H λx H1=>∃i,x=.int i/\Q (some i) H1
def zdB:∀{us:List Value},Vals (ns.map V.int) us->IntsAre us ns:=by
 induction ns with
 |nil=>intro us r;rw[YBM]at r;cases r;exact .nil
 |cons n ns ih=>
  intro us r;rw[YAb]at r;cases r with
  |cons r1 r2=>
   obtain⟨t,e⟩:=r1;subst e;exact .cons n t (ih r2)
section
variable{X:Cx}{e:Expr}{te:TE}{lo hi:Option Expr}{tl th:TO}{pos p2:Pos}
def zhI:PO X none zqF:=by
 intro O s Y H Q I h;rw[evalPart_none];exact YAf ⟨none,H,I,.none,h⟩
def zg6(h:PE X e te):PO X (some e) (zsq te):=by
 intro O s Y H Q I hw;rw[evalPart_some];refine thn (h O s Y H _ I hw) λu s1 ⟨x,H1,I1,r1,q1⟩=>?_;obtain⟨i,rfl,q⟩:=q1;obtain⟨t,rfl⟩:=r1;exact⟨some i,H1,I1,.int i t,q⟩
noncomputable def SlR(X:Cx)(r:V->Option Int->Option Int->Hp->VK->Prop):Prop:=
 ∀(O:List (Addr×Obj))(s:Shared)(Y:St)(H:Hp)(x:V)(v vl vu:Value)(lo hi:Option Int)(sl:Addr)(Q:VK),Inv X O Y H s->RelV x v->s.heap.IsSliceOf sl vl vu .none->IsPart vl lo->IsPart vu hi->r x lo hi H Q ->
  ∃T id,typeLookup (.type T) "__getitem__"=pure (some (.builtin id))/\s.TypeIs v T/\wpAny (model X.prog X.w) X.A (getItem v (.ref sl)) (EP X O Y Q) X.xe s
def SlR.or{r r':V->Option Int->Option Int->Hp->VK->Prop}(h:SlR X r)(h':SlR X r'):SlR X (λx lo hi H Q=>r x lo hi H Q\/r' x lo hi H Q):=by
 intro O s Y H x v vl vu lo hi sl Q I rx hs pl pu q;rcases q with q|q
 .exact h O s Y H x v vl vu lo hi sl Q I rx hs pl pu q
 .exact h' O s Y H x v vl vu lo hi sl Q I rx hs pl pu q
def tSl(r:V->Option Int->Option Int->Hp->VK->Prop)(te:TE)(tl th:TO):TE:=λY H Q=>te Y H λx H1=>tl Y H1 λl H2=>th Y H2 λu H3=>r x l u H3 Q
def zfs(hr:SlR X r)(he:PE X e te)(hl:PO X lo tl)(hu:PO X hi th):PE X (.Subscript e (.Slice lo hi none p2) pos) (tSl r te tl th):=by
 intro O s Y H Q I h;refine Subscript_ (thn (he O s Y H _ I h) λv s1 ⟨x,H1,I1,r1,q1⟩=>?_);refine wpAny_Slice (thn (hl O s1 Y H1 _ I1 q1) λvl s2 ⟨l,H2,I2,pl,q2⟩=>thn (hu O s2 Y H2 _ I2 q2) λvu s3 ⟨u,H3,I3,pu,q3⟩=>?_);rw[evalPart_none];refine YAf ?_;have I4:Inv X O Y H3 {s3 with heap:=s3.heap.push {cls:=.type "slice",data:=.fields #[vl,vu,.none]}}:=I3.kept (t':=s3.toks) λb ob q=>YAd _ q;obtain⟨T,id,hT,ht,hg⟩:=hr O {s3 with heap:=s3.heap.push {cls:=.type "slice",data:=.fields #[vl,vu,.none]}} Y H3 x v vl vu l u s3.heap.objs.size Q I4 r1 (Heap.IsSliceOf.new ..) pl pu q3;show wpAny (model X.prog X.w) X.A (subscriptTail e (.Slice lo hi none p2) v (.ref s3.heap.objs.size)) (EP X O Y Q) X.xe {s3 with heap:=s3.heap.push {cls:=.type "slice",data:=.fields #[vl,vu,.none]}};exact tail_any (ops:=[.ref s3.heap.objs.size,v]) ht hT hg (by with_unfolding_all rfl)
def cutV(xs:List V)(lo hi:Option Int):List V:=(xs.drop (HT.sIx xs.length 0 lo)).take (HT.sIx xs.length xs.length hi-HT.sIx xs.length 0 lo)
def zf3(xs:List V)(lo hi:Option Int):(cutV xs lo hi).length<=xs.length:=by
 unfold cutV;rw[YBz,YCw];omega
def rSlT(K:qq):V->Option Int->Option Int->Hp->VK->Prop:=λx lo hi H Q=>∃a xs,x=.ref a/\SqT K H a xs /\
 ¬ (HT.sIx xs.length 0 lo=0/\HT.sIx xs.length xs.length hi=xs.length)/\∀p,H p=none->Q (.ref p) (upd H p (.tup (cutV xs lo hi)))
def zpa:SlR X (rSlT X.K):=by
 intro O s Y H x v vl vu lo hi sl Q I rx hs pl pu h;obtain⟨a,xs,rfl,hx,hw,q⟩:=h;cases rx;obtain⟨its,r,ht,hz⟩:=I.tuple hx;have hlen:its.toArray.size=xs.length:=by rw[YAu];exact r.length.symm
 refine⟨"tuple",_,YAL.lookup,ht.typeIs,?_⟩;refine HT.getItem_tuple_cut ht hs pl pu (by rw[hlen];exact hw) ?_ (by rw[hlen];exact hz);rw[hlen];refine⟨.ref s.heap.objs.size,_,I.laid (t':=s.toks) (o:=.tup (cutV xs lo hi)) (λb ob q=>YAd _ q) (YAn _) ?_,rfl,q _ (I.hok.fresh (YAn _))⟩;exact⟨YAQ (zf3 xs lo hi) hz,_,(r.drop (HT.sIx xs.length 0 lo)).take (HT.sIx xs.length xs.length hi-HT.sIx xs.length 0 lo),IsTup.new _ _⟩
def zsC(K:qq):R2:=λx y H Q=>∃a b xs ys,x=.ref a/\y=.ref b/\SqT K H a xs/\SqT K H b ys/\xs≠[]/\xs.length+ys.length<=sizeLine /\
 (ys=[]->Q (.ref a) H)/\(ys≠[]->∀p,H p=none->Q (.ref p) (upd H p (.tup (xs++ys))))
def Vals.nil_iff(r:Vals xs us):us=[]↔xs=[]:=by
 cases r with
 |nil=>simp
 |cons _ _=>simp
def zlL:OpR X (binaryOp .Add) (zsC X.K):=by
 intro O s Y H x y v u Q I rx ry h;obtain⟨a,b,xs,ys,rfl,rfl,ha,hb,hx,hz,q1,q2⟩:=h;cases rx;cases ry;obtain⟨its,r1,p1,_⟩:=I.tuple ha;obtain⟨its2,r2,p2,_⟩:=I.tuple hb;refine HT.cat_tup p1 p2 (λz=>hx (r1.nil_iff.mp z)) (λz=>⟨.ref a,H,I,rfl,q1 (r2.nil_iff.mp z)⟩) (λz=>?_) (by rw[<-r1.length,<-r2.length];exact hz);refine⟨.ref s.heap.objs.size,_,I.laid (t':=s.toks) (o:=.tup (xs++ys)) (λb ob q=>YAd _ q) (YAn _) ?_,rfl,q2 (λw=>z (r2.nil_iff.mpr w)) _ (I.hok.fresh (YAn _))⟩;exact⟨by rw[YAo];exact hz,_,r1.append r2,IsTup.new _ _⟩
end
def ixN(n:Nat)(i:Int):Option Nat:=if 0<=i then(if i<n then some i.toNat else none)else if -(n:Int)<=i then some (i+n).toNat else none
def atI{α:Type}(xs:List α)(i:Int):Option α:=(ixN xs.length i).bind λj=>xs[j]?
def zmG(h:ixN n i=some j):seqIndex? i n=some j/\j<n/\-(n:Int)<=i/\i<n:=by
 unfold ixN at h;by_cases h0:0<=i
 .rw[if_pos h0]at h;by_cases h1:i<n
  .rw[if_pos h1]at h;have e:i.toNat=j:=Option.some.inj h;exact⟨by rw[seqIndex_of h0 h1,e],by omega,by omega,h1⟩
  .rw[if_neg h1]at h;cases h
 .rw[if_neg h0]at h;by_cases h1:-(n:Int)<=i
  .rw[if_pos h1]at h;have e:(i+n).toNat=j:=Option.some.inj h;exact⟨by rw[seqIndex_neg (by omega) h1,e],by omega,h1,by omega⟩
  .rw[if_neg h1]at h;cases h
def zjO{α:Type}{xs:List α}{i:Int}{v:α}(h:atI xs i=some v):∃j,seqIndex? i xs.length=some j/\xs[j]?=some v/\j<xs.length/\-(xs.length:Int)<=i/\i<xs.length:=by
 unfold atI at h;cases e:ixN xs.length i with
 |none=>rw[e]at h;cases h
 |some j=>
  rw[e]at h;obtain⟨h1,h2,h3,h4⟩:=zmG e;exact⟨j,h1,h,h2,h3,h4⟩
def zdO{α:Type}{xs:List α}{j:Nat}{v:α}(h:xs[j]?=some v):atI xs (j:Int)=some v:=by
 have hj:j<xs.length:=(YAi.mp h).1;have e:ixN xs.length (j:Int)=some j:=by
  unfold ixN;rw[if_pos (by omega),if_pos (by omega)];simp
 unfold atI;rw[e];exact h
def zg2(b:Expr):Prop:=∀o i,subscripted b false o i=operate [o,i] (getItem o i)
noncomputable def IxR(X:Cx)(r:R2):Prop:=
 ∀(value slice:Expr)(O:List (Addr×Obj))(s:Shared)(Y:St)(H:Hp)(x y:V)(v u:Value)(Q:VK),Inv X O Y H s->RelV x v->RelV y u->r x y H Q ->
  subscripted slice false v u=operate [v,u] (getItem v u)->wpAny (model X.prog X.w) X.A (subscriptTail value slice v u) (EP X O Y Q) X.xe s
def MtR(X:Cx)(id:String)(r:V->List V->Hp->VK->Prop):Prop:=
 ∀(O:List (Addr×Obj))(s:Shared)(Y:St)(H:Hp)(x:V)(xs:List V)(v:Value)(us:List Value)(Q:VK),Inv X O Y H s->RelV x v->Vals xs us->r x xs H Q ->
  wpAny (model X.prog X.w) X.A (call (.builtin id) (v::us)) (EP X O Y Q) X.xe s
section
variable{X:Cx}{a b:Expr}{ta tb:TE}{pos:Pos}
def IxR.or{r r':R2}(h:IxR X r)(h':IxR X r'):IxR X (λx y H Q=>r x y H Q\/r' x y H Q):=by
 intro value slice O s Y H x y v u Q I rx ry q hs;rcases q with q|q
 .exact h value slice O s Y H x y v u Q I rx ry q hs
 .exact h' value slice O s Y H x y v u Q I rx ry q hs
def zcW(hr:IxR X r)(ha:PE X a ta)(hb:PE X b tb)(hs:zg2 b):PE X (.Subscript a b pos) (tOp r ta tb):=by
 intro O s Y H Q I h;exact Subscript_ (binT ha hb I h λv u s2 x y H2 I2 rx ry q=>hr a b O s2 Y H2 x y v u Q I2 rx ry q (hs _ _))
def rIxL(K:qq):R2:=λx y H Q=>∃p xs i v,x=.ref p/\y=.int i/\SqL K H p xs/\atI xs i=some v/\Q v H
def rIxT(K:qq):R2:=λx y H Q=>∃p xs i v,x=.ref p/\y=.int i/\SqT K H p xs/\atI xs i=some v/\Q v H
def rIxS:R2:=λx y H Q=>∃z i c,x=.str z/\y=.int i/\z.length<=sizeLine/\atI z.cps.toList i=some c/\Q (.str ⟨#[c]⟩) H
def ix_list:IxR X (rIxL X.K):=by
 intro value slice O s Y H x y v u Q I rx ry h hs;obtain⟨p,xs,i,z,rfl,rfl,hq,he,q⟩:=h;cases rx;obtain⟨t,rfl⟩:=ry;obtain⟨its,r,pl,hz⟩:=I.list hq;obtain⟨j,h1,h2,h3,h4,h5⟩:=zjO he;obtain⟨w,ew,rw'⟩:=r.get h2;have hl:=r.length;have hn:=zfE;have fin:EP X O Y Q w s:=⟨z,H,I,rw',q⟩;by_cases h0:0<=i
 .have hj:i.toNat=j:=by
   rw[seqIndex_of h0 h5]at h1;exact Option.some.inj h1
  exact item_listR pl.isList h0 (by omega) (by rw[hj];simpa using ew) fin hs
 .have hj:(i+(its.toArray.size:Int)).toNat=j:=by
   rw[seqIndex_neg (by omega) h4]at h1;rw[YAu,<-hl];exact Option.some.inj h1
  exact subscriptTail_builtinR (x:=w) pl.isList.typeIs slot_list_getitem.lookup
   (wpAny_getItem_list_neg (Q:=λr s'=>r=w/\EP X O Y Q r s') pl.isList (by omega) (by rw[YAu]<;>omega) (by omega) (by rw[hj];simpa using ew) ⟨rfl,fin⟩) hs
def ix_tup:IxR X (rIxT X.K):=by
 intro value slice O s Y H x y v u Q I rx ry h hs;obtain⟨p,xs,i,z,rfl,rfl,hq,he,q⟩:=h;cases rx;obtain⟨t,rfl⟩:=ry;obtain⟨its,r,pl,hz⟩:=I.tuple hq;obtain⟨j,h1,h2,h3,h4,h5⟩:=zjO he;obtain⟨w,ew,rw'⟩:=r.get h2;have hl:=r.length;have hn:=zfE;have fin:EP X O Y Q w s:=⟨z,H,I,rw',q⟩;exact subscriptTail_builtinR (x:=w) pl.typeIs slot_tuple_getitem.lookup
  (getItem_tuple (j:=j) (Q:=λr s'=>r=w/\EP X O Y Q r s') pl (by omega) (by omega) (by rw[YAu,<-hl];exact h1) (by simpa using ew) ⟨rfl,fin⟩) hs
def zrJ:IxR X rIxS:=by
 intro value slice O s Y H x y v u Q I rx ry h hs;obtain⟨z,i,c,rfl,rfl,hz,he,q⟩:=h;obtain⟨t,rfl⟩:=rx;obtain⟨t',rfl⟩:=ry;obtain⟨j,h1,h2,h3,h4,h5⟩:=zjO he;have hl:z.cps.toList.length=z.length:=by simp[Str.length]
 rw[hl]at h1 h4 h5;have hn:=zfE;exact tail_any (typeIs_str s z t) slot_str_getitem.lookup (getItem_str (c:=c) (by
  have e1:decide (i < -(2^63:Int))=false:=YAC (by omega);have e2:decide (i ≥ 2^63)=false:=YAC (by omega);rw[e1,e2,Bool.or_false]) (by rw[h1];simpa using h2) ⟨.str ⟨#[c]⟩,H,I.tok _,⟨_,rfl⟩,q⟩) hs
def rIx(K:qq):R2:=λx y H Q=>rIxL K x y H Q\/rIxT K x y H Q\/rIxS x y H Q
def zo7:IxR X (rIx X.K):=ix_list.or (ix_tup.or zrJ)
def zk8(its:List Value)(n j:Nat)(u:Value):Obj.mapSeq (·.setIfInBounds j u) {cls:=.type "list",data:=.seq its.toArray n}={cls:=.type "list",data:=.seq (its.set j u).toArray n}:=by
 simp[Obj.mapSeq]
theorem Inv.lst{O:List (Addr×Obj)}{Y:St}{H:Hp}{s:Shared}{p:Addr}{xs:List V}(I:Inv X O Y H s)(h:H p=some (.lst xs)) :
  ∃(its:List Value)(n:Nat),Vals xs its/\s.heap.get? p=some {cls:=.type "list",data:=.seq its.toArray n}/\xs.length<=sizeLine:=by
 obtain⟨z,its,n,r,e⟩:=I.hok p _ h;exact⟨its,n,r,e,z⟩
def Inv.lstUpd{O:List (Addr×Obj)}{Y:St}{H:Hp}{s:Shared}{p:Addr}{xs ys:List V}{its its':List Value}{n n':Nat}{f:Obj->Obj}(I:Inv X O Y H s)(h:H p=some (.lst xs))
  (ho:s.heap.get? p=some {cls:=.type "list",data:=.seq its.toArray n}) (hf:f {cls:=.type "list",data:=.seq its.toArray n}={cls:=.type "list",data:=.seq its'.toArray n'}) (r:Vals ys its') (hz:ys.length<=sizeLine) (t:Nat) :
  Inv X O Y (upd H p (.lst ys)) {s with heap:=s.heap.update p f,toks:=t}:=by
 have e:(s.heap.update p f).get? p=some {cls:=.type "list",data:=.seq its'.toArray n'}:=by
  rw[YBq f ho (by rw[hf]<;>rfl),hf]
 refine I.write (x:=p) (e:=p) (by rw[h];trivial) (.inl rfl) (λb u hb q=>(YBB _ _ (Ne.symm hb)).trans q) ⟨_,e⟩ ?_;exact⟨hz,its',n',r,e⟩
def zsc:V->V->V->Hp->(Hp->Prop)->Prop:=λo i v H Q=>∃p xs k j,o=.ref p/\i=.int k/\H p=some (.lst xs)/\ixN xs.length k=some j/\Q (upd H p (.lst (xs.set j v)))
def zcU:PSet X zsc:=by
 intro O s Y H o i v ov iv u Q I ro ri rv h;obtain⟨p,xs,k,j,rfl,rfl,hp,hj,q⟩:=h;cases ro;obtain⟨t,rfl⟩:=ri;obtain⟨its,n,r,ho,hz⟩:=I.lst hp;obtain⟨h1,h2,h3,h4⟩:=zmG hj;have hl:=r.length;have hn:=zfE;have I':Inv X O Y (upd H p (.lst (xs.set j v))) {s with heap:=s.heap.update p (Obj.mapSeq (·.setIfInBounds j u))}:=
  I.lstUpd hp ho (zk8 its n j u) (r.set rv j) (by rw[List.length_set];exact hz) s.toks
 by_cases h0:0<=k
 .have hk:k.toNat=j:=by
   rw[seqIndex_of h0 h4]at h1;exact Option.some.inj h1
  exact PySem.W.ki_setAt ho h0 (by omega) (by rw[YAu,<-hl];exact h4) (by rw[hk];exact⟨_,I',q⟩)
 .have hk:(k+(its.toArray.size:Int)).toNat=j:=by
   rw[seqIndex_neg (by omega) h3]at h1;rw[YAu,<-hl];exact Option.some.inj h1
  exact PySem.W.ki_setBack ho (by omega) (by rw[YAu,<-hl];exact h3) (by omega) (by rw[hk];exact⟨_,I',q⟩)
def zjo(lo hi:Option Int)(n:Nat):(sliceBounds lo hi none n).1=((HT.sIx n 0 lo:Nat):Int)/\(sliceBounds lo hi none n).2.1=((HT.sIx n n hi:Nat):Int)/\(sliceBounds lo hi none n).2.2=1:=by
 refine⟨?_,?_,rfl⟩
 .cases lo with
  |none=>simp[sliceBounds,HT.sIx]
  |some i=>
   simp only[sliceBounds,HT.sIx,Option.getD_none,show(1:Int)>0 by decide,YCO];by_cases h:i<0
   .simp only[h,YCO]<;>omega
   .simp only[h,YBX]<;>omega
 .cases hi with
  |none=>simp[sliceBounds,HT.sIx]
  |some i=>
   simp only[sliceBounds,HT.sIx,Option.getD_none,show(1:Int)>0 by decide,YCO];by_cases h:i<0
   .simp only[h,YCO]<;>omega
   .simp only[h,YBX]<;>omega
def zhV(its:List Value)(lo hi:Option Int):slicePick its.toArray lo hi none=((its.drop (HT.sIx its.length 0 lo)).take (HT.sIx its.length its.length hi-HT.sIx its.length 0 lo)).toArray:=by
 obtain⟨h1,h2,h3⟩:=zjo lo hi its.toArray.size;unfold slicePick;rw[h1,h2,h3];simp only[sliceRange_one,pick_run,YAu]<;>rfl
def rSlL(K:qq):V->Option Int->Option Int->Hp->VK->Prop:=λx lo hi H Q=>∃a xs,x=.ref a/\SqL K H a xs/\∀p,H p=none->Q (.ref p) (upd H p (.lst (cutV xs lo hi)))
def sl_list:SlR X (rSlL X.K):=by
 intro O s Y H x v vl vu lo hi sl Q I rx hs pl pu h;obtain⟨a,xs,rfl,hx,q⟩:=h;cases rx;obtain⟨its,r,ht,hz⟩:=I.list hx;have hlen:=r.length;refine⟨"list",_,slot_list_getitem.lookup,ht.isList.typeIs,?_⟩;refine wpAny_getItem_list_slice ht.isList hs pl pu .none (by simp) ?_ (by rw[YAu]<;>omega);rw[zhV,<-hlen];refine⟨.ref s.heap.objs.size,_,I.laid (t':=s.toks) (o:=.lst (cutV xs lo hi)) (λb ob q=>YAd _ q) (YAn _) ?_,rfl,q _ (I.hok.fresh (YAn _))⟩;exact⟨YAQ (zf3 xs lo hi) hz,_,0,(r.drop (HT.sIx xs.length 0 lo)).take (HT.sIx xs.length xs.length hi-HT.sIx xs.length 0 lo),YAr _ rfl⟩
def zhP:V->Bool
 |.non=>true
 |.bl _=>true
 |.int _=>true
 |.str _=>true
 |_=>false
def eqV:V->V->Bool
 |.non,.non=>true
 |.bl a,.bl b=>a==b
 |.bl a,.int b=>(if a then 1 else 0)==b
 |.int a,.bl b=>a==(if b then 1 else 0)
 |.int a,.int b=>a==b
 |.str a,.str b=>a==b
 |_,_=>false
def zrc(ry:RelV y u)(rx:RelV x v)(fy:zhP y=true)(fx:zhP x=true):SeqAt.EqAt A s u v (eqV y x):=by
 cases y with
 |non=>
  cases ry;cases x with
  |non=>cases rx;exact SeqAt.EqAt.same _
  |bl b=>cases rx;exact SeqAt.EqAt.none_bool b
  |int b=>obtain⟨t,rfl⟩:=rx;exact SeqAt.EqAt.none_int b t
  |str b=>obtain⟨t,rfl⟩:=rx;exact SeqAt.EqAt.none_str b t
  |_=>exact absurd (show false=true from fx) YAA
 |bl a=>
  cases ry;cases x with
  |non=>cases rx;exact SeqAt.EqAt.bool_none a
  |bl b=>cases rx;exact SeqAt.EqAt.bool_bool a b
  |int b=>obtain⟨t,rfl⟩:=rx;exact SeqAt.EqAt.bool_int a b t
  |str b=>obtain⟨t,rfl⟩:=rx;exact SeqAt.EqAt.bool_str a b t
  |_=>exact absurd (show false=true from fx) YAA
 |int a=>
  obtain⟨t',rfl⟩:=ry;cases x with
  |non=>cases rx;exact SeqAt.EqAt.int_none a t'
  |bl b=>cases rx;exact SeqAt.EqAt.int_bool a t' b
  |int b=>obtain⟨t,rfl⟩:=rx;exact YCB a t' b t
  |str b=>obtain⟨t,rfl⟩:=rx;exact SeqAt.EqAt.int_str a t' b t
  |_=>exact absurd (show false=true from fx) YAA
 |str a=>
  obtain⟨t',rfl⟩:=ry;cases x with
  |non=>cases rx;exact SeqAt.EqAt.str_none a t'
  |bl b=>cases rx;exact SeqAt.EqAt.str_bool a t' b
  |int b=>obtain⟨t,rfl⟩:=rx;exact SeqAt.EqAt.str_int a t' b t
  |str b=>obtain⟨t,rfl⟩:=rx;exact SeqAt.EqAt.str_str a t' b t
  |_=>exact absurd (show false=true from fx) YAA
 |_=>exact absurd (show false=true from fy) YAA
def eqU(x:V)(u:Value):Bool:=match u with
 |.none=>eqV .non x
 |.bool b=>eqV (.bl b) x
 |.int i _=>eqV (.int i) x
 |.str z _=>eqV (.str z) x
 |_=>false
def zpl(r:RelV y u)(f:zhP y=true):eqU x u=eqV y x:=by
 cases y with
 |non=>cases r;rfl
 |bl b=>cases r;rfl
 |int i=>obtain⟨t,rfl⟩:=r;rfl
 |str z=>obtain⟨t,rfl⟩:=r;rfl
 |_=>exact absurd (show false=true from f) YAA
theorem zj2:∀{xs:List V}{us:List Value},Vals xs us->xs.all zhP=true->us.any (eqU x)=xs.any λy=>eqV y x
 |_,_,.nil,_=>rfl
 |y::xs,u::us,.cons r t,f=>by
  rw[YDv,YAI]at f;rw[YBY,YBY,zpl r f.1,zj2 t f.2]
theorem zhb(rx:RelV x v)(fx:zhP x=true):∀{xs:List V}{us:List Value},Vals xs us->xs.all zhP=true->∀u∈us,SeqAt.EqAt A s u v (eqU x u)
 |_,_,.nil,_=>λu hu=>by cases hu
 |y::xs,u::us,.cons r t,f=>λu' hu=>by
  rw[YDv,YAI]at f;rcases YAk.mp hu with rfl|hu
  .rw[zpl r f.1];exact zrc r rx f.1 fx
  .exact zhb rx fx t f.2 u' hu
def inV(x:V)(xs:List V):Bool:=xs.any λy=>eqV y x
def rIn(K:qq)(neg:Bool):R2:=λx y H Q=>∃p xs,y=.ref p/\(SqL K H p xs\/SqT K H p xs)/\zhP x=true/\xs.all zhP=true/\Q (.bl (if neg then !inV x xs else inV x xs)) H
def ze3:OpR X (compareOp .NotIn) (rIn X.K true):=by
 intro O s Y H x y v u Q I rx ry h;obtain⟨p,xs,rfl,hq,fx,fs,q⟩:=h;cases ry;rcases hq with hq|hq
 .obtain⟨its,r,pl,hz⟩:=I.list hq;refine SeqAt.notIn_listAt (eqU x) pl.isList (λw hw=>zhb rx fx r fs w (by simpa using hw)) ⟨.bl _,H,I,rfl,?_⟩;rw[show its.toArray.any (eqU x)=its.any (eqU x) by simp,zj2 r fs];exact q
 .obtain⟨its,r,pl,hz⟩:=I.tuple hq;refine SeqAt.notIn_tupleAt (eqU x) pl (λw hw=>zhb rx fx r fs w (by simpa using hw)) ⟨.bl _,H,I,rfl,?_⟩;rw[show its.toArray.any (eqU x)=its.any (eqU x) by simp,zj2 r fs];exact q
def zcq:CallR X (.builtin "len") (λxs H Q=>∃p ys,xs=[.ref p]/\(SqL X.K H p ys\/SqT X.K H p ys)/\Q (.int ys.length) H):=by
 intro O s Y H xs us Q I r h;obtain⟨p,ys,rfl,hq,q⟩:=h;obtain⟨u,rfl,rx⟩:=zda r;cases rx;have hn:=zfE;rcases hq with hq|hq
 .obtain⟨its,r',pl,hz⟩:=I.list hq;have hlen:=r'.length;exact Calls.call_len_list pl.isList (by simp only[YAu]<;>omega) ⟨.int ys.length,H,I.tok _,⟨s.toks+1,by rw[YAu,hlen]⟩,q⟩
 .obtain⟨its,r',pl,hz⟩:=I.tuple hq;have hlen:=r'.length;exact len_tuple pl (by simp only[YAu]<;>omega) ⟨.int ys.length,H,I.tok _,⟨s.toks+1,by rw[YAu,hlen]⟩,q⟩
def CallR.or{f:Value}{r r':List V->Hp->VK->Prop}(h:CallR X f r)(h':CallR X f r'):CallR X f (λxs H Q=>r xs H Q\/r' xs H Q):=by
 intro O s Y H xs us Q I rs q;rcases q with q|q
 .exact h O s Y H xs us Q I rs q
 .exact h' O s Y H xs us Q I rs q
def ze7:CallR X (.type "list") (λxs H Q=>∃p ys,xs=[.ref p]/\(SqL X.K H p ys\/SqT X.K H p ys)/\∀l,H l=none->Q (.ref l) (upd H l (.lst ys))):=by
 intro O s Y H xs us Q I r h;obtain⟨p,ys,rfl,hq,q⟩:=h;obtain⟨u,rfl,rx⟩:=zda r;cases rx;have fin:∀(its:List Value),Vals ys its->ys.length<=sizeLine->∀(h':Heap)(c':Nat),(∀b o',s.heap.get? b=some o'->h'.get? b=some o') ->
   h'.get? s.heap.objs.size=some {cls:=.type "list",dict:=none,data:=.seq its.toArray c',slots:=#[]}->EP X O Y Q (.ref s.heap.objs.size) {s with heap:=h'}:=λits r' hz h' c' kp e=>
  ⟨.ref s.heap.objs.size,_,I.laid (t':=s.toks) kp (YAn _) (show ObjOk X.prog X.w _ h' _ (.lst ys)from⟨hz,its,c',r',e⟩),rfl,q _ (I.hok.fresh (YAn _))⟩
 rcases hq with hq|hq
 .obtain⟨its,r',pl,hz⟩:=I.list hq;have hlen:=r'.length;obtain⟨o,ho,hc,n,hd⟩:=pl.isList;exact call_list_seq p (.inl rfl) ho hc hd (λh' c' kp e=>fin its r' hz h' c' kp e) (by simp only[YAu]<;>omega)
 .obtain⟨its,r',pl,hz⟩:=I.tuple hq;have hlen:=r'.length;obtain⟨o,ho,hc,n,hd⟩:=pl;exact call_list_seq p (.inr rfl) ho hc hd (λh' c' kp e=>fin its r' hz h' c' kp e) (by simp only[YAu]<;>omega)
def zh2:CallR X (.type "tuple") (λxs H Q=>∃p ys,xs=[.ref p]/\((SqL X.K H p ys/\∀l,H l=none->Q (.ref l) (upd H l (.tup ys)))\/(SqT X.K H p ys/\Q (.ref p) H))):=by
 intro O s Y H xs us Q I r h;obtain⟨p,ys,rfl,h⟩:=h;obtain⟨u,rfl,rx⟩:=zda r;cases rx;rcases h with⟨hq,q⟩|⟨hq,q⟩
 .obtain⟨its,r',pl,hz⟩:=I.list hq;have hlen:=r'.length;refine call_tuple_list pl.isList (λh' kp=>?_) (by simp only[YAu]<;>omega);have I1:Inv X O Y H {s with heap:=h'}:=I.kept (t':=s.toks) kp;have I2:Inv X O Y (upd H h'.objs.size (.tup ys)) {s with heap:=h'.push {cls:=.type "tuple",data:=.seq its.toArray}}:=
   I1.laid (t':=s.toks) (λb o e=>YAd _ e) (YAn _) (show ObjOk X.prog X.w _ _ _ (.tup ys)from⟨hz,its,r',IsTup.new _ _⟩)
  exact⟨.ref h'.objs.size,_,I2,rfl,q _ (I1.hok.fresh (YAn _))⟩
 .obtain⟨its,r',pl,hz⟩:=I.tuple hq;exact call_tuple_same pl ⟨.ref p,H,I,rfl,q⟩
noncomputable def tyV(K:qq)(T:String)(x:V)(H:Hp):Prop:=match x with
 |.str _=>T="str"
 |.int _=>T="int"
 |.ref p=>(T="list" /\ ∃xs,SqL K H p xs)\/(T="tuple" /\ ∃o,K.lookup p=some o/\o.cls=.type "tuple" /\ o.dict=none) \/
   (T="dict" /\ ((∃kvs,H p=some (.dK kvs))\/∃kvs,H p=some (.dT kvs)))\/(T="set" /\ ∃S n,H p=some (.set S n))
 |_=>False
def zry(I:Inv X O Y H s)(r:RelV x v)(ty:tyV X.K T x H) :
  s.TypeIs v T/\∀a,v=.ref a->∃ob,s.heap.get? a=some ob/\ob.dict=none:=by
 cases x with
 |str z=>
  obtain⟨t,rfl⟩:=r;cases (show T="str" from ty);exact⟨typeIs_str s z t,λ_ e=>nomatch e⟩
 |int i=>
  obtain⟨t,rfl⟩:=r;cases (show T="int" from ty);exact⟨typeIs_int s i t,λ_ e=>nomatch e⟩
 |ref p=>
  cases r;rcases ty with⟨rfl,xs,hq⟩|⟨rfl,o,hk,hc,hd⟩|⟨rfl,hk⟩|⟨rfl,S,n,hk⟩
  .obtain⟨its,_,pl,_⟩:=I.list hq;refine⟨pl.isList.typeIs,λa e=>?_⟩;cases e;obtain⟨o,n,e,c,hd,_⟩:=pl;exact⟨o,e,hd⟩
  .refine⟨⟨o,I.kIn p o hk,hc⟩,λa e=>?_⟩;cases e;exact⟨o,I.kIn _ o hk,hd⟩
  .have z:∃o,s.heap.get? p=some o/\o.ExactDict:=by
    rcases hk with⟨kvs,hk⟩|⟨kvs,hk⟩
    .obtain⟨_,_,_,_,o,_,_,e,ex,_⟩:=I.hok p _ hk;exact⟨o,e,ex⟩
    .obtain⟨_,_,_,_,o,_,_,e,ex,_⟩:=I.hok p _ hk;exact⟨o,e,ex⟩
   obtain⟨o,e,ex⟩:=z;refine⟨⟨o,e,ex.1⟩,λa e2=>?_⟩;cases e2;exact⟨o,e,ex.2.1⟩
  .obtain⟨o,_,_,_,e,ex,_⟩:=I.hok p _ hk;refine⟨⟨o,e,ex.1⟩,λa e2=>?_⟩;cases e2;exact⟨o,e,ex.2.1⟩
 |_=>exact False.elim ty
def tBM(K:qq)(T:String)(r:V->List V->Hp->VK->Prop)(to:TE)(t:TA):TE:=λY H Q=>to Y H λx H1=>tyV K T x H1/\t Y H1 λxs H2=>r x xs H2 Q
variable{o e:Expr}{es:List Expr}{to:TE}{t:TA}{name:Str}{apos cpos:Pos}{T id:String}{r:V->List V->Hp->VK->Prop}
def zln(pa:PlainAttrs T)(slot:Slot T name id)(hty:typeOf (.builtin id)=pure (.type "method_descriptor"))(hm:MtR X id r)(ho:PE X o to)(ha:PA X (e::es) t)
  (hbase:attributeBase o name X.env (eval o X.env)=eval o X.env:=by rfl)
  (hfew:((backTo cpos (starEach (e::es) X.env)).all (λx=>!x.1)&&(backToKw cpos (keywordEach [] X.env)).all (λx=>x.1.isSome)
   && decide ((e::es).length+([]:List Keyword).length+(if ([]:List Keyword).isEmpty then 0 else 1)<30))=true:=by rfl)
  (hline:(apos.endLine==cpos.line)=true:=by rfl) (hs:starEach (e::es) X.env=(false,eval e X.env)::starEach es X.env:=by rfl) (hplain:(backTo cpos (starEach es X.env)).any (·.1)=false:=by rfl) :
  PE X (.Call (.Attribute o name apos) (e::es) [] cpos) (tBM X.K T r to t):=by
 intro O s Y H Q I h;refine wpAny_Call_method_late hbase hfew hline rfl (thn (ho O s Y H _ I h) λv s1 ⟨x,H1,I1,r1,ty,q1⟩=>?_);obtain⟨h1,h2⟩:=zry I1 r1 ty;refine⟨T,id,pa,slot,hty,h1,h2,?_⟩;have hA:=ha cpos O s1 Y H1 _ I1 q1;rw[hs]at hA ⊢;refine Calls.callWith_builtin (by show(false || (backTo cpos (starEach es X.env)).any (·.1))=false;rw[hplain]<;>rfl) (Calls.evalArgs_plain ?_);exact thn hA λus s2 ⟨vs,H2,I2,r2,q2⟩=>hm O s2 Y H2 x vs v us Q I2 r1 r2 q2
end
def MtM(X:Cx)(id:String)(r:V->List V->Hp->VK->Prop):Prop:=
 ∀(O:List (Addr×Obj))(s:Shared)(Y:St)(H:Hp)(x:V)(xs:List V)(v:Value)(us:List Value)(Q:VK),Inv X O Y H s->RelV x v->Vals xs us->r x xs H Q ->
  wpAny (model X.prog X.w) X.A (call (.builtin id) (v::us)) (EP X O Y Q) X.xe s
def Vals.one:∀{x:V}{us:List Value},Vals [x] us->∃u,us=[u]/\RelV x u
 |_,_,.cons r .nil=>⟨_,rfl,r⟩
theorem Vals.rep(h:Vals xs us):∀k:Nat,Vals (List.replicate k xs).flatten (List.replicate k us).flatten
 |0=>.nil
 |k+1=>by
  rw[YAT,YAT,YBm,YBm];exact Vals.append h (Vals.rep h k)
theorem ziP(its:List Value):∀(k:Nat)(acc:List Value),
  List.foldl (λx1 x2=>x1++x2) acc.toArray (List.replicate k its.toArray)=(acc++(List.replicate k its).flatten).toArray
 |0,acc=>by simp
 |k+1,acc=>by
  have e:acc.toArray++its.toArray=(acc++its).toArray:=by simp
  have e2:(acc++its)++(List.replicate k its).flatten=acc++(List.replicate (k+1) its).flatten:=by
   rw[YAT,YBm,YAJ]
  rw[<-e2,<-ziP its k (acc++its),<-e,YAT,YDF]
section
variable{X:Cx}{O:List (Addr×Obj)}{Y:St}{H:Hp}{s:Shared}{l b:Addr}{xs ys zs:List V}
def Inv.lset{its its':List Value}{n:Nat}{f:Array Value->Array Value}{t':Nat}(I:Inv X O Y H s)(hH:H l=some (.lst xs))
  (e:s.heap.get? l=some {cls:=.type "list",data:=.seq its.toArray n}) (hf:f its.toArray=its'.toArray) (hv:Vals ys its') (hz:ys.length<=sizeLine) :
  Inv X O Y (upd H l (.lst ys)) {s with heap:=s.heap.update l (Obj.mapSeq f),toks:=t'}:=by
 have q:=PySem.IsL.update e f;rw[hf]at q;refine I.write (x:=l) (e:=l) (by rw[hH];exact trivial) (.inl rfl) (λb' u hb hu=>(YBB s.heap (Obj.mapSeq f) (Ne.symm hb)).trans hu) ⟨_,q⟩ ?_;exact⟨hz,its',_,hv,q⟩
def Inv.lnew(I:Inv X O Y H s)(hv:Vals ys its)(hz:ys.length<=sizeLine) :
  Inv X O Y (upd H s.heap.objs.size (.lst ys)) {s with heap:=s.heap.push {cls:=.type "list",data:=.seq its.toArray},toks:=t'}:=
 I.laid (λ_ _ q=>YAd _ q) (YAn _) ⟨hz,its,0,hv,YAr _ rfl⟩
theorem Inv.fresh(I:Inv X O Y H s):H s.heap.objs.size=none:=I.hok.fresh (YAn _)
def Inv.lstM(I:Inv X O Y H s)(hH:H l=some (.lst xs)):xs.length<=sizeLine/\∃(its:List Value)(n:Nat),Vals xs its/\xs.length=its.length/\s.heap.get? l=some {cls:=.type "list",data:=.seq its.toArray n}:=by
 obtain⟨z,its,n,r,e⟩:=I.hok l _ hH;exact⟨z,its,n,r,r.length,e⟩
def zoi{n:Nat}(h:n<=sizeLine):Builtin.List.listTooLong n=false:=by
 unfold Builtin.List.listTooLong;exact YAC (by omega)
end
section
variable{X:Cx}
def zpI:V->List V->Hp->VK->Prop:=λx vs H Q=>∃l xs y,x=.ref l/\vs=[y]/\H l=some (.lst xs)/\xs.length<sizeLine/\Q .non (upd H l (.lst (xs++[y])))
def zb2:MtM X "list.append" zpI:=by
 intro O s Y H x vs v us Q I rx rv h;obtain⟨l,xs,y,rfl,rfl,hH,hz,q⟩:=h;cases rx;obtain⟨u,rfl,ru⟩:=rv.one;obtain⟨z,its,n,r,hl,e⟩:=I.lstM hH;refine call_meets F.slot_list_append ⟨_,e,rfl⟩ F.entry_list_append (F.args_list_append_2 _ _) (PySem.list_append l its.toArray n u (by rw[YAu];omega)) ⟨e,?_⟩;refine⟨.non,_,I.lset (its':=its++[u]) hH e (by simp) (r.append (.cons ru .nil)) ?_,rfl,q⟩;rw[YAo,YBj];omega
def rCat:R2:=λx y H Q=>∃l b xs zs,x=.ref l/\y=.ref b/\H l=some (.lst xs)/\H b=some (.lst zs)/\xs.length+zs.length<=sizeLine/\∀p,H p=none->Q (.ref p) (upd H p (.lst (xs++zs)))
def op_cat:OpR X (binaryOp .Add) rCat:=by
 intro O s Y H x y v u Q I rx ry h;obtain⟨l,b,xs,zs,rfl,rfl,hH,hB,hz,q⟩:=h;cases rx;cases ry;obtain⟨z,its,n,r,hl,e⟩:=I.lstM hH;obtain⟨z2,its2,n2,r2,hl2,e2⟩:=I.lstM hB;refine PySem.P.add_list e e2 ?_ (by rw[YAu,YAu];omega);have ea:its.toArray++its2.toArray=(its++its2).toArray:=by simp
 rw[ea];exact⟨.ref _,_,I.lnew (t':=s.toks) (r.append r2) (by rw[YAo];omega),rfl,q _ I.fresh⟩
def rRep:R2:=λx y H Q=>∃l k xs,x=.ref l/\y=.int k/\H l=some (.lst xs)/\-(2^63)<=k/\k<2^63/\xs.length*k.toNat<=sizeLine /\
 ∀p,H p=none->Q (.ref p) (upd H p (.lst (List.replicate k.toNat xs).flatten))
def zpQ{α:Type}(xs:List α)(k:Nat):(List.replicate k xs).flatten.length=k*xs.length:=by
 induction k with
 |zero=>simp
 |succ k ih=>rw[YAT,YBm,YAo,ih,Nat.succ_mul,Nat.add_comm]
def zlV:OpR X (binaryOp .Mult) rRep:=by
 intro O s Y H x y v u Q I rx ry h;obtain⟨l,k,xs,rfl,rfl,hH,h1,h2,hz,q⟩:=h;cases rx;obtain⟨t,rfl⟩:=ry;obtain⟨z,its,n,r,hl,e⟩:=I.lstM hH;have hlen:its.toArray.size*k.toNat<=sizeLine:=by rw[YAu,<-hl];exact hz
 have hcap:¬ its.toArray.size*k.toNat>(2^63-1) / 8:=by
  have:(sizeLine:Nat)<=(2^63-1) / 8:=by decide
  omega
 have hfit:¬ (!Builtin.List.listFitsIndex k)=true:=by
  rw[fitsIndex_both h1 h2];exact YAA
 have hlong:¬ Builtin.List.listTooLong (its.toArray.size*k.toNat)=true:=by
  rw[zoi hlen];exact YAA
 have hnew:List.foldl (λx1 x2=>x1++x2) #[] (List.replicate (if its.toArray.isEmpty=true then 0 else k.toNat) its.toArray)=(List.replicate k.toNat its).flatten.toArray:=by
  have f0:∀m:Nat,List.foldl (λx1 x2=>x1++x2) #[] (List.replicate m its.toArray)=(List.replicate m its).flatten.toArray:=λm=>by
   have:=ziP its m []
   rw[YA4]at this;exact this
  rw[f0];cases its with
  |nil=>simp
  |cons a r'=>rw[if_neg (by simp)]
 refine wpAny_binaryOp_repeat_ref (T:="list") (U:="int") (by decide) ⟨_,e,rfl⟩ (λs'=>typeIs_int s' k t) noFill_list_mul F.fills_int_mul F.slot_int_rmul repeat_list F.slot_int_index.lookup
  (call_meets F.slot_int_rmul (typeIs_int s k t) F.entry_int_rmul (F.args_int_rmul_2 _ _) (int___rmul___int_list k t l its.toArray n)
   ⟨e,rfl,⟨_,e,rfl⟩,call_meets F.slot_list_mul ⟨_,e,rfl⟩ F.entry_list_mul (F.args_list_mul_2 _ _) (AutoListH.list___mul___list_int_3 l its.toArray n k t hfit hcap hlong) ⟨e,?_⟩⟩)
 rw[hnew];exact⟨.ref _,_,I.lnew (t':=s.toks) (r.rep k.toNat) (by rw[zpQ,Nat.mul_comm];exact hz),rfl,q _ I.fresh⟩
end
end L2
namespace Att
open PySem PySem.W PySem.Calls PyProof.Rows
def zf7{P:Params}{h:Heap}:∀(ns:List Int)(vs:List Value),WellAll P h vs (ns.map WData.int)->IntsAre vs ns:=by
 intro ns
 induction ns with
 |nil=>
  intro vs w;rw[YBM]at w;cases w;exact .nil
 |cons n ns ih=>
  intro vs w;rw[YAb]at w;cases w with
  |cons a b=>
   cases a;exact .cons _ _ (ih _ b)
def znd{l:OpenLaw}{n:Nat}(hn:l.most=some n){P:Params}{h:Heap}{args:List WData}{vals:List Value}
  (hpre:l.row.toRowW.claim.pre args=true) (hwl:WellAll P h vals args) :
  ∃a vs ns,vals=[Value.ref a]/\args=[WData.list (ns.map WData.int)]/\h.get? a=some {cls:=.type "list",data:=.seq vs.toArray}/\IntsAre vs ns/\ns.length<=n:=by
 have hsh:WShape.hasAll [] args [.list .int]=true:=(pre_splitW hpre).1;have hc:l.pre.holds [] {args:=args}=true:=(pre_splitW hpre).2;obtain⟨d,r,rfl,h1,h2⟩:=hasAllW_cons hsh;obtain rfl:=hasAllW_nil h2;obtain⟨xs,rfl,h3⟩:=hasW_list h1;obtain⟨ns,rfl⟩:=items_int h3;have hlen:ns.length<=n:=by
  unfold OpenLaw.pre at hc;have h4:(WTm.not (.lt (.lit (.int (n:Int))) (.len (.arg 0)))).holds [] {args:=[.list (ns.map .int)]}=true:=by
   have h4:=(holds_andW hc).1;rw[hn]at h4;exact h4
  have h5:=condW_of h4 (w_not (w_lt w_lit (w_len_list (w_arg rfl))));rw[YAc]at h5;refine YDy λq=>?_;have q':(n:Int)<((ns.length:Nat):Int):=by omega
  first
   | (rw[YAw q']at h5;exact absurd h5 (by decide))
   | (simp at h5;omega)
 cases hwl with
 |cons w1 w2=>
  cases w2;cases w1 with
  |list ho hall=>exact⟨_,_,ns,rfl,rfl,ho,zf7 ns _ hall,hlen⟩
def zl4(l:OpenLaw)(args:List WData):l.row.toRowW.claim.post args (.bool true) args=true:=
 postW_of (r:=l.row.toRowW) (X:=(true==true))
  (show WShape.has [] (.bool true) .bool=true by first|rfl|decide|simp[WShape.has,WShape.arms,WShape.armsAll])
  (show(WTm.eq .res (.lit (.bool true))).value [] {args:=args,res:=some (.bool true),after:=args}=some (.bool (true==true))from w_eq_bool (w_res rfl) w_lit) rfl
def attach_call{l:OpenLaw}{n:Nat}{q:Program}{loose:List Str}{XP:(Str->Option Value)->Heap->Prop}{YP:World->Heap->Prop}{d:DefRec}
  (hn:l.most=some n) (hdf:d.params.defaults=[])
  (call:∀(w:World)(s₀ s₁:Shared)(mg mb:Str->Option Value)(fa:Addr)(o:Obj)(pm cd doc:Value)(a:Addr)(vs:List Value)(ns:List Int),
   Ground q loose [] XP w s₀ mg mb s₁.heap->YP w s₁.heap ->
   s₁.heap.get? fa=some o->o.data=.func (docDef d.name d.params d.body d.scope pm cd doc)->s₁.heap.CodeRec cd d.name->mg d.name=some (.ref fa) ->
   s₁.heap.get? a=some {cls:=.type "list",data:=.seq vs.toArray}->IntsAre vs ns->ns.length<=n->s₁.gens=#[] ->
   codeAny (model l.prog w) callerA (.call (.ref fa) ⟨[.ref a],[]⟩) (λr s'=>r=.ok (.ret (.bool true))/\OldK s₁.heap s'.heap/\s'.os=s₁.os/\AllBare s'.gens) s₁) :
  WalkO q loose XP YP l.row.toRowW d [] (λf vs=>PySem.call f vs):=by
 intro w s₀ s₁ mg mb G qo fa o pm cd doc dV kV ho hd hcd hD hmg hg args vals as hpre hlay hrd hwl hlo;obtain rfl:dV=.none:=Dflts.none hD hdf;obtain rfl:kV=.none:=Dflts.noKw hD;obtain⟨a,vs,ns,rfl,rfl,hobj,hints,hlen⟩:=znd hn hpre hwl;refine enter_call (YDd (call w s₀ s₁ mg mb fa o pm cd doc a vs ns G qo ho (fd_plain hd) hcd hmg hobj hints hlen hg) λr s' hq=>?_);obtain⟨rfl,h2,h3,h4⟩:=hq;exact⟨.inl ⟨.bool true,.bool true,[],rfl,λ_=>rfl,.bool true,zl4 l _,λ_=>⟨List.Pairwise.nil,λ_ hm=>(nomatch hm)⟩⟩,h2,h3,h4⟩
end Att
namespace L2
open PySem PySem.Spec PyProof.Rows
theorem zie:∀{vs:List Value}{ns:List Int},IntsAre vs ns->Vals (ns.map V.int) vs
 |_,_,.nil=>.nil
 |_,_,.cons n t h=>.cons ⟨t,rfl⟩ (zie h)
def Only(H:Hp):Prop:=∀b,H b=none\/∃o xs,H b=some (.frz o (.lst xs))
def zov{P:Program}{w:World}{K:qq}{mg mb:Str->Option Value}{CX:CXT}{k:Nat}{fa a:Addr}{fd:FuncData}{x:Str}{sp:Sp}{s₁:Shared}{vs:List Value}{ns:List Int}
  (KX:K.In s₁.heap) (hns:s₁.heap.Ns mainGlobals mg) (hb:s₁.heap.Ns builtinsNs mb) (hbb:∀x:Str,x≠"__name__" -> mb x=bootBuiltins x) (hlim:s₁.heap.NoLimit) (hg:s₁.gens=#[])
  (ha:s₁.heap.get? a=some {cls:=.type "list",data:=.seq vs.toArray}) (hi:IntsAre vs ns) (hl:ns.length<=sizeLine) (hr:Room k callerA)
  (F:∀base:Heap,K.In base->base.Ns mainGlobals mg->FnOk P w K mg base CX k fa fd [x] sp) (hbind:∀(s:Shared)(u:Value),BindsTo s fd ⟨[u],[]⟩ [(x,u)])
  (hsp:∀H:Hp,Only H->SqL K H a (ns.map V.int)->sp [.ref a] H (λv _=>v=.bl true) λ_ _ _=>False)
  (hCX:∀H e s',CX [] H s₁ (λ_ _ _=>False) e s'->False) :
  codeAny (model P w) callerA (.call (.ref fa) ⟨[.ref a],[]⟩) (λr s'=>r=.ok (.ret (.bool true))/\OldK s₁.heap s'.heap/\s'.os=s₁.os/\AllBare s'.gens) s₁:=by
 have rv:=zie hi;have lenV:=hi.length
 -- from an abstract heap in which nothing but the script may be tracked
 have core:∀H:Hp,Only H->SqL K H a (ns.map V.int)->HOk P w H s₁.heap->(∀b,H b≠none->b=a)->(H a≠none->K.lookup a=none) ->
   codeAny (model P w) callerA (.call (.ref fa) ⟨[.ref a],[]⟩) (λr s'=>r=.ok (.ret (.bool true))/\OldK s₁.heap s'.heap/\s'.os=s₁.os/\AllBare s'.gens) s₁:=by
  intro H hO hS hok hA hK;have base_of:∀{b:Addr}{o:Obj},s₁.heap.get? b=some o->H b=none->(hidT s₁.heap H).get? b=some o:=λe n=>znW e n;have noA:∀{b:Addr}{o:Obj}{es:Array DictEntry}{ep:Nat},s₁.heap.get? b=some o->o.data=.dict es ep->H b=none:=λ{b o es ep} e d=>by
   cases q:H b with
   |none=>rfl
   |some u=>
    have e':b=a:=hA b (by rw[q];simp);subst e';rw[ha]at e;cases e;have d':Data.seq vs.toArray _=Data.dict es ep:=d;cases d'
  have nsK:∀{b:Addr}{m:Str->Option Value},s₁.heap.Ns b m->(hidT s₁.heap H).Ns b m:=λ{b m} ⟨o,es,ep,e,d,r⟩=>⟨o,es,ep,base_of e (noA e d),d,r⟩;have hKb:K.In (hidT s₁.heap H):=λb o e=>base_of (KX b o e) (by
   cases q:H b with
   |none=>rfl
   |some u=>
    have e':b=a:=hA b (by rw[q];simp);subst e';rw[hK (by rw[q];simp)]at e;cases e)
  have hM:Mod K mg (hidT s₁.heap H):=⟨hKb,nsK hns,⟨mb,nsK hb,hbb⟩,let⟨mc,h1,h2⟩:=hlim;⟨mc,nsK h1,h2⟩⟩;have e0:Env0 P w K mg (hidT s₁.heap H) callerA [] s₁ H:=⟨rfl,hM,λb o e=>zpR e,Nat.le_of_eq (zm4 _ _),trivial,λb hb=>absurd (show b∈([]:List Addr)from hb) (by simp),hok,.of_eq hg⟩;refine YDd ((F _ hKb (nsK hns)).run callerA [] s₁ H ⟨[.ref a],[]⟩ [.ref a] [.ref a] _ _ hr e0 (hbind s₁ (.ref a)) (.cons rfl .nil) (hsp H hO hS)) λr s' h=>?_;cases r with
  |error e=>exact(hCX H e s' h).elim
  |ok fl=>
   cases fl with
   |next=>exact False.elim h
   |brk=>exact False.elim h
   |cont=>exact False.elim h
   |ret u=>
    obtain⟨v,H',os,bare,un,hok',r',q⟩:=h;have q':v=.bl true:=q;subst q';obtain rfl:u=Value.bool true:=r';refine⟨rfl,OldK.of_keep λb o e=>?_,os,bare⟩;cases q:H b with
    |none=>exact un.keep b o e q (by intro z;exact absurd (show b∈([]:List Addr)from z) (by simp)) (by simp)
    |some u=>
     rcases hO b with z|⟨ob,xs,z⟩
     .rw[q]at z;cases z
     .have z2:=un.frzs b ob _ z;obtain⟨e1,_⟩:=hok b _ z;obtain⟨e2,_⟩:=hok' b _ z2;rw[e]at e1;cases e1;exact e2
 cases hk:K.lookup a with
 |some o=>
  -- the script is one of the module's own objects
  have e:=KX a o hk;rw[ha]at e;cases e;refine core (λ_=>none) (λ_=>.inl rfl) (.inr ⟨_,vs.toArray,_,hk,rfl,rfl,rfl,by rw[YAu,lenV];exact hl,by simpa using rv⟩) (λb u z=>by have z':(none:Option HO)=some u:=z;cases z') (λb z=>absurd rfl z) λz=>absurd rfl z
 |none=>
  refine core (λb=>if b=a then some (.frz {cls:=.type "list",data:=.seq vs.toArray} (.lst (ns.map V.int)))else none) (λb=>?_) (.inl (.inr ⟨{cls:=.type "list",data:=.seq vs.toArray},if_pos rfl⟩)) (λb u z=>?_) (λb z=>?_) λ_=>hk
  .by_cases hb:b=a
   .exact .inr ⟨_,_,if_pos hb⟩
   .exact .inl (if_neg hb)
  .by_cases hb:b=a
   .have z':=(if_pos hb).symm.trans z;cases z';subst hb;exact⟨ha,by rw[YAc];exact hl,vs,_,rv,ha⟩
   .have z':=(if_neg hb).symm.trans z;cases z'
  .by_cases hb:b=a
   .exact hb
   .exact absurd (if_neg hb) z
def zpG{l:PySem.W.OpenLaw}{n k:Nat}{q:Program}{loose:List Str}{XP:(Str->Option Value)->Heap->Prop}{YP:World->Heap->Prop}{d:DefRec}{K:Params->qq}{CX:World->CXT}{sp:World->Sp}{x:Str}
  (hn:l.most=some n) (hn2:n<=sizeLine) (hdf:d.params.defaults=[]) (hr:Room k callerA)
  (hY:∀(w:World)(h:Heap),YP w h->(K w.params).In h)
  (F:∀(w:World)(mg:Str->Option Value)(fa:Addr)(h:Heap),(K w.params).In h->h.Ns mainGlobals mg->mg d.name=some (.ref fa) ->
   ∃fd:FuncData,(∀(s:Shared)(u:Value),BindsTo s fd ⟨[u],[]⟩ [(x,u)]) /\
    ∀base:Heap,(K w.params).In base->base.Ns mainGlobals mg->FnOk l.prog w (K w.params) mg base (CX w) k fa fd [x] (sp w))
  (hsp:∀(w:World)(H:Hp)(a:Addr)(ns:List Int),ns.length<=n->Only H->SqL (K w.params) H a (ns.map V.int)->sp w [.ref a] H (λv _=>v=.bl true) λ_ _ _=>False)
  (hCX:∀(w:World)(H:Hp)(s:Shared)(e:Value)(s':Shared),CX w [] H s (λ_ _ _=>False) e s'->False) :
  PySem.W.WalkO q loose XP YP l.row.toRowW d [] (λf vs=>PySem.call f vs):=by
 refine Att.attach_call hn hdf λw s₀ s₁ mg mb fa o pm cd doc a vs ns G qo ho hd hcd hmg hobj hints hlen hg=>?_;have KX:=hY w _ qo;obtain⟨fd,hb,hF⟩:=F w mg fa _ KX G.T.g hmg;exact zov KX G.T.g G.T.b G.T.builtins G.T.nolimit hg hobj hints (YAQ hlen hn2) hr hF hb (λH hO hS=>hsp w H a ns hlen hO hS) λH e s'=>hCX w H s₁ e s'
def zdh(s:Stmt):Arguments:=match s with
 |.FunctionDef _ a _ _ _ _ _ _ _ _=>a
 |_=>{posonlyargs:=[],args:=[],vararg:=none,kwonlyargs:=[],kw_defaults:=[],kwarg:=none,defaults:=[]}
def zcg(s:Stmt):List Stmt:=match s with
 |.FunctionDef _ _ b _ _ _ _ _ _ _=>b
 |_=>[]
def zat(s:Stmt):Scope:=match s with
 |.FunctionDef _ _ _ _ _ _ sc _ _ _=>sc
 |_=>{kind:=.function,names:=[],isGenerator:=false,isCoroutine:=false}
abbrev CX0:CXT:=λ_ _ _ _ _ _=>False
abbrev E0:XK:=λ_ _ _=>False
def zl9:znJ CX0 X E0:=λ_ _ _ _ _ _ _ h=>h.elim
structure Fun(K:qq)(x qual:Str)(st:Stmt)(f:Addr)(fd:FuncData):Prop where
 ex:∃(oc:Value)(od:Option Addr)(kV doc pm:Value)(an:Option Addr)(cdv ct:Value)(osl:Array (Option Value)),
  fd=PySem.W.fnOf x qual (zdh st) (zcg st) (zat st) .none kV doc pm an cdv ct/\K.lookup f=some ⟨oc,od,.func fd,osl⟩/\PySem.W.codeIn K cdv qual=true
 kp:PySem.W.keepIn K (.ref f)=true
section
variable{P:Program}{w:World}{K:qq}{mg:Str->Option Value}{base:Heap}
def Fun.ok{x qual:Str}{st:Stmt}{f:Addr}{fd:FuncData}{N ps:List Str}{k:Nat}{sp:Sp}(F:Fun K x qual st f fd)(S:FnScope N ps (zat st))(len:∀vs H Q E,sp vs H Q E->vs.length=ps.length)
  (hbody:∀(cdv:Value)(A:Around)(outer:List Env)(s:Shared)(H:Hp)(vs:List V)(Q:VK)(E:XK),Room k (A.deeper (envOfC qual (zat st) s.heap.objs.size f cdv))->sp vs H Q E ->
   ∃t,PSs (cxOf CX0 P w K mg base N qual (zat st) f cdv A outer s H E).nox (zcg st) t/\t {nx:=λ_ H'=>Q .non H',rt:=Q} (start N vs) H):FnOk P w K mg base CX0 (k+1) f fd ps sp:=by
 obtain⟨oc,od,kV,doc,pm,an,cdv,ct,osl,rfl,lk,hcd⟩:=F.ex;refine zsr lk hcd S len λA outer s H vs Q E hr hsp=>?_;obtain⟨t,h,q⟩:=hbody cdv A outer s H vs Q E hr hsp;exact⟨t,h.nox,q⟩
def Fun.binds{x qual:Str}{st:Stmt}{f:Addr}{fd:FuncData}{ps:List Str}(F:Fun K x qual st f fd)
  (h:∀(kV doc pm:Value)(an:Option Addr)(cdv ct:Value)(us:List Value),us.length=ps.length->bindArgs (PySem.W.fnOf x qual (zdh st) (zcg st) (zat st) .none kV doc pm an cdv ct) ⟨us,[]⟩=pure (ps.zip us)):Binds K fd ps []:=by
 obtain⟨oc,od,kV,doc,pm,an,cdv,ct,osl,rfl,lk,hcd⟩:=F.ex;exact .all (h kV doc pm an cdv ct)
def zrd{x qual:Str}{st:Stmt}{f:Addr}{oc:Value}{od an:Option Addr}{osl:Array (Option Value)}{kV doc pm cdv ct:Value}(l:K.lookup f=some ⟨oc,od,.func (PySem.W.fnOf x qual (zdh st) (zcg st) (zat st) .none kV doc pm an cdv ct),osl⟩)
  (c:PySem.W.codeIn K cdv qual=true) (k:PySem.W.keepIn K (.ref f)=true):Fun K x qual st f (PySem.W.fnOf x qual (zdh st) (zcg st) (zat st) .none kV doc pm an cdv ct):=⟨⟨oc,od,kV,doc,pm,an,cdv,ct,osl,rfl,l,c⟩,k⟩
end
def zoO(hr:Room k A):A.units+1<cLine:=Nat.lt_of_le_of_lt (Nat.add_le_add_left (by decide:1<=64) _) hr.units
section
variable{X:Cx}
def pv(i:Nat)(hN:X.N[i]?=some x:=by rfl)(hv:Vis X.env.scope x:=by first|exact Or.inl rfl|exact Or.inr (Or.inl rfl)|exact Or.inr (Or.inr rfl))(hd:(x==("__debug__":Str))=false:=by decide)
  (hcd:(x==("__classdict__":Str))=false:=by decide):PE X (.Name x pos) (tVar i):=zdK hN hv hd hcd
end
def iteF{A B:Prop}(h:B):if false=true then A else B:=by
 rw[if_neg YAA];exact h
def iteT{A B:Prop}(h:A):if true=true then A else B:=by
 rw[if_pos rfl];exact h
def ite2{c A B:Prop}[Decidable c](h1:c->A)(h2:¬ c->B):if c then A else B:=by
 by_cases h:c
 .rw[if_pos h];exact h1 h
 .rw[if_neg h];exact h2 h
def zsT{c A B:Prop}[Decidable c](hc:c)(h:B):if (!decide c)=true then A else B:=by
 rw[YAw hc];exact iteF h
def Same(H H':Hp):Prop:=∀b o,H b=some o->H' b=some o
def Same.refl(H:Hp):Same H H:=λ_ _ h=>h
def Same.trans{H H1 H2:Hp}(a:Same H H1)(b:Same H1 H2):Same H H2:=λc o h=>b c o (a c o h)
def Same.free{H H':Hp}(e:Same H H'){l:Addr}(h:H' l=Option.none):H l=Option.none:=by
 cases q:H l with
 |none=>rfl
 |some o=>
  rw[e l o q]at h;cases h
def Same.seq{K:qq}{H H':Hp}{a:Addr}{xs:List V}(e:Same H H')(h:SqL K H a xs):SqL K H' a xs:=by
 rcases h with(h|⟨o,h⟩)|h
 .exact .inl (.inl (e _ _ h))
 .exact .inl (.inr ⟨o,e _ _ h⟩)
 .exact .inr h
section
variable{κ:Type}[DecidableEq κ]
def valV(kvs:List (κ×V))(k:κ):Option V:=(kvs.find? λkv=>decide (kv.1=k)).map (·.2)
def putK(kvs:List (κ×V))(k:κ)(v:V):List (κ×V):=
 if (kvs.any λkv=>decide (kv.1=k))=true then kvs.map (λkv=>if kv.1=k then(kv.1,v)else kv)else kvs++[(k,v)]
def zfn{p:κ×V}{r:List (κ×V)}{k:κ}(e:p.1=k):valV (p::r) k=some p.2:=by simp[valV,YBu,e]
def zfl{p:κ×V}{r:List (κ×V)}{k:κ}(e:¬ p.1=k):valV (p::r) k=valV r k:=by simp[valV,YBu,e]
theorem zeE(k:κ):∀kvs:List (κ×V),(kvs.any λkv=>decide (kv.1=k))=(valV kvs k).isSome
 |[]=>rfl
 |p::r=>by
  rw[YBY];by_cases e:p.1=k
  .simp only[zfn e,YAw e,Bool.true_or,Option.isSome_some]
  .rw[zfl e,YAC e,Bool.false_or];exact zeE k r
def zdT(kvs:List (κ×V))(k:κ)(v:V):(putK kvs k v).length<=kvs.length+1:=by
 unfold putK;split
 .rw[YAc];omega
 .rw[YAo,YAK,YC2];omega
def zkz{kvs:List (κ×V)}{k:κ}(v:V)(h:valV kvs k=none):putK kvs k v=kvs++[(k,v)]:=by
 unfold putK;rw[zeE,h];exact if_neg (by decide)
def RelO.isSome_eq(r:RelO o u):o.isSome=u.isSome:=by
 cases o with
 |none=>cases u with
  |none=>rfl
  |some _=>exact(show False from r).elim
 |some _=>cases u with
  |none=>exact(show False from r).elim
  |some _=>rfl
def KV.val{kvs:List (κ×V)}{vs:List (κ×Value)}(r:KV kvs vs)(k:κ):RelO (valV kvs k) (valueAt vs k):=by
 unfold KV at r
 induction r with
 |nil=>exact True.intro
 |@cons p q ps qs h t ih=>
  obtain⟨h1,h2⟩:=h;by_cases e:p.1=k
  .have e':q.1=k:=h1.symm.trans e;have b:valueAt (q::qs) k=some q.2:=by simp[valueAt,YBu,e']
   rw[zfn e,b];exact h2
  .have e':¬ q.1=k:=λz=>e (h1.trans z);have b:valueAt (q::qs) k=valueAt qs k:=by simp[valueAt,YBu,e']
   rw[zfl e,b];exact ih
theorem KV.any(r:KV kvs vs)(k:κ):(kvs.any λkv=>decide (kv.1=k))=vs.any λkv=>decide (kv.1=k):=by
 unfold KV at r
 induction r with
 |nil=>rfl
 |cons h t ih=>rw[YBY,YBY,ih,h.1]
def KV.repl(r:KV kvs vs)(k:κ)(ry:RelV y u) :
  KV (kvs.map λkv=>if kv.1=k then(kv.1,y)else kv) (vs.map λkv=>if kv.1=k then(kv.1,u)else kv):=by
 unfold KV at r ⊢
 induction r with
 |nil=>exact .nil
 |@cons p q ps qs h t ih=>
  rw[YAb,YAb];refine .cons ?_ ih;obtain⟨h1,h2⟩:=h;by_cases e:p.1=k
  .rw[if_pos e,if_pos (h1.symm.trans e)];exact⟨h1,ry⟩
  .rw[if_neg e,if_neg (λz=>e (h1.trans z))];exact⟨h1,h2⟩
def KV.put(r:KV kvs vs)(k:κ)(ry:RelV y u):KV (putK kvs k y) (stored vs k u):=by
 unfold putK stored;rw[r.any k];by_cases e:(vs.any λkv=>decide (kv.1=k))=true
 .rw[if_pos e,if_pos e];exact r.repl k ry
 .rw[if_neg e,if_neg e];exact Paired.snoc r ⟨rfl,ry⟩
theorem KV.length(r:KV kvs vs):kvs.length=vs.length:=Paired.length r
end
def zmQ(r:RelV (kV k) u):(zaH P w).is k u=true:=by
 cases k with
 |inl i=>obtain⟨t,e⟩:=(show ∃t,u=Value.int i t from r);subst e;exact zjA P w i t
 |inr x=>obtain⟨t,e⟩:=(show ∃t,u=Value.str x t from r);subst e;exact zjv P w x t
theorem zjj :∀{ks:List Key}{us:List Value},Vals (ks.map kV) us->ItemsAre (zaH P w) ks us
 |[],_,r=>by rw[YBM]at r;cases r;exact .nil
 |k::ks,_,r=>by
  rw[YAb]at r;cases r with
  |cons h t=>exact .cons (zmQ h) (zjj t)
abbrev KT(H:Hp):List (List Key×V)->List (List Key×Addr×Value)->Prop:=Paired λp q=>p.1=q.1/\H q.2.1=some (.tup (p.1.map kV))/\RelV p.2 q.2.2
def KT.val{H:Hp}{kvs:List (List Key×V)}{xs:List (List Key×Addr×Value)}(r:KT H kvs xs)(k:List Key):RelO (valV kvs k) ((atKey xs k).map (·.2)):=by
 induction r with
 |nil=>exact True.intro
 |@cons p q ps qs h t ih=>
  obtain⟨h1,_,h2⟩:=h;by_cases e:p.1=k
  .have e':q.1=k:=h1.symm.trans e;have b:atKey (q::qs) k=some q.2:=by simp[atKey,YBu,e']
   rw[zfn e,b];exact h2
  .have e':¬ q.1=k:=λz=>e (h1.trans z);have b:atKey (q::qs) k=atKey qs k:=by simp[atKey,YBu,e']
   rw[zfl e,b];exact ih
def KT.repl(r:KT H kvs xs)(k:List Key)(ry:RelV y u) :
  KT H (kvs.map λkv=>if kv.1=k then(kv.1,y)else kv) (xs.map (putAt k u)):=by
 induction r with
 |nil=>exact .nil
 |@cons p q ps qs h t ih=>
  rw[YAb,YAb];refine .cons ?_ ih;obtain⟨h1,h2,h3⟩:=h;unfold putAt;by_cases e:p.1=k
  .rw[if_pos e,if_pos (h1.symm.trans e)];exact⟨h1,h2,ry⟩
  .rw[if_neg e,if_neg (λz=>e (h1.trans z))];exact⟨h1,h2,h3⟩
def KT.put(r:KT H kvs xs)(k:List Key)(hb:H b=some (.tup (k.map kV)))(ry:RelV y u) :
  KT H (putK kvs k y) (storedH xs k b u):=by
 have e:(kvs.any λkv=>decide (kv.1=k))=(atKey xs k).isSome:=by
  rw[zeE,(r.val k).isSome_eq,Option.isSome_map]
 unfold putK storedH;rw[e];by_cases q:(atKey xs k).isSome=true
 .rw[if_pos q,if_pos q];exact r.repl k ry
 .rw[if_neg q,if_neg q];exact Paired.snoc r ⟨rfl,hb,ry⟩
def KT.keeps(r:KT H kvs xs)(ht:∀b ys,H b=some (.tup ys)->H' b=some (.tup ys)):KT H' kvs xs:=
 Paired.mapP r λ_ _ z=>⟨z.1,ht _ _ z.2.1,z.2.2⟩
section
variable{P:Program}{w:World}{H:Hp}{h:Heap}{a:Addr}
def zrz(ok:HOk P w H h)(e:Rd H a u):ObjOk P w H h a u:=e.ok ok
def zmk(ok:HOk P w H h)(e:Rd H a (.dK kvs)):kvs.length<=sizeLine/\(a==sysModules)=false/\∃vs,KV kvs vs/\h.DictOf (zaH P w) a vs:=
 show ObjOk P w H h a (.dK kvs)from zrz ok e
def zlj(ok:HOk P w H h)(e:H a=some (.dK kvs)):kvs.length<=sizeLine/\(a==sysModules)=false/\∃vs,KV kvs vs/\h.DictOf (zaH P w) a vs:=zmk ok (.inl e)
def zk0(ok:HOk P w H h)(e:H a=some (.tup (ks.map kV))):(tupleKind (zaH P w)).is h ks a:=by
 obtain⟨_,its,r,o,h1,h2,n,h3⟩:=(show ObjOk P w H h a (.tup (ks.map kV))from ok a _ e);exact⟨o,its.toArray,n,h1,h2,h3,by simpa using zjj r⟩
def zmc(ok:HOk P w H h)(e:Rd H a (.dT kvs)):kvs.length<=sizeLine/\(a==sysModules)=false /\
  ∃xs,KT H kvs xs/\h.DictOfH (tupleKind (zaH P w)) a xs:=by
 obtain⟨z,y,xs,r,o,es,ep,h1,h2,h3,h4,h5⟩:=(show ObjOk P w H h a (.dT kvs)from zrz ok e);refine⟨z,y,xs,r,o,es,ep,h1,h2,h3,h4,λx hx=>?_,h5⟩;have all:∀{l:List (List Key×V)}{m:List (List Key×Addr×Value)},KT H l m->∀x∈m,(tupleKind (zaH P w)).is h x.1 x.2.1:=by
  intro l m q
  induction q with
  |nil=>intro x hx;exact nomatch hx
  |@cons p q ps qs hq t ih=>
   intro x hx;rcases YAk.mp hx with e|hx
   .subst e;exact zk0 ok (by rw[<-hq.1];exact hq.2.1)
   .exact ih x hx
 exact all r x hx
def zsX(ok:HOk P w H h)(e:H a=some (.dT kvs)):kvs.length<=sizeLine/\(a==sysModules)=false /\
  ∃xs,KT H kvs xs/\h.DictOfH (tupleKind (zaH P w)) a xs:=zmc ok (.inl e)
end
def DGet(H:Hp)(a:Addr)(y:V)(r:Option V):Prop:=
 (∃kvs k,Rd H a (.dK kvs)/\y=kV k/\r=valV kvs k)\/∃kvs k b,Rd H a (.dT kvs)/\y=.ref b/\H b=some (.tup (k.map kV))/\r=valV kvs k
def DPut(H:Hp)(a:Addr)(y v:V)(H':Hp):Prop:=
 (∃kvs k,H a=some (.dK kvs)/\y=kV k/\kvs.length<sizeLine/\H'=upd H a (.dK (putK kvs k v))) \/
 ∃kvs k b,H a=some (.dT kvs)/\y=.ref b/\H b=some (.tup (k.map kV))/\kvs.length<sizeLine/\H'=upd H a (.dT (putK kvs k v))
theorem DGet.k{H:Hp}{a:Addr}{kvs:List (Key×V)}{k:Key}(e:H a=some (.dK kvs)):DGet H a (kV k) (valV kvs k):=.inl ⟨kvs,k,.inl e,rfl,rfl⟩
theorem DPut.k{H:Hp}{a:Addr}{kvs:List (Key×V)}{k:Key}{v:V}(e:H a=some (.dK kvs))(hl:kvs.length<sizeLine):DPut H a (kV k) v (upd H a (.dK (putK kvs k v))):=.inl ⟨kvs,k,e,rfl,hl,rfl⟩
section
variable{X:Cx}{O:List (Addr×Obj)}{Y:St}{H:Hp}{s:Shared}{a:Addr}{y v:V}{u r:Value}{o:Option V}{A:Around}{E:Value->Shared->Prop}
def Inv.big(I:Inv X O Y H s):sysModules<s.heap.objs.size:=by
 have h:mainGlobals<s.heap.objs.size:=(I.mod.glob.keeps I.bk).lt;exact Nat.lt_trans (by decide) h
def znC(hu:A.units+1<cLine)(I:Inv X O Y H s)(g:DGet H a y (some v))(ry:RelV y u)(h:∀w' s',Inv X O Y H s'->RelV v w'->Q w' s') :
  wpAny (model X.prog X.w) A (getItem (.ref a) u) Q E s:=by
 rcases g with⟨kvs,k,e,ey,l⟩|⟨kvs,k,b,e,ey,eb,l⟩
 .subst ey;obtain⟨z,hd,vs,rel,dd⟩:=zmk I.hok e;obtain⟨w',hw,rw'⟩:=RelO.some_of (v:=v) (o:=valueAt vs k) (by rw[l];exact rel.val k);exact wpAny_getItem_of (zmQ ry) dd.mapOf hw (h w' _ (I.tok _) rw')
 .subst ey;cases (show u=Value.ref b from ry);obtain⟨z,hd,xs,rel,dd⟩:=zmc I.hok e;obtain⟨w',hw,rw'⟩:=RelO.some_of (v:=v) (o:=(atKey xs k).map (·.2)) (by rw[l];exact rel.val k);obtain⟨p,hp,hp2⟩:=Option.map_eq_some_iff.mp hw;refine wpAny_getItem_heap (YDg hu) (zk0 I.hok eb) dd hp ?_;rw[hp2];exact h w' _ (I.tok _) rw'
def zpA(hu:A.units+1<cLine)(I:Inv X O Y H s)(g:DGet H a y o)(ry:RelV y u)(h:∀s',Inv X O Y H s'->Q (.bool (!o.isSome)) s') :
  wpAny (model X.prog X.w) A (compareOp .NotIn u (.ref a)) Q E s:=by
 rcases g with⟨kvs,k,e,ey,l⟩|⟨kvs,k,b,e,ey,eb,l⟩
 .subst ey;obtain⟨z,hd,vs,rel,dd⟩:=zmk I.hok e;refine wpAny_notIn_of (zmQ ry) hd dd.mapOf ?_;rw[<-(rel.val k).isSome_eq,<-l];exact h _ (I.tok _)
 .subst ey;cases (show u=Value.ref b from ry);obtain⟨z,hd,xs,rel,dd⟩:=zmc I.hok e;refine wpAny_notIn_heap (YDg hu) (zk0 I.hok eb) hd dd ?_;have q:=(rel.val k).isSome_eq;rw[Option.isSome_map]at q;rw[<-q,<-l];exact h _ (I.tok _)
def zjI(I:Inv X O Y H s)(mu:Mut (H a))(hs:Heap.SameBut a s.heap h')(he:∃q,h'.get? a=some q)(new:ObjOk X.prog X.w (upd H a ob) h' a ob) :
  Inv X O Y (upd H a ob) {s with heap:=h',toks:=t'}:=
 I.write (x:=a) (e:=a) mu (.inl rfl) (λb q hb z=>(hs.2 b hb).trans z) he new
def zpf(z:kvs.length<=sizeLine)(hd:(a==sysModules)=false)(rel:KV kvs vs)(dd:h'.DictOf (zaH P w) a vs) :
  ObjOk P w H' h' a (.dK kvs):=⟨z,hd,vs,rel,dd⟩
def zmo(hu:A.units+1<cLine)(I:Inv X O Y H s)(g:DPut H a y v H')(ry:RelV y u)(rv:RelV v r)(h:∀s',Inv X O Y H' s'->Q () s') :
  wpAny (model X.prog X.w) A (setItem (.ref a) u r) Q E s:=by
 rcases g with⟨kvs,k,e,ey,l,eH⟩|⟨kvs,k,b,e,ey,eb,l,eH⟩
 .subst ey eH;obtain⟨z,hd,vs,rel,dd⟩:=zlj I.hok e;have hz:vs.length<=sizeLine:=by rw[<-rel.length];exact z
  have hl:(putK kvs k v).length<=sizeLine:=by have:=zdT kvs k v;omega
  refine wpAny_setItem_pairs (hsz:=hz) (zmQ ry) dd λh' dd' hs=>h _ ?_;have he:∃q,h'.get? a=some q:=let⟨q,_,_,hq,_⟩:=dd';⟨q,hq⟩
  exact zjI I (by rw[e];exact True.intro) hs he (zpf hl hd (rel.put k rv) dd')
 .subst ey eH;cases (show u=Value.ref b from ry);obtain⟨z,hd,xs,rel,dd⟩:=zsX I.hok e;have hz:xs.length<=sizeLine:=by rw[<-Paired.length rel];exact z
  have hl:(putK kvs k v).length<=sizeLine:=by have:=zdT kvs k v;omega
  refine wpAny_setItem_heap (hsz:=hz) (YDg hu) (zk0 I.hok eb) dd λh' dd' hs=>h _ ?_;obtain⟨q,es,ep,hq,h2,h3,h4,_,h5⟩:=dd';refine zjI I (by rw[e];exact True.intro) hs ⟨q,hq⟩ ⟨hl,hd,_,(rel.put k eb rv).keeps λc ys ec=>?_,q,es,ep,hq,h2,h3,h4,h5⟩;rw[zaf (zsb ec e (λz=>nomatch z))];exact ec
end
def NoSl(i:Expr):Prop:=∀ov iv,subscripted i false ov iv=operate [ov,iv] (getItem ov iv)
def zp6{prog:Program}{w:World}{A:Around}{E:Value->Shared->Prop}{s:Shared}{env:Env}{value slice:Expr}{pos:Pos}{T id:String}{Q:Value->Shared->Prop}
  (hl:typeLookup (.type T) "__getitem__"=pure (some (.builtin id))) (hs:NoSl slice)
  (h:wpAny (model prog w) A (eval value env) (λo s₁=>wpAny (model prog w) A (eval slice env) (λi s₂=>s₂.TypeIs o T/\wpAny (model prog w) A (getItem o i) Q E s₂) E s₁) E s) :
  wpAny (model prog w) A (eval (.Subscript value slice pos) env) Q E s:=by
 refine Subscript_ (YA2 h (λo s₁ h₁=>YA2 h₁ (λi s₂ h₂=>?_) λ_ _ x=>x) λ_ _ x=>x);obtain⟨hT,h₂⟩:=h₂;unfold subscriptTail;refine YAa ?_;rw[getitemInPython_of_ne hT.not_modules];refine YAa (YC3 hT hl ?_);have fin:wpAny (model prog w) A (subscripted slice false o i) (λr s₃=>wpAny (model prog w) A (letTemporaryGo value o r >>=λ_=>pure r) Q E s₃) E s₂:=by
  rw[hs o i];exact wpAny_operating (YA2 h₂ (λr s₃ h₃=>YAa (wpAny_letTemporaryGo (YAf h₃))) λ_ _ x=>x)
 first
  |exact YAf (YAa fin)
  |exact YAa (YAf (YAa fin))
  |exact YAa fin
def zjJ(I:Inv X O Y H s)(g:DGet H a y o):s.TypeIs (.ref a) "dict":=by
 rcases g with⟨kvs,k,e,_,_⟩|⟨kvs,k,b,e,_,_,_⟩
 .obtain⟨_,_,vs,_,dd⟩:=zmk I.hok e;exact dd.typeIs
 .obtain⟨_,_,xs,_,dd⟩:=zmc I.hok e;exact dd.typeIs
def zsw(td ty:TE):TE:=λY H Q=>td Y H λx H1=>ty Y H1 λy H2=>∃a v,x=.ref a/\DGet H2 a y (some v)/\Q v H2
def zp7(ty td:TE):TE:=λY H Q=>ty Y H λy H1=>td Y H1 λx H2=>∃a o,x=.ref a/\DGet H2 a y o/\Q (.bl (!o.isSome)) H2
def zsm(td ty tv:TE):TS:=λD Y H=>tv Y H λv H1=>td Y H1 λx H2=>ty Y H2 λy H3=>∃a H4,x=.ref a/\DPut H3 a y v H4/\D.nx Y H4
section
variable{X:Cx}{o i e value:Expr}{pos pos' tpos:Pos}{td ty tv:TE}
def zhs(hu:X.A.units+1<cLine)(ho:PE X o td)(hi:PE X i ty)(hs:NoSl i):PE X (.Subscript o i pos) (zsw td ty):=by
 intro O s Y H Q I h;refine zp6 PySem.F.slot_dict_getitem.lookup hs (thn (ho O s Y H _ I h) λu s1 ⟨x,H1,I1,rx,q1⟩=>thn (hi O s1 Y H1 _ I1 q1) λiv s2 ⟨y,H2,I2,ry,a,v,ex,g,q2⟩=>?_);subst ex;obtain rfl:u=Value.ref a:=rx;exact⟨zjJ I2 g,znC hu I2 g ry λw' s3 I3 rw'=>⟨v,H2,I3,rw',q2⟩⟩
def zf6(hu:X.A.units+1<cLine)(hi:PE X i ty)(ho:PE X o td):PC X .NotIn i o (zp7 ty td):=by
 intro O s Y H Q I h;refine thn (hi O s Y H _ I h) λiv s1 ⟨y,H1,I1,ry,q1⟩=>thn (ho O s1 Y H1 _ I1 q1) λu s2 ⟨x,H2,I2,rx,a,ov,ex,g,q2⟩=>?_;subst ex;obtain rfl:u=Value.ref a:=rx;exact zpA hu I2 g ry λs3 I3=>⟨.bl (!ov.isSome),H2,I3,rfl,q2⟩
def zqa(hu:X.A.units+1<cLine)(ho:PE X o td)(hi:PE X i ty)(hv:PE X value tv)(hs:swapsWith value (some (.Subscript o i pos')) pos.line X.env=pure false) :
  PS X (.Assign [.Subscript o i pos'] value pos) (zsm td ty tv):=by
 intro O s Y H D I h;refine wpAny_Assign_Subscript (thn (hv O s Y H _ I h) λr s1 ⟨v,H1,I1,rv,q1⟩=>thn (ho O s1 Y H1 _ I1 q1) λu s2 ⟨x,H2,I2,rx,q2⟩=>thn (hi O s2 Y H2 _ I2 q2) λiv s3 ⟨y,H3,I3,ry,a,H4,ex,g,q3⟩=>?_) hs;subst ex;obtain rfl:u=Value.ref a:=rx;exact zmo hu I3 g ry rv λs4 I4=>⟨Y,H4,I4,q3⟩
end
def zkV(h:Heap)(hb:sysModules<h.objs.size):ObjOk P w H (h.push {cls:=.type "dict",data:=.dict #[]}) h.objs.size (.dK []):=
 ⟨YAH _,YCZ.mpr (Ne.symm (YAv hb)),[],.nil,Heap.DictOf.new h⟩
def zr5:TE:=λ_ H Q=>∀p,H p=none->Q (.ref p) (upd H p (.dK []))
section
variable{X:Cx}{pos:Pos}
def zkD:PE X (.Dict [] [] pos) zr5:=λO s Y H Q I h=>
 wpAny_Dict_empty ⟨.ref s.heap.objs.size,_,I.laid (a:=s.heap.objs.size) (o:=.dK []) (t':=s.toks) (λ_ _ q=>YAd _ q) (YAn _) (zkV s.heap I.big),rfl,h _ (I.hok.fresh (YAn _))⟩
end
def znp:List (TE×TE)->St->Hp->(List (V×V)->Hp->Prop)->Prop
 |[],_,H,Q=>Q [] H
 | (tk,tv)::r,Y,H,Q=>tk Y H λx H1=>tv Y H1 λy H2=>znp r Y H2 λps H3=>Q ((x,y)::ps) H3
abbrev VV:List (V×V)->List (Value×Value)->Prop:=Paired λp q=>RelV p.1 q.1/\RelV p.2 q.2
noncomputable def PPs(X:Cx)(pos:Pos)(keys:List (Option Expr))(values:List Expr)(trs:List (TE×TE)):Prop:=
 ∀(O:List (Addr×Obj))(s:Shared)(Y:St)(H:Hp)(Q:List (V×V)->Hp->Prop),Inv X O Y H s->znp trs Y H Q ->
  wpAny (model X.prog X.w) X.A (evalPairs (pairTrees keys values X.env pos)) (λvs s'=>∃ps H',Inv X O Y H' s'/\VV ps vs/\Q ps H') X.xe s
def zqH:PPs X pos [] [] []:=λO s Y H Q I h=>pairTrees_nil_walk ⟨[],H,I,.nil,h⟩
def znT(hk:PE X k tk)(hv:PE X v tv)(hr:PPs X pos ks vs trs) :
  PPs X pos (some k::ks) (v::vs) ((tk,tv)::trs):=λO s Y H Q I h=>
 pairTrees_cons_walk (thn (hk O s Y H _ I h) λu s1 ⟨x,H1,I1,rx,q1⟩=>thn (hv O s1 Y H1 _ I1 q1) λw2 s2 ⟨y,H2,I2,ry,q2⟩=>
  thn (hr O s2 Y H2 _ I2 q2) λws s3 ⟨ps,H3,I3,rel,q3⟩=>⟨(x,y)::ps,H3,I3,.cons ⟨rx,ry⟩ rel,q3⟩)
def mergeK(kvs more:List (Key×V)):List (Key×V):=more.foldl (λacc kv=>putK acc kv.1 kv.2) kvs
def KV.merge:∀{more:List (Key×V)}{rs:List (Key×Value)}{kvs:List (Key×V)}{vs:List (Key×Value)},KV more rs->KV kvs vs->KV (mergeK kvs more) (merged vs rs):=by
 intro more rs kvs vs r;unfold KV at r
 induction r generalizing kvs vs with
 |nil=>intro q;exact q
 |@cons p q ps qs h t ih=>
  intro r0;have e:KV (putK kvs p.1 p.2) (stored vs q.1 q.2):=by
   have:=r0.put p.1 h.2
   rw[<-h.1];exact this
  exact ih e
theorem zcR:∀(more kvs:List (Key×V)),(mergeK kvs more).length<=kvs.length+more.length
 |[],kvs=>by show kvs.length<=kvs.length+0;omega
 |p::r,kvs=>by
  have h1:=zcR r (putK kvs p.1 p.2);have h2:=zdT kvs p.1 p.2;show(mergeK (putK kvs p.1 p.2) r).length<=_;rw[YAK];omega
theorem zgP :∀{kvs:List (Key×V)}{ws:List (Value×Value)},VV (kvs.map λkv=>(kV kv.1,kv.2)) ws->∃rs,Carries (zaH P w) ws rs/\KV kvs rs
 |[],_,r=>by rw[YBM]at r;cases r;exact⟨[],True.intro,.nil⟩
 |p::kvs,_,r=>by
  rw[YAb]at r;cases r with
  |@cons a b as bs h t=>
   obtain⟨rs,c,q⟩:=zgP (P:=P) (w:=w) t;obtain⟨b1,b2⟩:=b;exact⟨(p.1,b2)::rs,⟨zmQ h.1,rfl,c⟩,.cons ⟨rfl,h.2⟩ q⟩
def zsk(trs:List (TE×TE)):TE:=λY H Q=>∀p,H p=none->znp trs Y (upd H p (.dK [])) λps H2=>H2 p=some (.dK [])/\∃kvs:List (Key×V),ps=kvs.map (λkv=>(kV kv.1,kv.2))/\kvs.length<=15/\Q (.ref p) (upd H2 p (.dK (mergeK [] kvs)))
def zpL(h:PPs X pos keys values trs)(hall:keys.all (·.isSome)=true)(hl:keys.length=values.length)(h0:keys≠[])
  (h15:keys.length<=15):PE X (.Dict keys values pos) (zsk trs):=by
 intro O s Y H Q I q;have hn:=I.hok.fresh (YAn s.heap.objs.size);have I1:=I.laid (a:=s.heap.objs.size) (o:=.dK []) (h':=s.heap.push {cls:=.type "dict",data:=.dict #[]}) (t':=s.toks) (λ_ _ q=>YAd _ q) (YAn _) (zkV s.heap I.big);refine wpAny_Dict_walk (knd:=zaH X.prog X.w) hall hl h0 h15 (thn (h O _ Y _ _ I1 (q _ hn)) λws s2 ⟨ps,H2,I2,rel,e,kvs,ep,lk,q2⟩=>?_);subst ep;obtain⟨rs,c,rk⟩:=zgP (P:=X.prog) (w:=X.w) rel;obtain⟨z,hd,vs0,r0,dd⟩:=zlj I2.hok e;cases r0;refine⟨rs,c,dd,λh' dd' hs=>⟨.ref s.heap.objs.size,_,?_,rfl,q2⟩⟩;have hz:(mergeK [] kvs).length<=sizeLine:=by
  have h1:=zcR kvs [];rw[YC2]at h1;rw[YAP];omega
 have he:∃q,h'.get? s.heap.objs.size=some q:=let⟨q,_,_,hq,_⟩:=dd';⟨q,hq⟩
 exact zjI I2 (by rw[e];exact True.intro) hs he (zpf hz hd (rk.merge .nil) dd')
structure M1(X:Cx)(o:Expr)(m:Str)(apos:Pos)(e:Expr)(cpos:Pos):Prop where
 base:attributeBase o m X.env (eval o X.env)=eval o X.env
 few:((backTo cpos (starEach [e] X.env)).all (λx=>!x.1)&&(backToKw cpos (keywordEach [] X.env)).all (λx=>x.1.isSome)
  && decide (([e]:List Expr).length+([]:List Keyword).length+(if ([]:List Keyword).isEmpty then 0 else 1)<30))=true
 line:(apos.endLine==cpos.line)=true
 trees:backTo cpos (starEach [e] X.env)=[(false,eval e X.env)]
def IsD(H:Hp)(a:Addr):Prop:=(∃kvs,Rd H a (.dK kvs))\/∃kvs,Rd H a (.dT kvs)
def zrR(I:Inv X O Y H s)(d:IsD H a) :
  s.TypeIs (.ref a) "dict" /\ (∀b,Value.ref a=.ref b->∃ob,s.heap.get? b=some ob/\ob.dict=none)/\(a==sysModules)=false:=by
 rcases d with⟨kvs,e⟩|⟨kvs,e⟩
 .obtain⟨_,hd,vs,_,dd⟩:=zmk I.hok e;refine⟨dd.typeIs,λb q=>?_,hd⟩;cases q;obtain⟨ob,_,_,h1,h2,_⟩:=dd;exact⟨ob,h1,h2.2.1⟩
 .obtain⟨_,hd,xs,_,dd⟩:=zmc I.hok e;refine⟨dd.typeIs,λb q=>?_,hd⟩;cases q;obtain⟨ob,_,_,h1,h2,_⟩:=dd;exact⟨ob,h1,h2.2.1⟩
section
variable{κ:Type}[DecidableEq κ]
def zoI{kvs:List (κ×V)}{k:κ}(h:valV kvs k=none):¬ k∈kvs.map (·.1):=by
 intro m;obtain⟨p,hp,e⟩:=YAF.mp m;have q:(kvs.any λkv=>decide (kv.1=k))=true:=List.any_eq_true.mpr ⟨p,hp,YAw e⟩;rw[zeE,h]at q;exact absurd q (by simp)
def znA{kvs:List (κ×V)}{k:κ}{v:V}(h:valV kvs k=some v):k∈kvs.map (·.1):=by
 have q:(kvs.any λkv=>decide (kv.1=k))=true:=by
  rw[zeE,h]
  all_goals rfl
 obtain⟨p,hp,e⟩:=List.any_eq_true.mp q;exact YAF.mpr ⟨p,hp,YA3 e⟩
theorem zhl:∀{l:List κ}{k:κ},l.Nodup->¬ k∈l->(l++[k]).Nodup
 |[],k,_,_=>by simp
 |a::r,k,h,hk=>by
  obtain⟨h1,h2⟩:=YBh.mp h;show(a::(r++[k])).Nodup;refine YBh.mpr ⟨λm=>?_,zhl h2 λm=>hk (YAk.mpr (Or.inr m))⟩;rcases YAm.mp m with q|q
  .exact h1 q
  .exact hk (YAk.mpr (Or.inl (YAg.mp q).symm))
end
end L2
set_option maxHeartbeats 4000000
namespace L2
open PySem PySem.Spec PyProof.Rows
def zrC(Y:St):Option Nat->Option V
 |none=>none
 |some j=>(Y[j]?).join
def zbk(sub:List (Option Nat))(Y:St):St:=sub.map (zrC Y)
def zd8(sub:List (Option Nat))(Y:St):(zbk sub Y).length=sub.length:=by unfold zbk;simp
def zdl{sub:List (Option Nat)}{Y:St}{i:Nat}{v:V}(h:(zbk sub Y)[i]?=some (some v)):∃j,sub[i]?=some (some j)/\Y[j]?=some (some v):=by
 unfold zbk at h;rw[YAq]at h;cases e:sub[i]? with
 |none=>rw[e]at h;cases h
 |some o=>
  rw[e]at h;have h':zrC Y o=some v:=Option.some.inj h;cases o with
  |none=>cases h'
  |some j=>
   refine⟨j,rfl,?_⟩;have h2:(Y[j]?).join=some v:=h';cases e2:Y[j]? with
   |none=>rw[e2]at h2;cases h2
   |some w=>rw[e2]at h2;exact congrArg some h2
noncomputable def zgM(N:List Str)(osc sc:Scope)(Nc:List Str)(sub:List (Option Nat)):Bool:=
 decide (sc.kind=.function)&&sc.names.all (λy=>decide (y.2≠.cell))&&sc.names.all (λy=>!decide (y.2=.local) || decide (sc.names.lookup y.1=some .local))&&decide (sub.length=Nc.length) &&
 (Nc.zip sub).all (λp=>match p.2 with|none=>true|some j=>decide (N[j]?=some p.1)&&decide (sc.names.lookup p.1=some .free)) &&
 sc.names.all (λy=>!decide (y.2=.free) || (decide (osc.names.lookup y.1=some .cell) || decide (osc.names.lookup y.1=some .free)))
structure CompScope(N:List Str)(osc sc:Scope)(Nc:List Str)(sub:List (Option Nat)):Prop where
 kind:sc.kind=.function
 nocell:∀y∈sc.names,y.2≠.cell
 names:∀y∈sc.names,y.2=.local->sc.names.lookup y.1=some .local
 len:sub.length=Nc.length
 vis:∀(i j:Nat)(x:Str),Nc[i]?=some x->sub[i]?=some (some j)->N[j]?=some x/\sc.names.lookup x=some .free
 frees:∀y∈sc.names,y.2=.free->osc.names.lookup y.1=some .cell\/osc.names.lookup y.1=some .free
def CompScope.of{N:List Str}{osc sc:Scope}{Nc:List Str}{sub:List (Option Nat)}(h:zgM N osc sc Nc sub=true):CompScope N osc sc Nc sub:=by
 unfold zgM at h;simp only[YAI,YCh,YCq,Bool.or_eq_true,Bool.not_eq_true',decide_eq_false_iff_not]at h;obtain⟨⟨⟨⟨⟨h1,h2⟩,h3⟩,h4⟩,h5⟩,h6⟩:=h;refine⟨h1,h2,λy hy e=>(h3 y hy).elim (λz=>absurd e z) id,h4,λi j x e1 e2=>?_,λy hy e=>(h6 y hy).elim (λz=>absurd e z) id⟩;have hz:(Nc.zip sub)[i]?=some (x,some j):=by
  rw[List.getElem?_zip_eq_some];exact⟨e1,e2⟩
 have q:=h5 (x,some j) (YAz hz);simp only[YAI,YCq]at q;exact q
def clOf(cells:List (Str×Addr)):List (Str×NameKind)->List (Str×Addr)->List (Str×Addr)
 |[],acc=>acc
 | (n,k)::r,acc=>clOf cells r (if k=.free then(n,(cells.lookup n).getD 0)::acc else acc)
def zhC:∀(names:List (Str×NameKind))(acc:List (Str×Addr)),(∀y∈names,y.2=.free->∃c,env.cells.lookup y.1=some c) ->
  (forIn names acc λx r=>match x with|(name,kind)=>if (kind==NameKind.free)=true then do let a <-cellOf env name;pure (ForInStep.yield ((name,a)::r))else pure (ForInStep.yield r):Sem (List (Str×Addr)))=pure (clOf env.cells names acc):=by
 intro names
 induction names with
 |nil=>intro acc _;rfl
 |cons y r ih=>
  intro acc h;obtain⟨n,k⟩:=y;have ih':=ih (if k=.free then(n,(env.cells.lookup n).getD 0)::acc else acc) λy hy=>h y (YAj _ hy);rw[YC4];by_cases hk:k=.free
  .subst hk;obtain⟨c,hc⟩:=h (n,.free) YAh rfl;have e1:cellOf env n=pure c:=by unfold cellOf;rw[hc]
   simp only[beq_self_eq_true,YCO,e1,pure_bind];unfold clOf;rw[hc]at ih' ⊢
   simpa using ih'
  .have hb:(k==NameKind.free)=false:=by simpa using hk
   simp only[hb,YAX,YBX,pure_bind];unfold clOf;rw[if_neg hk]at ih' ⊢;exact ih'
def zoe:∀(names:List (Str×NameKind))(acc:List (Str×Addr)),(∀y∈names,y.2=.free->∃c,cells.lookup y.1=some c)->(∀p∈acc,cells.lookup p.1=some p.2) ->
  ∀p∈clOf cells names acc,cells.lookup p.1=some p.2:=by
 intro names
 induction names with
 |nil=>intro acc _ h;exact h
 |cons y r ih=>
  intro acc h ha;obtain⟨n,k⟩:=y;refine ih _ (λy hy=>h y (YAj _ hy)) ?_;by_cases hk:k=.free
  .rw[if_pos hk];intro p hp;rcases YAk.mp hp with e|e
   .subst e;obtain⟨c,hc⟩:=h (n,k) YAh hk;show cells.lookup n=some ((cells.lookup n).getD 0);have hc':cells.lookup n=some c:=hc;rw[hc'];rfl
   .exact ha p e
  .rw[if_neg hk];exact ha
def zl6 :∀(names:List (Str×NameKind))(acc:List (Str×Addr)),p∈acc->p∈clOf cells names acc:=by
 intro names
 induction names with
 |nil=>intro acc h;exact h
 |cons y r ih=>
  intro acc h;obtain⟨n,k⟩:=y;refine ih _ ?_;by_cases hk:k=.free
  .rw[if_pos hk];exact YAj _ h
  .rw[if_neg hk];exact h
def zoA :∀(names:List (Str×NameKind))(acc:List (Str×Addr)),(x,NameKind.free)∈names->∃c,(x,c)∈clOf cells names acc:=by
 intro names
 induction names with
 |nil=>intro acc h;cases h
 |cons y r ih=>
  intro acc h;obtain⟨n,k⟩:=y;rcases YAk.mp h with e|e
  .cases e;refine⟨(cells.lookup x).getD 0,?_⟩;unfold clOf;refine zl6 _ _ ?_;rw[if_pos rfl];exact YAh
  .exact ih _ e
theorem zev{α:Type}{x:Str}{c:α}:∀{l:List (Str×α)},(x,c)∈l->∃d,l.lookup x=some d
 |[],h=>by cases h
 | (y,d)::r,h=>by
  by_cases e:x=y
  .subst e;exact⟨d,by simp[List.lookup]⟩
  .have hb:(x==y)=false:=YCZ.mpr e;rcases YAk.mp h with q|q
   .cases q;exact absurd rfl e
   .obtain⟨d',q'⟩:=zev q;exact⟨d',by simp only[List.lookup,hb];exact q'⟩
def zbK(h:∀y∈scope.names,y.2=.free->∃c,env.cells.lookup y.1=some c) :
  ∃cl,closureFor scope env=pure cl/\(∀x c,cl.lookup x=some c->env.cells.lookup x=some c)/\∀x,scope.names.lookup x=some .free->∃c,cl.lookup x=some c:=by
 refine⟨clOf env.cells scope.names [],?_,λx c e=>?_,λx e=>?_⟩
 .unfold closureFor;show(forIn scope.names ([]:List (Str×Addr)) (λx r=>match x with|(name,kind)=>if (kind==NameKind.free)=true then do let a <-cellOf env name;pure (ForInStep.yield ((name,a)::r))else pure (ForInStep.yield r)) >>=λcs=>pure cs:Sem (List (Str×Addr)))=_;rw[zhC scope.names [] h,pure_bind]
 .exact zoe scope.names [] h (λp hp=>nomatch hp) (x,c) (YBp e)
 .obtain⟨c,hc⟩:=zoA (cells:=env.cells) scope.names [] (YBp e);exact zev hc
theorem zcm{env:Env}:∀{names:List (Str×NameKind)}{x:Str},names.lookup x=some .free ->
  (names.map λ(n,k)=>if (k==NameKind.free&&env.scope.kind==.function&&env.kindOf n==some .cell)then(n,NameKind.cell)else(n,k)).lookup x=some .cell \/
  (names.map λ(n,k)=>if (k==NameKind.free&&env.scope.kind==.function&&env.kindOf n==some .cell)then(n,NameKind.cell)else(n,k)).lookup x=some .free
 |[],_,h=>by simp at h
 | (n,k)::r,x,h=>by
  have ih:=@zcm env r x;show List.lookup x ((if (k==NameKind.free&&env.scope.kind==.function&&env.kindOf n==some .cell)=true then(n,NameKind.cell)else(n,k))::_)=_\/List.lookup x ((if (k==NameKind.free&&env.scope.kind==.function&&env.kindOf n==some .cell)=true then(n,NameKind.cell)else(n,k))::_)=_;cases hx:x==n with
  |true=>
   simp only[YBo,hx]at h;cases h;by_cases hc:(NameKind.free==NameKind.free&&env.scope.kind==.function&&env.kindOf n==some .cell)=true
   .rw[if_pos hc];left;simp only[YBo,hx]
   .rw[if_neg hc];right;simp only[YBo,hx]
  |false=>
   simp only[YBo,hx]at h;by_cases hc:(k==NameKind.free&&env.scope.kind==.function&&env.kindOf n==some .cell)=true
   .rw[if_pos hc];simp only[YBo,hx];exact ih h
   .rw[if_neg hc];simp only[YBo,hx];exact ih h
theorem zdn{env:Env}:∀{names:List (Str×NameKind)}{x:Str},(∀y∈names,y.2≠.cell) ->
  ((names.map λ(n,k)=>if (k==NameKind.free&&env.scope.kind==.function&&env.kindOf n==some .cell)then(n,NameKind.cell)else(n,k)).lookup x=some .cell \/
  (names.map λ(n,k)=>if (k==NameKind.free&&env.scope.kind==.function&&env.kindOf n==some .cell)then(n,NameKind.cell)else(n,k)).lookup x=some .free)->names.lookup x=some .free
 |[],_,_,h=>by simp at h
 | (n,k)::r,x,nc,h=>by
  have ih:=@zdn env r x λy hy=>nc y (YAj _ hy);have nk:k≠.cell:=nc (n,k) YAh;have h':List.lookup x ((if (k==NameKind.free&&env.scope.kind==.function&&env.kindOf n==some .cell)=true then(n,NameKind.cell)else(n,k))::(r.map λ(n,k)=>if (k==NameKind.free&&env.scope.kind==.function&&env.kindOf n==some .cell)then(n,NameKind.cell)else(n,k)))=some .cell\/List.lookup x ((if (k==NameKind.free&&env.scope.kind==.function&&env.kindOf n==some .cell)=true then(n,NameKind.cell)else(n,k))::(r.map λ(n,k)=>if (k==NameKind.free&&env.scope.kind==.function&&env.kindOf n==some .cell)then(n,NameKind.cell)else(n,k)))=some .free:=h;clear h;by_cases hc:(k==NameKind.free&&env.scope.kind==.function&&env.kindOf n==some .cell)=true
  .rw[if_pos hc]at h';have kf:k=.free:=by
    rw[YAI,YAI]at hc;exact beq_iff_eq.mp hc.1.1
   cases hx:x==n with
   |true=>simp only[YBo,hx];rw[kf]
   |false=>simp only[YBo,hx]at h' ⊢;exact ih h'
  .rw[if_neg hc]at h';cases hx:x==n with
   |true=>
    simp only[YBo,hx]at h' ⊢;rcases h' with e|e
    .exact absurd (Option.some.inj e) nk
    .exact e
   |false=>simp only[YBo,hx]at h' ⊢;exact ih h'
def zaq(X:Cx)(Nc:List Str)(scope:Scope)(cl:List (Str×Addr))(L:Addr)(s₀:Shared)(H₀:Hp)(ex:List Addr):Cx:=
 {X with N:=Nc,s₀:=s₀,H₀:=H₀,env:=compEnvC scope cl L X.env,outer:=X.stack,ex:=ex,fn:=λ_=>false,pn:=[],xe:=λ_ _=>False}
def zfg(sub:List (Option Nat))(g:TG):Prop:=∀v Y H (Q:St->Hp->Prop),g v Y H Q->g v Y H λY2 H2=>Q Y2 H2/\∀(i j:Nat),sub[i]?=some (some j)->Y2[i]?=Y[i]?
def zgE(sub:List (Option Nat))(g:TGs):Prop:=∀v Y H (Q:St->Hp->Prop),g v Y H Q->g v Y H λY2 H2=>Q Y2 H2/\∀(i j:Nat),sub[i]?=some (some j)->Y2[i]?=Y[i]?
def zdM(h:sub[i]?=some none):zfg sub (zc9 i):=λv Y H Q q=>by
 refine⟨q,λk j e=>?_⟩;have ne:i≠k:=λz=>by subst z;rw[h]at e;cases e
 rw[YAB ne]
def zl1:zgE sub gNil:=λ_ _ _ _ ⟨e,q⟩=>⟨e,q,λ_ _ _=>rfl⟩
def zeO(g:TG):Prop:=∀v Y H (Q Q':St->Hp->Prop),(∀ Y2 H2,Q Y2 H2->Q' Y2 H2)->g v Y H Q->g v Y H Q'
def zfw(g:TGs):Prop:=∀v Y H (Q Q':St->Hp->Prop),(∀ Y2 H2,Q Y2 H2->Q' Y2 H2)->g v Y H Q->g v Y H Q'
def zbr:zeO (zc9 i):=λ_ _ _ _ _ f q=>f _ _ q
def zeP:zfw gNil:=λ_ _ _ _ _ f ⟨e,q⟩=>⟨e,f _ _ q⟩
def zbM(h1:zeO t)(h2:zfw u):zfw (zfh t u):=λv Y H Q Q' f ⟨x,r,e,q⟩=>⟨x,r,e,h1 _ _ _ _ _ (λY2 H2 z=>h2 _ _ _ _ _ f z) q⟩
def zq1{K:qq}{n:Nat}{t:TGs}(h:zfw t):zeO (gTup K n t):=λv Y H Q Q' f ⟨a,xs,e,s,l,q⟩=>⟨a,xs,e,s,l,h _ _ _ _ _ f q⟩
def zee(h1:zfg sub t)(m1:zeO t)(h2:zgE sub u)(m2:zfw u):zgE sub (zfh t u):=λv Y H Q ⟨x,r,e,q⟩=>by
 refine⟨x,r,e,?_⟩;refine m1 _ _ _ _ _ (λY2 H2 z=>?_) (h1 _ _ _ _ q);obtain⟨z,k⟩:=z;refine m2 _ _ _ _ _ (λY3 H3 y=>?_) (h2 _ _ _ _ z);exact⟨y.1,λi j e=>(y.2 i j e).trans (k i j e)⟩
def zqP{K:qq}{sub:List (Option Nat)}{n:Nat}{t:TGs}(h:zgE sub t):zfg sub (gTup K n t):=λv Y H Q ⟨a,xs,e,s,l,q⟩=>⟨a,xs,e,s,l,h _ _ _ _ q⟩
noncomputable def PIfs(X:Cx)(ifs:List Expr)(t:TT):Prop:=
 ∀(O:List (Addr×Obj))(s:Shared)(Y:St)(H:Hp)(Q:Bool->Hp->Prop),Inv X O Y H s->t Y H Q ->
  wpAny (model X.prog X.w) X.A (forIn ifs true λc r=>if r=true then do let ok <-isTrue c X.env (eval c X.env);pure (ForInStep.yield ok)else pure (ForInStep.yield r)) (TP X O Y Q) X.xe s
def zoq:TT:=λ_ H Q=>Q true H
def pif0:PIfs X [] zoq:=λ_ _ _ H _ I h=>wpAny_tests_nil ⟨H,I,h⟩
def pif1(h:PT X c t):PIfs X [c] t:=λO s Y H Q I q=>wpAny_tests_one (h O s Y H Q I q)
noncomputable def zih(g:TG)(tc:TT)(te:TE)(Yc:St)(l:Addr)(J:It)(H1:Hp)(Q:VK):Prop:=
 ∃W:Nat->Nat->List V->Hp->Prop,(∃m,W 0 m [] (upd H1 l (.lst [])))/\∀i m xs H2,W i m xs H2->H2 l=some (.lst xs) /\
  ((J.stop i H2/\Q (.ref l) H2)\/(J.go i H2/\∃N:List V->Hp->Prop,(∀xs' H',N xs' H'->∃m',m'<m/\W (i+1) m' xs' H') /\
   ∀x H',J.yld i H2 x H'->g x Yc H' λY2 H3=>tc Y2 H3 λb H4=>if b=true then te Y2 H4 λy H5=>H5 l=some (.lst xs)/\xs.length<sizeLine/\N (xs++[y]) (upd H5 l (.lst (xs++[y])))else N xs H4))
def zmV(sub:List (Option Nat))(wi:TI)(g:TG)(tc:TT)(te:TE):TE:=λY H Q=>wi Y H λJ H1=>∀l,H1 l=none->zih g tc te (zbk sub Y) l J H1 Q
section
variable{X:Cx}{O:List (Addr×Obj)}{Y:St}{H:Hp}{s:Shared}{scope:Scope}{Nc:List Str}{sub:List (Option Nat)}{elt tg iter:Expr}{ifs:List Expr}{pos:Pos}{g:TG}{tc:TT}{te:TE}
def zfH{cl:List (Str×Addr)}{fp:List Addr}{it:Addr}{J:It}{tn:Nat->Heap->Prop}(I:Inv X O Y H s)(hS:CompScope X.N X.env.scope scope Nc sub)
  (hcl:∀x c,cl.lookup x=some c->X.env.cells.lookup x=some c) (hcl2:∀x,scope.names.lookup x=some .free->∃c,cl.lookup x=some c)
  (hf:∀b∈fp,FpOk X O H b) (hlt:∀b∈fp,b<s.heap.objs.size):(zaq X Nc scope cl s.heap.objs.size s H fp).Ok where
 mod:=I.ok.mod
 kind:=hS.kind
 glob:=I.ok.glob
 blt:=I.ok.blt
 above:=YAn _
 inj:=λx y c e1 e2=>I.ok.inj x y c (hcl x c e1) (hcl y c e2)
 has:=λx h=>hcl2 x (zdn (env:=X.env) hS.nocell h)
 cab:=λx c h=>by cases h
 hd:=I.ok.hd
 frames:=I.ok.frames
 stk:=.inl rfl
 exf:=λb hb=>⟨YAv (hlt b hb),λx c e=>(hf b hb).2.2.2.2.1 x c (hcl x c e)⟩
 bs:=I.bs
 bsz:=YAQ I.ok.bsz I.sz
 noex:=λb o e hb=>by
  rcases(hf b hb).2.2.2.1 with z|z
  .exact I.ok.noex b o e z
  .exact absurd (YAs (YAl e) (YAQ I.ok.bsz z)) (YBa _)
 exfs:=λb hb hq=>by
  rcases YAk.mp (I.stkSub b hq)with z|z
  .exact(hf b hb).2.1 z
  .exact(hf b hb).2.2.1 z
 funs:=I.stack
 frf:=I.stkFree
def zdp{cl:List (Str×Addr)}{fp:List Addr}{h1:Heap}{t':Nat}{m:Str->Option Value}(I:Inv X O Y H s)(hS:CompScope X.N X.env.scope scope Nc sub)
  (hcl:∀x c,cl.lookup x=some c->X.env.cells.lookup x=some c) (hcl2:∀x,scope.names.lookup x=some .free->∃c,cl.lookup x=some c)
  (ok:(zaq X Nc scope cl s.heap.objs.size s H fp).Ok) (hn:h1.Ns s.heap.objs.size m) (hk:∀b o,s.heap.get? b=some o->h1.get? b=some o) :
  Inv (zaq X Nc scope cl s.heap.objs.size s H fp) [] (zbk sub Y) H {s with heap:=h1,toks:=t'}where
 ok:=ok
 os:=rfl
 bare:=I.bare
 base:=Un.kept hk
 loc:=by
  refine⟨m,hn,λi x v e1 e2 _=>?_⟩;obtain⟨j,e3,e4⟩:=zdl e2;obtain⟨e5,e6⟩:=hS.vis i j x e1 e3;obtain⟨m',_,hl⟩:=I.loc;have hfr:X.env.kindOf x=some .cell\/X.env.kindOf x=some .free:=hS.frees (x,.free) (YBp e6) rfl;obtain⟨u,r,l⟩:=hl j x v e5 e4 (.inr hfr);refine⟨u,r,?_⟩;rcases l with⟨k,_⟩|⟨_,c,e,z⟩
  .rcases hfr with q|q
   .rw[k]at q;cases q
   .rw[k]at q;cases q
  .obtain⟨c',e'⟩:=hcl2 x e6
   have:=hcl x c' e'
   rw[e]at this;cases this;exact .inr ⟨zcm (env:=X.env) e6,c,e',z.keeps hk⟩
 cell:=λx c e=>by
  obtain⟨v,z⟩:=I.cell x c (hcl x c e);exact⟨v,z.keeps hk⟩
 free:=I.hok.fresh (YAn _)
 freeC:=λx c e=>I.freeC x c (hcl x c e)
 pin:=λp hp=>absurd (show p∈([]:List (Addr×Obj))from hp) (by simp)
 hok:=I.hok.kept hk
 len:=(zd8 sub Y).trans hS.len
def zeL{cl:List (Str×Addr)}{fp:List Addr}{pinsC:List (Addr×Obj)}{Yc:St}{H':Hp}{s':Shared}(I:Inv X O Y H s)(hf:∀b∈fp,FpOk X O H b)
  (J:Inv (zaq X Nc scope cl s.heap.objs.size s H fp) pinsC Yc H' s'):Inv X O Y H' s':=
 I.call' (ch:=fp) J.os J.base J.hok J.bare λb hb=>⟨(hf b hb).2.2.2.1,(hf b hb).2.1,(hf b hb).2.2.2.2.1,(hf b hb).2.2.2.2.2⟩
def zkU{cl:List (Str×Addr)}{fp:List Addr}{it:Addr}{J:It}{tn:Nat->Heap->Prop}{E:Value->Shared->Prop}{Q:VK}{RR:Value->Addr->Result->Shared->Prop}
  (hc:X.calm=true) (I:Inv X O Y H s) (hS:CompScope X.N X.env.scope scope Nc sub)
  (hcl:∀x c,cl.lookup x=some c->X.env.cells.lookup x=some c) (hcl2:∀x,scope.names.lookup x=some .free->∃c,cl.lookup x=some c)
  (T:Turn X.prog X.w X.K tg J fp it tn) (st:tn 0 s.heap) (hf:∀b∈fp,FpOk X O H b)
  (hg:∀cl L s0 H0 ex,PG (zaq X Nc scope cl L s0 H0 ex) tg g) (gk:zfg sub g)
  (hi:∀cl L s0 H0 ex,PIfs (zaq X Nc scope cl L s0 H0 ex) ifs tc) (he:∀cl L s0 H0 ex,PE (zaq X Nc scope cl L s0 H0 ex) elt te)
  (gm:zeO g) (q:∀l,H l=none->zih g tc te (zbk sub Y) l J H Q)
  (hRR:∀l C H' s' m,Inv X O Y H' s'->Q (.ref l) H'->s'.heap.Ns C m->s.heap.objs.size<=C->H' C=none->RR (.ref l) C (.ok .next) s') :
  wpAny (model X.prog X.w) X.A (newList []) (λacc s₃=>wpAny (model X.prog X.w) X.A (newFunctionEnv scope X.env.globals cl [] X.env.qual none .none (some X.env)) (λcenv s₄=>
   codeAny (model X.prog X.w) X.A (.compStart (.ListComp elt [⟨tg,iter,ifs,0⟩] scope pos) 0 (.ref it) acc {cenv with scope:=relabel scope X.env}) (RR acc cenv.locals) s₄) E s₃) E s:=by
 have hlt:∀b∈fp,b<s.heap.objs.size:=λb hb=>let⟨o,e,_⟩:=T.obj _ _ st b hb;YAl e
 have hl0:H s.heap.objs.size=none:=I.hok.fresh (YAn _);obtain⟨W,⟨m0,w0⟩,turn⟩:=q s.heap.objs.size hl0;refine YAS ?_
 -- the list is laid
 have I3:Inv X O Y (upd H s.heap.objs.size (.lst [])) {s with heap:=s.heap.push {cls:=.type "list",data:=.seq ([]:List Value).toArray},toks:=s.toks}:=I.lnew (its:=[]) .nil (YAH _);generalize hs3:({s with heap:=s.heap.push {cls:=.type "list",data:=.seq ([]:List Value).toArray},toks:=s.toks}:Shared)=s3 at I3;have e3:({s with heap:=s.heap.push {cls:=.type "list",data:=.seq ([]:List Value).toArray}}:Shared)=s3:=hs3;have k3:∀b o,s.heap.get? b=some o->s3.heap.get? b=some o:=λb o e=>by rw[<-hs3];exact YAd _ e
 have z3:s.heap.objs.size<=s3.heap.objs.size:=by rw[<-hs3];show _<=(s.heap.push _).objs.size;rw[YBf];exact Nat.le_succ _
 have f3:∀b∈fp,FpOk X O (upd H s.heap.objs.size (.lst [])) b:=λb hb=>⟨by rw[zaf (YAv (hlt b hb))];exact(hf b hb).1,(hf b hb).2⟩;have lt3:∀b∈fp,b<s3.heap.objs.size:=λb hb=>YAs (hlt b hb) z3;have st3:tn 0 s3.heap:=T.keep _ _ _ st λb _ o e=>k3 b o e;refine YCR hS.nocell (by intro y hy;simp at hy) (λh₁ hns₁ hsb₁=>?_) hS.kind;have k4:∀b o,s3.heap.get? b=some o->h₁.get? b=some o:=λb o e=>hsb₁.extBut b o (YAv (YAl e)) (YAd _ e);have ok4:=zfH (J:=J) (it:=it) (tn:=tn) I3 hS hcl hcl2 f3 lt3;have I4:=zdp (t':=s3.toks+([]:List (Str×Value)).length) I3 hS hcl hcl2 ok4 hns₁ k4;have st4:tn 0 h₁:=T.keep _ _ _ st3 λb _ o e=>k4 b o e
 -- what stays true of the iterator's objects
 have stat:∀{H':Hp},(∀b∈fp,H' b=none)->∀b∈fp,FpOk (zaq X Nc scope cl s3.heap.objs.size s3 (upd H s.heap.objs.size (.lst [])) fp) [] H' b:=λhn b hb=>
  ⟨hn b hb,(ok4.exf b hb).1,ok4.exfs b hb,.inl hb,(ok4.exf b hb).2,λp hp=>absurd (show p∈([]:List (Addr×Obj))from hp) (by simp)⟩
 have loop:∀s₄:Shared,s₄={s3 with heap:=h₁,toks:=s3.toks+([]:List (Str×Value)).length} ->
   codeAny (model X.prog X.w) X.A (.compLoop (.ListComp elt [⟨tg,iter,ifs,0⟩] scope pos) 0 (.ref it) (.ref s.heap.objs.size) (compEnvC scope cl s3.heap.objs.size X.env)) (RR (.ref s.heap.objs.size) s3.heap.objs.size) s₄:=by
  rintro s₄ rfl;refine YDG rfl (λn s'=>∃i xs H',Inv (zaq X Nc scope cl s3.heap.objs.size s3 (upd H s.heap.objs.size (.lst [])) fp) [] (zbk sub Y) H' s'/\tn i s'.heap/\(∀b∈fp,H' b=none)/\W i n xs H') ?_ m0
   ⟨0,[],_,I4,st4,λb hb=>(f3 b hb).1,w0⟩
  rintro n s5 ⟨i,xs,H5,I5,st5,fr5,w5⟩;show wpAny _ X.A ((compTurn (.ListComp elt [⟨tg,iter,ifs,0⟩] scope pos) 0 (.ref it) (.ref s.heap.objs.size) (compEnvC scope cl s3.heap.objs.size X.env)).onRaise (λx=>do noteFrame x (compEnvC scope cl s3.heap.objs.size X.env);theTreesLotGoes x)) _ _ s5;refine YDY ?_;rw[compTurn_list];refine YAa (YBg (YAa ?_));obtain⟨hl5,w5⟩:=turn i n xs H5 w5;rcases w5 with⟨stop,qn⟩|⟨go,N,hN,step⟩
  .refine thn (T.done (zaq X Nc scope cl s3.heap.objs.size s3 (upd H s.heap.objs.size (.lst [])) fp) rfl rfl rfl hc i [] s5 (zbk sub Y) H5 _ I5 (stat fr5) st5 stop) λr s6 ⟨hr,I6⟩=>?_;subst hr;obtain⟨m6,hn6,_⟩:=I6.loc;exact YAf (hRR _ _ H5 s6 m6 (zeL I3 f3 I6) qn hn6 z3 I6.free)
  .refine thn (T.item (zaq X Nc scope cl s3.heap.objs.size s3 (upd H s.heap.objs.size (.lst [])) fp) rfl rfl rfl hc i [] s5 (zbk sub Y) H5 _ I5 (stat fr5) st5 go) λr s6 ⟨u,hr,h6⟩=>?_;subst hr;refine YAa (thn h6 λ_ s7 ⟨x,H7,I7,r7,y7,st7,fr7⟩=>?_);have I7':=I7.pinned (stat fr7) (T.obj _ _ st7);have again:∀{Y8:St}{H8:Hp}{ys:List V}{s8:Shared},Inv (zaq X Nc scope cl s3.heap.objs.size s3 (upd H s.heap.objs.size (.lst [])) fp) ([]++ze5 fp s7.heap) Y8 H8 s8->(∀(i j:Nat),sub[i]?=some (some j)->Y8[i]?=(zbk sub Y)[i]?)->N ys H8 ->
     ∃m,m<n/\∃i xs H',Inv (zaq X Nc scope cl s3.heap.objs.size s3 (upd H s.heap.objs.size (.lst [])) fp) [] (zbk sub Y) H' s8/\tn i s8.heap/\(∀b∈fp,H' b=none)/\W i m xs H':=λ{Y8 H8 ys s8} I8 k8 n8=>by
    obtain⟨m',hm,w8⟩:=hN ys H8 n8;refine⟨m',hm,i+1,ys,H8,?_,T.keep _ _ _ st7 λb hb o e=>(I8.pin (b,o) (YAp _ (YAp _ (zbe hb e)))).1,λb hb=>?_,w8⟩
    .refine I8.unpinned.weak ?_ λk v e=>?_
     .rw[I8.len];exact(zd8 sub Y).trans hS.len
     .obtain⟨j,e1,_⟩:=zdl e;rw[k8 k j e1];exact e
    .obtain⟨o,e,d⟩:=T.obj _ _ st7 b hb;exact(I8.pin (b,o) (YAp _ (YAp _ (zbe hb e)))).2.1
   refine YAa (YA2 (hg cl _ s3 _ fp _ s7 (zbk sub Y) H7 x u _ I7' r7 (gk _ _ _ _ (step x H7 y7))) (λ_ s8 ⟨Y8,H8,I8,q8,k8⟩=>?_) λ_ _ z=>False.elim z);refine YAa (YA2 (hi cl _ s3 _ fp _ s8 Y8 H8 _ I8 q8) (λok s9 ⟨H9,I9,q9⟩=>?_) λ_ _ z=>False.elim z);cases ok with
   |false=>exact YAf ⟨rfl,again I9 k8 q9⟩
   |true=>
    refine YAa (YAa (YA2 (he cl _ s3 _ fp _ s9 Y8 H9 _ I9 q9) (λxv s10 ⟨y,H10,I10,r10,hl10,hz,q10⟩=>?_) λ_ _ z=>False.elim z));refine YAa (YA2 (zb2 (X:=(zaq X Nc scope cl s3.heap.objs.size s3 (upd H s.heap.objs.size (.lst [])) fp)) _ s10 Y8 H10 (.ref s.heap.objs.size) [y] (.ref s.heap.objs.size) [xv] (λ_ H11=>N (xs++[y]) H11) I10 rfl (.cons r10 .nil) ⟨_,xs,y,rfl,rfl,hl10,hz,q10⟩) (λ_ s11 ⟨_,H11,I11,_,q11⟩=>?_) λ_ _ z=>False.elim z);exact YAf (YAf ⟨rfl,again I11 k8 q11⟩)
 exact codeAny_compStart_list (loop _ rfl) (T.self _ 0 _ _ _ st4 (loop _ rfl))
def zdx(I:Inv X O Y H s)(hS:CompScope X.N X.env.scope scope Nc sub):∀y∈scope.names,y.2=.free->∃c,X.env.cells.lookup y.1=some c:=λy hy e=>
 I.ok.has y.1 (hS.frees y hy e)
def zhR(hc:X.calm=true)(hS:CompScope X.N X.env.scope scope Nc sub)(hI:PI X tg iter wi)
  (hg:∀cl L s0 H0 ex,PG (zaq X Nc scope cl L s0 H0 ex) tg g) (gk:zfg sub g) (gm:zeO g)
  (hi:∀cl L s0 H0 ex,PIfs (zaq X Nc scope cl L s0 H0 ex) ifs tc) (he:∀cl L s0 H0 ex,PE (zaq X Nc scope cl L s0 H0 ex) elt te)
  (hs:∀x,foldedSetIterable iter X.env x=pure x:=by intro _;rfl):PE X (.ListComp elt [⟨tg,iter,ifs,0⟩] scope pos) (zmV sub wi g tc te):=by
 intro O s Y H Q I h;obtain⟨cl,hcl0,hcl,hcl2⟩:=zbK (zdx I hS);rw[eval_ListComp];refine YB9 (use:=none) rfl hs hcl0 hS.kind hS.names ?_;refine thn (hI O s Y H _ I h) λxv s1 h1=>thn h1 λitv s2 h2=>?_;obtain⟨it,fp,tn,J,H2,e,I2,T,st2,f2,q⟩:=h2;subst e;refine zkU hc I2 hS hcl hcl2 T st2 f2 hg gk hi he gm q λl C H' s' m I' q' hn hC hfr=>?_;refine⟨m,hn,λh' sb=>?_⟩;have nL:C≠X.env.locals:=YBd (YAs I2.lt hC);refine⟨.ref l,H',?_,rfl,q'⟩;exact I'.turned (it:=C) (t':=s'.toks) (λb o hb e=>(sb.2 b hb).trans e) hfr nL (.inr (YAQ I2.sz hC)) (λx c e z=>by
  obtain⟨v,w⟩:=I2.cell x c e;exact absurd (YAs w.lt (by rw[z];exact hC)) (YBa _)) λp hp z=>
  absurd (YAs (YAl (I2.pin p hp).1) (by rw[z];exact hC)) (YBa _)
def zlR(hc:X.calm=true)(hN:X.N.Nodup)(hiN:X.N[i]?=some y)(hy:X.env.scope.names.lookup y=some .local)(hS:CompScope X.N X.env.scope scope Nc sub)(hI:PI X tg iter wi)
  (hg:∀cl L s0 H0 ex,PG (zaq X Nc scope cl L s0 H0 ex) tg g) (gk:zfg sub g) (gm:zeO g)
  (hi:∀cl L s0 H0 ex,PIfs (zaq X Nc scope cl L s0 H0 ex) ifs tc) (he:∀cl L s0 H0 ex,PE (zaq X Nc scope cl L s0 H0 ex) elt te)
  (hsw:swapsWith (.ListComp elt [⟨tg,iter,ifs,0⟩] scope pos) (some (.Name y py)) spos.line X.env=pure true:=by rfl)
  (hs:∀x,foldedSetIterable iter X.env x=pure x:=by intro _;rfl):PS X (.Assign [.Name y py] (.ListComp elt [⟨tg,iter,ifs,0⟩] scope pos) spos) (tAsg (zmV sub wi g tc te) (zc9 i)):=by
 intro O s Y H D I h;obtain⟨cl,hcl0,hcl,hcl2⟩:=zbK (zdx I hS);rw[exec_Assign_Name_used _ _ _ _ hsw];refine YAa (YBg (YAa ?_));show wpAny _ X.A (do let _ <-comprehension (.ListComp elt [⟨tg,iter,ifs,0⟩] scope pos) scope X.env _ (newList []) false (eval iter X.env) (some (assign (.Name y py) X.env))) _ _ s;refine YAa (YA2 (YB9 (use:=some (assign (.Name y py) X.env)) (Q:=λ_ s'=>SP X O D .next s') rfl hs hcl0 hS.kind hS.names
  (thn (hI O s Y H _ I h) λxv s1 h1=>thn h1 λitv s2 h2=>?_)) (λ_ s' hq=>YAf (YAf hq)) λ_ _ e=>e)
 obtain⟨it,fp,tn,J,H2,e,I2,T,st2,f2,q⟩:=h2;subst e;refine zkU hc I2 hS hcl hcl2 T st2 f2 hg gk hi he gm q λl C H' s' m I' q' hn hC hfr=>?_;have nL:C≠X.env.locals:=YBd (YAs I2.lt hC);show wpAny _ X.A (assign (.Name y py) X.env (.ref l)) _ _ _;refine YDl (zfW I' hN hiN (.inl hy) (v:=.ref l) rfl (λs6 I6 ⟨a,sb6,ha⟩=>?_) (.inr hy));have nA:C≠a:=λz=>by
  rcases ha with e|e
  .exact nL (z.trans e)
  .obtain⟨v,w⟩:=I2.cell y a e;exact absurd (YAs w.lt (by rw[<-z];exact hC)) (YBa _)
 refine⟨m,hn.sameBut sb6 nA,λh' sb=>?_⟩;refine⟨_,H',I6.turned (it:=C) (t':=s6.toks) (λb o hb e=>(sb.2 b hb).trans e) hfr nL (.inr (YAQ I2.sz hC)) (λx c e z=>by
  obtain⟨v,w⟩:=I2.cell x c e;exact absurd (YAs w.lt (by rw[z];exact hC)) (YBa _)) (λp hp z=>
  absurd (YAs (YAl (I2.pin p hp).1) (by rw[z];exact hC)) (YBa _)),q'⟩
end
def ziK{K:qq}{a l:Addr}{ys:List V}{g:TG}{tc:TT}{te:TE}{Yc:St}{H1:Hp}{Q:VK}(Pv:Nat->List V->Hp->Prop)(h0:Pv 0 [] (upd H1 l (.lst [])))
  (hl:∀i xs H,i<=ys.length->Pv i xs H->SqL K H a ys/\H l=some (.lst xs))
  (hs:∀i x xs H,ys[i]?=some x->Pv i xs H->g x Yc H λY2 H3=>tc Y2 H3 λb H4=>if b=true then te Y2 H4 λy H5=>H5 l=some (.lst xs)/\xs.length<sizeLine/\Pv (i+1) (xs++[y]) (upd H5 l (.lst (xs++[y])))else Pv (i+1) xs H4)
  (hd:∀xs H,Pv ys.length xs H->Q (.ref l) H):zih g tc te Yc l (Itl K a) H1 Q:=by
 refine⟨λi m xs H=>m=ys.length-i/\i<=ys.length/\Pv i xs H,⟨ys.length,by simp,YAH _,h0⟩,?_⟩;rintro i m xs H ⟨rfl,hi,p⟩;obtain⟨q,hll⟩:=hl i xs H hi p;refine⟨hll,?_⟩;by_cases hlt:i<ys.length
 .refine .inr ⟨⟨ys,ys[i],q,by simp[hlt]⟩,Pv (i+1),λxs' H' p'=>⟨ys.length-(i+1),by omega,rfl,hlt,p'⟩,λx H' y=>?_⟩;obtain⟨e,y⟩:=y;subst e;exact hs i x xs _ (y ys q) p
 .have e:i=ys.length:=by omega
  subst e;exact .inl ⟨⟨ys,q,YAn _⟩,hd xs H p⟩
def zll{l:Addr}{lo:Int}{n:Nat}{g:TG}{tc:TT}{te:TE}{Yc:St}{H1:Hp}{Q:VK}(Pv:Nat->List V->Hp->Prop)(h0:Pv 0 [] (upd H1 l (.lst [])))
  (hl:∀i xs H,i<=n->Pv i xs H->H l=some (.lst xs))
  (hs:∀i xs H,i<n->Pv i xs H->g (.int (lo+i)) Yc H λY2 H3=>tc Y2 H3 λb H4=>if b=true then te Y2 H4 λy H5=>H5 l=some (.lst xs)/\xs.length<sizeLine/\Pv (i+1) (xs++[y]) (upd H5 l (.lst (xs++[y])))else Pv (i+1) xs H4)
  (hd:∀xs H,Pv n xs H->Q (.ref l) H):zih g tc te Yc l (Itr lo n) H1 Q:=by
 refine⟨λi m xs H=>m=n-i/\i<=n/\Pv i xs H,⟨n,by simp,YAH _,h0⟩,?_⟩;rintro i m xs H ⟨rfl,hi,p⟩;refine⟨hl i xs H hi p,?_⟩;by_cases hlt:i<n
 .refine .inr ⟨hlt,Pv (i+1),λxs' H' p'=>⟨n-(i+1),by omega,rfl,hlt,p'⟩,λx H' y=>?_⟩;obtain⟨e,y⟩:=y;subst e y;exact hs i xs _ hlt p
 .have e:i=n:=by omega
  subst e;exact .inl ⟨YAn _,hd xs H p⟩
def zf1(elt tg iter tg2 iter2:Expr)(ifs:List Expr)(scope:Scope)(pos:Pos)(it acc:Value)(env:Env) :
  compTurn (.ListComp elt [⟨tg,iter,[],0⟩,⟨tg2,iter2,ifs,0⟩] scope pos) 0 it acc env=(do
   standAt iter.pos
   match <-pyNext it with
   |none=>pure (.done .next)
   |some v=>
    letOwnedTupleGo tg it v
    assign tg env v
    let mut ok:=true
    for c in([]:List Expr) do
     if ok then ok <-isTrue c env (eval c env)
    if ok then
     let x <-eval iter2 env
     standAt iter2.pos
     let x <-foldedSetIterable iter2 env x
     let _ <-runOwn (.compStart (.ListComp elt [⟨tg,iter,[],0⟩,⟨tg2,iter2,ifs,0⟩] scope pos) 1 (<-holding [x] (pyIter x)) acc env) env
    again (.compLoop (.ListComp elt [⟨tg,iter,[],0⟩,⟨tg2,iter2,ifs,0⟩] scope pos) 0 it acc env)):=by rfl
def zfT(elt tg iter tg2 iter2:Expr)(ifs:List Expr)(scope:Scope)(pos:Pos)(it acc:Value)(env:Env) :
  compTurn (.ListComp elt [⟨tg,iter,[],0⟩,⟨tg2,iter2,ifs,0⟩] scope pos) 1 it acc env=(do
   standAt iter2.pos
   match <-pyNext it with
   |none=>pure (.done .next)
   |some v=>
    letOwnedTupleGo tg2 it v
    assign tg2 env v
    let mut ok:=true
    for c in ifs do
     if ok then ok <-isTrue c env (eval c env)
    if ok then
     (do let _ <-call (.builtin "list.append") [acc,<-eval elt env])
    again (.compLoop (.ListComp elt [⟨tg,iter,[],0⟩,⟨tg2,iter2,ifs,0⟩] scope pos) 1 it acc env)):=by rfl
def zcZ
  (h0:codeAny (model prog w) A (.compLoop (.ListComp elt [⟨tg,iter,[],0⟩,⟨tg2,iter2,ifs,0⟩] scope pos) 1 it acc env) R s)
  (h:wpAny (model prog w) A (pyIter it) (λit' s'=>codeAny (model prog w) A (.compLoop (.ListComp elt [⟨tg,iter,[],0⟩,⟨tg2,iter2,ifs,0⟩] scope pos) 1 it' acc env) R s')
   (notedBy (model prog w) A env λx s'=>R (.error x) s') s) :
  codeAny (model prog w) A (.compStart (.ListComp elt [⟨tg,iter,[],0⟩,⟨tg2,iter2,ifs,0⟩] scope pos) 1 it acc env) R s:=by
 refine YC5 ?_;show wpAny _ _ ((compStart (.ListComp elt [⟨tg,iter,[],0⟩,⟨tg2,iter2,ifs,0⟩] scope pos) 1 it acc env).onRaise (λx=>do noteFrame x env;standAt theWindowsPlace)) _ _ s;refine wpAny_notedAt ?_;unfold compStart;show wpAny _ _ (ask >>= _) _ _ s;refine YAa (YCi (wpAny_ite ?_));split
 .first
   |exact YAa (YAf (YAf (And.intro rfl h0)))
   |exact YAf (And.intro rfl h0)
 .first
   |exact YAa (YBO (YAa (YBg (YAa (YA2 h (λit' s' h'=>YAf (And.intro rfl h')) λ_ _ x=>x)))))
   | (refine YAa (YBO ?_);show wpAny _ _ (standAt iter2.pos >>= _) _ _ s;exact YAa (YBg (YAa (YA2 h (λit' s' h'=>YAf (And.intro rfl h')) λ_ _ x=>x))))
noncomputable def tIn(g:TG)(tc:TT)(te:TE)(Yc:St)(l:Addr)(J:It)(H1:Hp)(xs0:List V)(N:List V->Hp->Prop):Prop:=
 ∃W:Nat->Nat->List V->Hp->Prop,(∃m,W 0 m xs0 H1)/\∀i m xs H2,W i m xs H2->H2 l=some (.lst xs) /\
  ((J.stop i H2/\N xs H2)\/(J.go i H2/\∃N':List V->Hp->Prop,(∀xs' H',N' xs' H'->∃m',m'<m/\W (i+1) m' xs' H') /\
   ∀x H',J.yld i H2 x H'->g x Yc H' λY2 H3=>tc Y2 H3 λb H4=>if b=true then te Y2 H4 λy H5=>H5 l=some (.lst xs)/\xs.length<sizeLine/\N' (xs++[y]) (upd H5 l (.lst (xs++[y])))else N' xs H4))
def znM
  (hc:X.calm=true) (hx:X.xe=λ_ _=>False) (I:Inv X O Y H s) (T:Turn X.prog X.w X.K tg2 J fp it tn) (st:tn 0 s.heap) (hf:∀b∈fp,FpOk X O H b)
  (hg:PG X tg2 g) (gk:∀v H (Q:St->Hp->Prop),g v Y H Q->g v Y H λY2 H2=>Q Y2 H2/\∀(i:Nat)(v:V),Y[i]?=some (some v)->Y2[i]?=some (some v)) (hi:PIfs X ifs tc) (he:PE X elt te)
  (q:tIn g tc te Y l J H xs0 N) (hR:∀ys H' s',Inv X O Y H' s'->N ys H'->R (.ok .next) s') :
  codeAny (model X.prog X.w) X.A (.compStart (.ListComp elt [⟨tg,iter,[],0⟩,⟨tg2,iter2,ifs,0⟩] scope pos) 1 (.ref it) (.ref l) X.env) R s:=by
 obtain⟨W,⟨m0,w0⟩,turn⟩:=q;have stat:∀{H':Hp},(∀b∈fp,H' b=none)->∀b∈fp,FpOk X O H' b:=λhn b hb=>⟨hn b hb,(hf b hb).2⟩;have nox:∀{E:Value->Shared->Prop}(a:Value)(b:Shared),X.xe a b->E a b:=λ{E} a b z=>by rw[hx]at z;exact z.elim
 have loop:codeAny (model X.prog X.w) X.A (.compLoop (.ListComp elt [⟨tg,iter,[],0⟩,⟨tg2,iter2,ifs,0⟩] scope pos) 1 (.ref it) (.ref l) X.env) R s:=by
  refine YDG rfl (λn s'=>∃i xs H',Inv X O Y H' s'/\tn i s'.heap/\(∀b∈fp,H' b=none)/\W i n xs H') ?_ m0 ⟨0,xs0,H,I,st,λb hb=>(hf b hb).1,w0⟩;rintro n s5 ⟨i,xs,H5,I5,st5,fr5,w5⟩;show wpAny _ X.A ((compTurn (.ListComp elt [⟨tg,iter,[],0⟩,⟨tg2,iter2,ifs,0⟩] scope pos) 1 (.ref it) (.ref l) X.env).onRaise (λx=>do noteFrame x X.env;theTreesLotGoes x)) _ _ s5;refine YDY ?_;rw[zfT];refine YAa (YBg (YAa ?_));obtain⟨hl5,w5⟩:=turn i n xs H5 w5;rcases w5 with⟨stop,qn⟩|⟨go,N',hN,step⟩
  .refine thn (T.done X rfl rfl rfl hc i O s5 Y H5 _ I5 (stat fr5) st5 stop) λr s6 ⟨hr,I6⟩=>?_;subst hr;exact YAf (hR _ H5 s6 I6 qn)
  .refine thn (T.item X rfl rfl rfl hc i O s5 Y H5 _ I5 (stat fr5) st5 go) λr s6 ⟨u,hr,h6⟩=>?_;subst hr;refine YAa (thn h6 λ_ s7 ⟨x,H7,I7,r7,y7,st7,fr7⟩=>?_);have I7':=I7.pinned (stat fr7) (T.obj _ _ st7);have again:∀{Y8:St}{H8:Hp}{ys:List V}{s8:Shared},Inv X (O++ze5 fp s7.heap) Y8 H8 s8->(∀(i:Nat)(v:V),Y[i]?=some (some v)->Y8[i]?=some (some v))->N' ys H8 ->
     ∃m,m<n/\∃i xs H',Inv X O Y H' s8/\tn i s8.heap/\(∀b∈fp,H' b=none)/\W i m xs H':=λ{Y8 H8 ys s8} I8 k8 n8=>by
    obtain⟨m',hm,w8⟩:=hN ys H8 n8;refine⟨m',hm,i+1,ys,H8,?_,T.keep _ _ _ st7 λb hb o e=>(I8.pin (b,o) (YAp _ (YAp _ (zbe hb e)))).1,λb hb=>?_,w8⟩
    .refine I8.unpinned.weak ?_ λk v e=>k8 k v e;rw[I8.len];exact I.len
    .obtain⟨o,e,d⟩:=T.obj _ _ st7 b hb;exact(I8.pin (b,o) (YAp _ (YAp _ (zbe hb e)))).2.1
   refine YAa (YA2 (hg _ s7 Y H7 x u _ I7' r7 (gk _ _ _ (step x H7 y7))) (λ_ s8 ⟨Y8,H8,I8,q8,k8⟩=>?_) nox);refine YAa (YA2 (hi _ s8 Y8 H8 _ I8 q8) (λok s9 ⟨H9,I9,q9⟩=>?_) nox);cases ok with
   |false=>exact YAf ⟨rfl,again I9 k8 q9⟩
   |true=>
    refine YAa (YAa (YA2 (he _ s9 Y8 H9 _ I9 q9) (λxv s10 ⟨y,H10,I10,r10,hl10,hz,q10⟩=>?_) nox));refine YAa (YA2 (zb2 (X:=X) _ s10 Y8 H10 (.ref l) [y] (.ref l) [xv] (λ_ H11=>N' (xs++[y]) H11) I10 rfl (.cons r10 .nil) ⟨_,xs,y,rfl,rfl,hl10,hz,q10⟩) (λ_ s11 ⟨_,H11,I11,_,q11⟩=>?_) nox);exact YAf (YAf ⟨rfl,again I11 k8 q11⟩)
 exact zcZ loop (T.self _ 0 _ _ _ st loop)
def zpS(sub:List (Option Nat))(g g2:TG):Prop:=∀v (Y:St) H (Q:St->Hp->Prop),g v (zbk sub Y) H Q->g v (zbk sub Y) H λY2 H2=>Q Y2 H2 /\
 ∀ Y',Y'=Y->∀u H' (Q':St->Hp->Prop),g2 u Y2 H' Q'->g2 u Y2 H' λY3 H3=>Q' Y3 H3/\∀(i:Nat)(v:V),Y2[i]?=some (some v)->Y3[i]?=some (some v)
noncomputable def zmZ(g:TG)(wi2:TI)(g2:TG)(tc:TT)(te:TE)(Yc:St)(l:Addr)(J:It)(H1:Hp)(Q:VK):Prop:=
 ∃W:Nat->Nat->List V->Hp->Prop,(∃m,W 0 m [] (upd H1 l (.lst [])))/\∀i m xs H2,W i m xs H2->H2 l=some (.lst xs) /\
  ((J.stop i H2/\Q (.ref l) H2)\/(J.go i H2/\∃N:List V->Hp->Prop,(∀xs' H',N xs' H'->∃m',m'<m/\W (i+1) m' xs' H') /\
   ∀x H',J.yld i H2 x H'->g x Yc H' λY2 H3=>wi2 Y2 H3 λJ2 H4=>tIn g2 tc te Y2 l J2 H4 xs N))
def znH(sub:List (Option Nat))(wi:TI)(g:TG)(wi2:TI)(g2:TG)(tc:TT)(te:TE):TE:=λY H Q=>wi Y H λJ H1=>∀l,H1 l=none->zmZ g wi2 g2 tc te (zbk sub Y) l J H1 Q
section
variable{X:Cx}{O:List (Addr×Obj)}{Y:St}{H:Hp}{s:Shared}{scope:Scope}{Nc:List Str}{sub:List (Option Nat)}{elt tg iter tg2 iter2:Expr}{ifs:List Expr}{pos:Pos}{g g2:TG}{wi2:TI}{tc:TT}{te:TE}
def znN{cl:List (Str×Addr)}{fp:List Addr}{it:Addr}{J:It}{tn:Nat->Heap->Prop}{E:Value->Shared->Prop}{Q:VK}{RR:Value->Addr->Result->Shared->Prop}
  (hc:X.calm=true) (I:Inv X O Y H s) (hS:CompScope X.N X.env.scope scope Nc sub)
  (hcl:∀x c,cl.lookup x=some c->X.env.cells.lookup x=some c) (hcl2:∀x,scope.names.lookup x=some .free->∃c,cl.lookup x=some c)
  (T:Turn X.prog X.w X.K tg J fp it tn) (st:tn 0 s.heap) (hf:∀b∈fp,FpOk X O H b)
  (hg:∀cl L s0 H0 ex,PG (zaq X Nc scope cl L s0 H0 ex) tg g) (gk:zfg sub g) (hI2:∀cl L s0 H0 ex,PI (zaq X Nc scope cl L s0 H0 ex) tg2 iter2 wi2) (hg2:∀cl L s0 H0 ex,PG (zaq X Nc scope cl L s0 H0 ex) tg2 g2) (gk2:zpS sub g g2) (hs2:∀cl L s0 H0 ex x,foldedSetIterable iter2 (zaq X Nc scope cl L s0 H0 ex).env x=pure x)
  (hi:∀cl L s0 H0 ex,PIfs (zaq X Nc scope cl L s0 H0 ex) ifs tc) (he:∀cl L s0 H0 ex,PE (zaq X Nc scope cl L s0 H0 ex) elt te)
  (gm:zeO g) (q:∀l,H l=none->zmZ g wi2 g2 tc te (zbk sub Y) l J H Q)
  (hRR:∀l C H' s' m,Inv X O Y H' s'->Q (.ref l) H'->s'.heap.Ns C m->s.heap.objs.size<=C->H' C=none->RR (.ref l) C (.ok .next) s') :
  wpAny (model X.prog X.w) X.A (newList []) (λacc s₃=>wpAny (model X.prog X.w) X.A (newFunctionEnv scope X.env.globals cl [] X.env.qual none .none (some X.env)) (λcenv s₄=>
   codeAny (model X.prog X.w) X.A (.compStart (.ListComp elt [⟨tg,iter,[],0⟩,⟨tg2,iter2,ifs,0⟩] scope pos) 0 (.ref it) acc {cenv with scope:=relabel scope X.env}) (RR acc cenv.locals) s₄) E s₃) E s:=by
 have hlt:∀b∈fp,b<s.heap.objs.size:=λb hb=>let⟨o,e,_⟩:=T.obj _ _ st b hb;YAl e
 have hl0:H s.heap.objs.size=none:=I.hok.fresh (YAn _);obtain⟨W,⟨m0,w0⟩,turn⟩:=q s.heap.objs.size hl0;refine YAS ?_
 -- the list is laid
 have I3:Inv X O Y (upd H s.heap.objs.size (.lst [])) {s with heap:=s.heap.push {cls:=.type "list",data:=.seq ([]:List Value).toArray},toks:=s.toks}:=I.lnew (its:=[]) .nil (YAH _);generalize hs3:({s with heap:=s.heap.push {cls:=.type "list",data:=.seq ([]:List Value).toArray},toks:=s.toks}:Shared)=s3 at I3;have e3:({s with heap:=s.heap.push {cls:=.type "list",data:=.seq ([]:List Value).toArray}}:Shared)=s3:=hs3;have k3:∀b o,s.heap.get? b=some o->s3.heap.get? b=some o:=λb o e=>by rw[<-hs3];exact YAd _ e
 have z3:s.heap.objs.size<=s3.heap.objs.size:=by rw[<-hs3];show _<=(s.heap.push _).objs.size;rw[YBf];exact Nat.le_succ _
 have f3:∀b∈fp,FpOk X O (upd H s.heap.objs.size (.lst [])) b:=λb hb=>⟨by rw[zaf (YAv (hlt b hb))];exact(hf b hb).1,(hf b hb).2⟩;have lt3:∀b∈fp,b<s3.heap.objs.size:=λb hb=>YAs (hlt b hb) z3;have st3:tn 0 s3.heap:=T.keep _ _ _ st λb _ o e=>k3 b o e;refine YCR hS.nocell (by intro y hy;simp at hy) (λh₁ hns₁ hsb₁=>?_) hS.kind;have k4:∀b o,s3.heap.get? b=some o->h₁.get? b=some o:=λb o e=>hsb₁.extBut b o (YAv (YAl e)) (YAd _ e);have ok4:=zfH (J:=J) (it:=it) (tn:=tn) I3 hS hcl hcl2 f3 lt3;have I4:=zdp (t':=s3.toks+([]:List (Str×Value)).length) I3 hS hcl hcl2 ok4 hns₁ k4;have st4:tn 0 h₁:=T.keep _ _ _ st3 λb _ o e=>k4 b o e
 -- what stays true of the iterator's objects
 have stat:∀{H':Hp},(∀b∈fp,H' b=none)->∀b∈fp,FpOk (zaq X Nc scope cl s3.heap.objs.size s3 (upd H s.heap.objs.size (.lst [])) fp) [] H' b:=λhn b hb=>
  ⟨hn b hb,(ok4.exf b hb).1,ok4.exfs b hb,.inl hb,(ok4.exf b hb).2,λp hp=>absurd (show p∈([]:List (Addr×Obj))from hp) (by simp)⟩
 have loop:∀s₄:Shared,s₄={s3 with heap:=h₁,toks:=s3.toks+([]:List (Str×Value)).length} ->
   codeAny (model X.prog X.w) X.A (.compLoop (.ListComp elt [⟨tg,iter,[],0⟩,⟨tg2,iter2,ifs,0⟩] scope pos) 0 (.ref it) (.ref s.heap.objs.size) (compEnvC scope cl s3.heap.objs.size X.env)) (RR (.ref s.heap.objs.size) s3.heap.objs.size) s₄:=by
  rintro s₄ rfl;refine YDG rfl (λn s'=>∃i xs H',Inv (zaq X Nc scope cl s3.heap.objs.size s3 (upd H s.heap.objs.size (.lst [])) fp) [] (zbk sub Y) H' s'/\tn i s'.heap/\(∀b∈fp,H' b=none)/\W i n xs H') ?_ m0
   ⟨0,[],_,I4,st4,λb hb=>(f3 b hb).1,w0⟩
  rintro n s5 ⟨i,xs,H5,I5,st5,fr5,w5⟩;show wpAny _ X.A ((compTurn (.ListComp elt [⟨tg,iter,[],0⟩,⟨tg2,iter2,ifs,0⟩] scope pos) 0 (.ref it) (.ref s.heap.objs.size) (compEnvC scope cl s3.heap.objs.size X.env)).onRaise (λx=>do noteFrame x (compEnvC scope cl s3.heap.objs.size X.env);theTreesLotGoes x)) _ _ s5;refine YDY ?_;rw[zf1];refine YAa (YBg (YAa ?_));obtain⟨hl5,w5⟩:=turn i n xs H5 w5;rcases w5 with⟨stop,qn⟩|⟨go,N,hN,step⟩
  .refine thn (T.done (zaq X Nc scope cl s3.heap.objs.size s3 (upd H s.heap.objs.size (.lst [])) fp) rfl rfl rfl hc i [] s5 (zbk sub Y) H5 _ I5 (stat fr5) st5 stop) λr s6 ⟨hr,I6⟩=>?_;subst hr;obtain⟨m6,hn6,_⟩:=I6.loc;exact YAf (hRR _ _ H5 s6 m6 (zeL I3 f3 I6) qn hn6 z3 I6.free)
  .refine thn (T.item (zaq X Nc scope cl s3.heap.objs.size s3 (upd H s.heap.objs.size (.lst [])) fp) rfl rfl rfl hc i [] s5 (zbk sub Y) H5 _ I5 (stat fr5) st5 go) λr s6 ⟨u,hr,h6⟩=>?_;subst hr;refine YAa (thn h6 λ_ s7 ⟨x,H7,I7,r7,y7,st7,fr7⟩=>?_);have I7':=I7.pinned (stat fr7) (T.obj _ _ st7);have again:∀{Y8:St}{H8:Hp}{ys:List V}{s8:Shared},Inv (zaq X Nc scope cl s3.heap.objs.size s3 (upd H s.heap.objs.size (.lst [])) fp) ([]++ze5 fp s7.heap) Y8 H8 s8->(∀(i j:Nat),sub[i]?=some (some j)->Y8[i]?=(zbk sub Y)[i]?)->N ys H8 ->
     ∃m,m<n/\∃i xs H',Inv (zaq X Nc scope cl s3.heap.objs.size s3 (upd H s.heap.objs.size (.lst [])) fp) [] (zbk sub Y) H' s8/\tn i s8.heap/\(∀b∈fp,H' b=none)/\W i m xs H':=λ{Y8 H8 ys s8} I8 k8 n8=>by
    obtain⟨m',hm,w8⟩:=hN ys H8 n8;refine⟨m',hm,i+1,ys,H8,?_,T.keep _ _ _ st7 λb hb o e=>(I8.pin (b,o) (YAp _ (YAp _ (zbe hb e)))).1,λb hb=>?_,w8⟩
    .refine I8.unpinned.weak ?_ λk v e=>?_
     .rw[I8.len];exact(zd8 sub Y).trans hS.len
     .obtain⟨j,e1,_⟩:=zdl e;rw[k8 k j e1];exact e
    .obtain⟨o,e,d⟩:=T.obj _ _ st7 b hb;exact(I8.pin (b,o) (YAp _ (YAp _ (zbe hb e)))).2.1
   refine YAa (YA2 (hg cl _ s3 _ fp _ s7 (zbk sub Y) H7 x u _ I7' r7 (gk2 _ _ _ _ (gk _ _ _ _ (step x H7 y7)))) (λ_ s8 ⟨Y8,H8,I8,⟨q8,k8⟩,hga⟩=>?_) λ_ _ z=>False.elim z);refine YAa (wpAny_tests_nil ?_);refine YAa (YA2 (hI2 cl _ s3 _ fp _ s8 Y8 H8 _ I8 q8) (λxv s9 h9=>?_) λ_ _ z=>False.elim z);refine YAa (YBg (YAa (YDZ (hs2 cl s3.heap.objs.size s3 (upd H s.heap.objs.size (.lst [])) fp xv) (YAa (YAV (YA2 h9 (λitv s10 h10=>?_) λ_ _ z=>False.elim z))))));obtain⟨it2,fp2,tn2,J2,H10,e10,I10,T2,st10,f10,q10⟩:=h10;subst e10;refine YAa (wpAny_runOwn (znM (X:=zaq X Nc scope cl s3.heap.objs.size s3 (upd H s.heap.objs.size (.lst [])) fp) hc rfl I10 T2 st10 f10 (hg2 cl _ s3 _ fp) (hga Y rfl) (hi cl _ s3 _ fp) (he cl _ s3 _ fp) q10 λys H11 s11 I11 n11=>?_));exact YAf ⟨rfl,again I11 k8 n11⟩
 exact codeAny_compStart_list (loop _ rfl) (T.self _ 0 _ _ _ st4 (loop _ rfl))
def zn1(hc:X.calm=true)(hN:X.N.Nodup)(hiN:X.N[i]?=some y)(hy:X.env.scope.names.lookup y=some .local)(hS:CompScope X.N X.env.scope scope Nc sub)(hI:PI X tg iter wi)
  (hg:∀cl L s0 H0 ex,PG (zaq X Nc scope cl L s0 H0 ex) tg g) (gk:zfg sub g) (hI2:∀cl L s0 H0 ex,PI (zaq X Nc scope cl L s0 H0 ex) tg2 iter2 wi2) (hg2:∀cl L s0 H0 ex,PG (zaq X Nc scope cl L s0 H0 ex) tg2 g2) (gk2:zpS sub g g2) (hs2:∀cl L s0 H0 ex x,foldedSetIterable iter2 (zaq X Nc scope cl L s0 H0 ex).env x=pure x) (gm:zeO g)
  (hi:∀cl L s0 H0 ex,PIfs (zaq X Nc scope cl L s0 H0 ex) ifs tc) (he:∀cl L s0 H0 ex,PE (zaq X Nc scope cl L s0 H0 ex) elt te)
  (hsw:swapsWith (.ListComp elt [⟨tg,iter,[],0⟩,⟨tg2,iter2,ifs,0⟩] scope pos) (some (.Name y py)) spos.line X.env=pure true:=by rfl)
  (hs:∀x,foldedSetIterable iter X.env x=pure x:=by intro _;rfl):PS X (.Assign [.Name y py] (.ListComp elt [⟨tg,iter,[],0⟩,⟨tg2,iter2,ifs,0⟩] scope pos) spos) (tAsg (znH sub wi g wi2 g2 tc te) (zc9 i)):=by
 intro O s Y H D I h;obtain⟨cl,hcl0,hcl,hcl2⟩:=zbK (zdx I hS);rw[exec_Assign_Name_used _ _ _ _ hsw];refine YAa (YBg (YAa ?_));show wpAny _ X.A (do let _ <-comprehension (.ListComp elt [⟨tg,iter,[],0⟩,⟨tg2,iter2,ifs,0⟩] scope pos) scope X.env _ (newList []) false (eval iter X.env) (some (assign (.Name y py) X.env))) _ _ s;refine YAa (YA2 (YB9 (use:=some (assign (.Name y py) X.env)) (Q:=λ_ s'=>SP X O D .next s') rfl hs hcl0 hS.kind hS.names
  (thn (hI O s Y H _ I h) λxv s1 h1=>thn h1 λitv s2 h2=>?_)) (λ_ s' hq=>YAf (YAf hq)) λ_ _ e=>e)
 obtain⟨it,fp,tn,J,H2,e,I2,T,st2,f2,q⟩:=h2;subst e;refine znN hc I2 hS hcl hcl2 T st2 f2 hg gk hI2 hg2 gk2 hs2 hi he gm q λl C H' s' m I' q' hn hC hfr=>?_;have nL:C≠X.env.locals:=YBd (YAs I2.lt hC);show wpAny _ X.A (assign (.Name y py) X.env (.ref l)) _ _ _;refine YDl (zfW I' hN hiN (.inl hy) (v:=.ref l) rfl (λs6 I6 ⟨a,sb6,ha⟩=>?_) (.inr hy));have nA:C≠a:=λz=>by
  rcases ha with e|e
  .exact nL (z.trans e)
  .obtain⟨v,w⟩:=I2.cell y a e;exact absurd (YAs w.lt (by rw[<-z];exact hC)) (YBa _)
 refine⟨m,hn.sameBut sb6 nA,λh' sb=>?_⟩;refine⟨_,H',I6.turned (it:=C) (t':=s6.toks) (λb o hb e=>(sb.2 b hb).trans e) hfr nL (.inr (YAQ I2.sz hC)) (λx c e z=>by
  obtain⟨v,w⟩:=I2.cell x c e;exact absurd (YAs w.lt (by rw[z];exact hC)) (YBa _)) (λp hp z=>
  absurd (YAs (YAl (I2.pin p hp).1) (by rw[z];exact hC)) (YBa _)),q'⟩
end
end L2
set_option maxHeartbeats 1000000
namespace L2
open PySem
def Up(xs:Array Nat):Prop:=xs.toList.Pairwise (·<·)
def Up.lt{xs:Array Nat}(h:Up xs){i j a b:Nat}(hij:i<j)(ha:xs[i]?=some a)(hb:xs[j]?=some b):a<b:=by
 obtain⟨h1,e1⟩:=YBA.mp ha;obtain⟨h2,e2⟩:=YBA.mp hb
 have:=YA1.mp h i j (by simpa using h1) (by simpa using h2) hij
 simp only[YCt]at this;omega
def znV(xs:Array Nat)(j:Nat)(hu:Up xs):∀(fuel lo hi:Nat),hi-lo<=fuel->lo<=hi->hi<=xs.size->(∀i a,i<lo->xs[i]?=some a->a<j)->(∀i a,hi<=i->xs[i]?=some a->j<=a) ->
  SetTable.below.go xs j fuel lo hi<=xs.size/\(∀i a,i<SetTable.below.go xs j fuel lo hi->xs[i]?=some a->a<j)/\(∀i a,SetTable.below.go xs j fuel lo hi<=i->xs[i]?=some a->j<=a):=by
 intro fuel
 induction fuel with
 |zero=>
  intro lo hi h1 h2 h3 h4 h5;have e:lo=hi:=by omega
  subst e;unfold SetTable.below.go;exact⟨h3,h4,h5⟩
 |succ fuel ih=>
  intro lo hi h1 h2 h3 h4 h5;unfold SetTable.below.go;by_cases hl:lo<hi
  .rw[if_pos hl];have hm:(lo+hi) / 2<hi:=by omega
   have hm2:lo<=(lo+hi) / 2:=by omega
   have hs:(lo+hi) / 2<xs.size:=by omega
   have hg:xs[(lo+hi) / 2]?=some xs[(lo+hi) / 2]:=YA9 hs;have hd:xs.getD ((lo+hi) / 2) j=xs[(lo+hi) / 2]:=by simp[Array.getD,hs]
   dsimp only;rw[hd];by_cases hc:xs[(lo+hi) / 2]<j
   .rw[if_pos hc];refine ih _ _ (by omega) (by omega) h3 (λi a hi' ha=>?_) h5;by_cases e:i=(lo+hi) / 2
    .subst e;rw[hg]at ha;cases ha;exact hc
    .have:=hu.lt (show i<(lo+hi) / 2 by omega) ha hg
     omega
   .rw[if_neg hc];refine ih _ _ (by omega) hm2 (by omega) h4 (λi a hi' ha=>?_);by_cases e:i=(lo+hi) / 2
    .subst e;rw[hg]at ha;cases ha;omega
    .have:=hu.lt (show(lo+hi) / 2<i by omega) hg ha
     omega
  .rw[if_neg hl];have e:lo=hi:=by omega
   subst e;exact⟨h3,h4,h5⟩
def zhx(hu:Up xs)(j:Nat):SetTable.below xs j<=xs.size/\(∀i a,i<SetTable.below xs j->xs[i]?=some a->a<j)/\(∀i a,SetTable.below xs j<=i->xs[i]?=some a->j<=a):=by
 unfold SetTable.below;exact znV xs j hu xs.size 0 xs.size (by omega) (by omega) (YAn _) (λi a h=>absurd h (Nat.not_lt_zero _)) (λi a h e=>by
  obtain⟨h1,_⟩:=YBA.mp e;omega)
def zlm{xs:Array Nat}(hu:Up xs){i a:Nat}(h:xs[i]?=some a):SetTable.below xs (a+1)=i+1:=by
 obtain⟨h1,h2,h3⟩:=zhx hu (a+1);obtain⟨hi,_⟩:=YBA.mp h;have c1:¬ SetTable.below xs (a+1)<=i:=λz=>by have:=h3 i a z h;omega
 have c2:¬ i+1<SetTable.below xs (a+1):=λz=>by
  have hs:i+1<xs.size:=by omega
  have e2:xs[i+1]?=some xs[i+1]:=YA9 hs
  have:=h2 (i+1) _ z e2
  have:=hu.lt (YCj i) h e2
  omega
 omega
def zlC(xs:Array Nat)(hu:Up xs):SetTable.below xs 0=0:=by
 obtain⟨h1,h2,_⟩:=zhx hu 0;by_cases h:0<SetTable.below xs 0
 .have hs:0<xs.size:=by omega
  have:=h2 0 _ h (YA9 hs)
  omega
 .omega
structure TabOk(led:Bool)(t:SetTable):Prop where
 up:Up t.place
 nod:t.dummies=#[]
 led:t.led=led
theorem TabOk.fresh(f m:Nat)(led:Bool):TabOk led (SetTable.fresh f m led):=⟨by simp[Up,SetTable.fresh],rfl,rfl⟩
theorem TabOk.standIn{led:Bool}{t:SetTable}(h:TabOk led t)(n:Nat):TabOk led (t.standIn n):=
 ⟨by simp only[Up,SetTable.standIn,Array.toList_range];exact List.pairwise_lt_range,rfl,h.led⟩
theorem TabOk.orStandIn{led:Bool}{t:SetTable}(h:TabOk led t)(n:Nat):TabOk led (t.orStandIn n):=by
 unfold SetTable.orStandIn;split
 .exact h
 .exact h.standIn n
def TabOk.plainOff{led:Bool}{t:SetTable}(h:TabOk led t):TabOk led {t with plain:=false}:=⟨h.up,h.nod,h.led⟩
def zm0(j:Nat):SetTable.has #[] j=false:=by simp[SetTable.has]
theorem TabOk.put{led:Bool}{t:SetTable}(h:TabOk led t){j:Nat}(hj:t.place[SetTable.below t.place j]?≠some j):TabOk led (t.put j).1:=by
 refine⟨?_,?_,h.led⟩
 .show(SetTable.insertAt t.place (SetTable.below t.place j) j).toList.Pairwise (·<·);rw[SetTable.toList_insertAt];obtain⟨h1,h2,h3⟩:=zhx h.up j;have e:=YBZ (SetTable.below t.place j) t.place.toList;have hp:(t.place.toList.take (SetTable.below t.place j)++t.place.toList.drop (SetTable.below t.place j)).Pairwise (·<·):=by rw[e];exact h.up
  obtain⟨p1,p2,p3⟩:=YBJ.mp hp;have lo:∀a∈t.place.toList.take (SetTable.below t.place j),a<j:=λa ha=>by
   obtain⟨i,hi,e⟩:=List.mem_take_iff_getElem.mp ha;exact h2 i a (by omega) (by rw[<-e];simp only[YCt];exact YA9 _)
  have hi:∀a∈t.place.toList.drop (SetTable.below t.place j),j<a:=λa ha=>by
   obtain⟨i,hi,e⟩:=List.mem_drop_iff_getElem.mp ha;have hs:SetTable.below t.place j+i<t.place.size:=by simp at hi;omega
   have ea:t.place[SetTable.below t.place j+i]?=some a:=by rw[<-e];simp only[YCt];exact YA9 _
   have g1:=h3 _ a (YBH _ _) ea;by_cases z:j=a
   .exfalso
    by_cases z2:i=0
    .subst z2;rw[Nat.add_zero,<-z]at ea;exact hj ea
    .have hs0:SetTable.below t.place j<t.place.size:=by omega
     have e0:t.place[SetTable.below t.place j]?=some t.place[SetTable.below t.place j]:=YA9 hs0;have g2:=h3 _ _ (YAn _) e0;have g3:=h.up.lt (show SetTable.below t.place j<SetTable.below t.place j+i by omega) e0 ea;omega
   .omega
  refine YBJ.mpr ⟨p1,YA7.mpr ⟨hi,p2⟩,λa ha b hb=>?_⟩;rcases YAk.mp hb with z|z
  .subst z;exact lo a ha
  .exact p3 a ha b z
 .show(if SetTable.has t.dummies j=true then _ else _)=_;rw[h.nod,zm0]
  simp
def zjT(hd:t.dummies=#[])(f:Nat->Int)(h:Int):∀(fuel:Nat)(p:SetTable.Probe),p.dummy=none->∀j d,SetTable.probe.go t f h fuel p=some (.empty j d)->d=none/\t.place[SetTable.below t.place j]?≠some j:=by
 intro fuel
 induction fuel with
 |zero=>intro p _ j d e;unfold SetTable.probe.go at e;cases e
 |succ fuel ih=>
  intro p hp j d e;unfold SetTable.probe.go at e;have adv:∀q:SetTable.Probe,q.dummy=none->(t.advance q).dummy=none:=λq hq=>by
   unfold SetTable.advance;split
   .exact hq
   .exact hq
  cases hs:t.slot p.j with
  |empty=>
   rw[hs]at e;injection e with e
   injection e with e1 e2
   subst e1 e2;refine⟨hp,λz=>?_⟩;unfold SetTable.slot at hs;simp only[z,beq_self_eq_true,YCO]at hs;cases hs
  |dummy=>
   exfalso
   unfold SetTable.slot at hs;rw[hd,zm0]at hs;by_cases z:t.place[SetTable.below t.place p.j]?=some p.j
   .simp[z]at hs
   .simp[z]at hs
  |live i=>
   rw[hs]at e;dsimp only at e;split at e
   .cases e
   .exact ih _ (adv p hp) j d e
theorem TabOk.layNew{led:Bool}{t:SetTable}(h:TabOk led t)(es:Array (Int×Value))(hh:Int)(x:Value):TabOk led (PySem.layNew t es hh x).2.1:=by
 unfold PySem.layNew;cases e:t.freeSlot hh with
 |none=>exact h.standIn _
 |some r=>
  obtain⟨slot,wd⟩:=r;unfold SetTable.freeSlot at e;cases e2:t.probe (λ_=>hh+1) hh (t.probeStart hh)with
  |none=>rw[e2]at e;cases e
  |some m=>
   rw[e2]at e;cases m with
   |candidate _ _ _=>cases e
   |empty j d=>
    obtain⟨z1,z2⟩:=zjT h.nod (λ_=>hh+1) hh (10*SetTable.turns t.mask) (t.probeStart hh) rfl j d (by unfold SetTable.probe at e2;exact e2);subst z1;injection e with e
    injection e with e3 e4
    subst e3;exact(h.put z2).orStandIn _
theorem TabOk.relayAll{led:Bool}{t:SetTable}(h:TabOk led t)(es:Array (Int×Value))(wanted:Nat):TabOk led (PySem.relayAll t es wanted).2.1:=by
 unfold PySem.relayAll;cases e:t.relaid (es.map (·.1)) wanted with
 |none=>exact h.standIn _
 |some r=>
  obtain⟨t',order⟩:=r;dsimp only;have ok:TabOk led t':=by
   unfold SetTable.relaid SetTable.laid at e;cases e1:SetTable.layClean (SetTable.sizeAbove wanted-1) (es.map (·.1))with
   |none=>rw[e1]at e;cases e
   |some owner=>
    rw[e1]at e;injection e with e
    injection e with e2 e3
    subst e2;refine⟨?_,rfl,h.led⟩;show List.Pairwise (·<·) _;simp only[List.toList_toArray,List.pairwise_map];refine List.Pairwise.filterMap (R:=(·<·)) _ ?_ List.pairwise_lt_range;intro a a' haa b hb b' hb';simp only[Option.mem_def,Option.map_eq_some_iff]at hb hb';obtain⟨k,_,q⟩:=hb;obtain⟨k',_,q'⟩:=hb';subst q q';exact haa
  split
  .exact ok
  .exact h.standIn _
end L2
namespace L2
open PySem PyProof.Rows
def slot_setiter_next:Slot "set_iterator" "__next__" "set_iterator.__next__":=
 .of (owner:="set_iterator") (n:="__next__") (by rw[typeLookup_type,builtinLookup_eq_fast];kernel_rfl) (by decide +kernel) (by decide +kernel) (by decide +kernel)
  (by first|exact .inl (by decide +kernel)|exact .inr (by decide +kernel)) (by rw[isSubtype_type];kernel_rfl)
def zcG:Slot "set_iterator" "__iter__" "set_iterator.__iter__":=
 .of (owner:="set_iterator") (n:="__iter__") (by rw[typeLookup_type,builtinLookup_eq_fast];kernel_rfl) (by decide +kernel) (by decide +kernel) (by decide +kernel)
  (by first|exact .inl (by decide +kernel)|exact .inr (by decide +kernel)) (by rw[isSubtype_type];kernel_rfl)
def zct:entryFor table "set_iterator.__next__"=some Builtin.«set_iterator.__next__»:=entryFor_of_fast (by kernel_rfl)
def zcI(a:Value):argsOk "set_iterator.__next__" ⟨[a],[]⟩:=by unfold argsOk;kernel_rfl
def zgr:entryFor table "set.__iter__"=some Builtin.«frozenset.__iter__»:=
 YDR (id':="frozenset.__iter__") (by kernel_rfl) rfl (by decide +kernel) (by kernel_rfl)
def zhh(a:Value):argsOk "set.__iter__" ⟨[a],[]⟩:=by unfold argsOk;kernel_rfl
structure SetRec(w:World)(h:Heap)(a:Addr)(es:Array (Int×Value))(ep:Nat)(t:SetTable):Prop where
 at_:h.get? a=some {cls:=.type "set",dict:=none,data:=.set es ep t}
 fits:t.fits es.size=true
 tab:TabOk (!w.params.followText "set-order") t
def SetRec.keep(r:SetRec w h a es ep t)(k:∀o,h.get? a=some o->h'.get? a=some o):SetRec w h' a es ep t:=⟨k _ r.at_,r.fits,r.tab⟩
def zgQ{α:Type}{l:List α}{i:Nat}(h:i<l.length):(l[i]::l.eraseIdx i).Perm l:=by
 have e:l=l.take i++l[i]::l.drop (i+1):=by rw[List.getElem_cons_drop,YBZ]
 have e2:l.eraseIdx i=l.take i++l.drop (i+1):=List.eraseIdx_eq_take_drop_succ l i;rw[e2];exact List.perm_middle.symm.trans (List.Perm.of_eq e.symm)
def zfU{α:Type}(next:Nat->Nat):∀(fuel k:Nat)(left:List α)(out:Array α),left.length<=fuel->(pickOrder.go next fuel k left out).toList.Perm (out.toList++left):=by
 intro fuel
 induction fuel with
 |zero=>
  intro k left out h;have e:left=[]:=List.eq_nil_of_length_eq_zero (by omega);subst e;unfold pickOrder.go;rw[YAN]
 |succ fuel ih=>
  intro k left out h;unfold pickOrder.go;cases hl:left with
  |nil=>simp
  |cons x r=>
   have hi:next k % (x::r).length<(x::r).length:=Nat.mod_lt _ (by simp)
   have e:(x::r)[next k % (x::r).length]?=some (x::r)[next k % (x::r).length]:=YAe hi;rw[e];dsimp only;refine(ih _ _ _ (by rw[List.length_eraseIdx,if_pos hi];rw[hl]at h;omega)).trans ?_;rw[Array.toList_push,YAJ,List.singleton_append];exact(zgQ hi).append_left _
def zgw{α:Type}(next:Nat->Nat)(xs:Array α):(pickOrder next xs).toList.Perm xs.toList:=by
 unfold pickOrder
 have:=zfU next xs.size 0 xs.toList #[] (by simp)
 simpa using this
section
variable{prog:Program}{w:World}{A:Around}{E:Value->Shared->Prop}{s:Shared}
def zi7{M:Model}{src:Source}{n:Nat}{Q:Nat->Shared->Prop}(hn:n≠0)(h:∀i d,i<n->Q i {s with drawn:=d}):wpAny M A (choose src n) Q E s:=λ_ _ _=>⟨hn,h _ _ (Nat.mod_lt _ (Nat.pos_of_ne_zero hn))⟩
def zgd{α:Type}:∀(n:Nat)(xs:List α)(s:Shared){M:Model}{Q:List α->Shared->Prop},xs.length<=n->(∀ys d,ys.Perm xs->Q ys {s with drawn:=d})->wpAny M A (drawOrder n xs) Q E s:=by
 intro n
 induction n with
 |zero=>
  intro xs s M Q h hq;have e:xs=[]:=List.eq_nil_of_length_eq_zero (by omega);subst e;unfold drawOrder;exact YAf (hq [] s.drawn (.refl _))
 |succ n ih=>
  intro xs s M Q h hq;cases xs with
  |nil=>unfold drawOrder;exact YAf (hq [] s.drawn (.refl _))
  |cons x r=>
   unfold drawOrder;refine YAa (zi7 (by simp) λi d hi=>?_);have e:(x::r)[i]?=some (x::r)[i]:=YAe hi;rw[e];dsimp only;refine YAa (ih _ _ (by rw[List.length_eraseIdx,if_pos hi];omega) λys d' hp=>YAf ?_);exact hq _ d' ((hp.cons _).trans (zgQ hi))
def zeu(h:Q (w.params.followText "set-order") s):wpAny (model prog w) A setsByText Q E s:=by
 unfold setsByText;exact YAa (YCi (YAf h))
variable{a:Addr}{es:Array (Int×Value)}{ep:Nat}{t:SetTable}
def zcs(r:SetRec w s.heap a es ep t)(h:Q (es,ep,t) s):wpAny (model prog w) A (setState a) Q E s:=wpAny_setState_of r.at_ rfl r.fits h
def zjl(r:SetRec w s.heap a es ep t)(ht:w.params.followText "set-order"=true)(h:Q (pickOrder (w.params.setOrder a ep) es) s):wpAny (model prog w) A (setWalk a) Q E s:=by
 unfold setWalk;refine YAa (zcs r ?_);dsimp only;refine YAa (zeu ?_);rw[if_pos ht];exact YAa (YCi (YAf h))
def zeZ(r:SetRec w s.heap a es ep t)(ht:w.params.followText "set-order"=true)
  (h:Q (((pickOrder (w.params.setOrder a ep) es)[given]?).map λe=>(e.2,slot)) s):wpAny (model prog w) A (setNext a slot given ep) Q E s:=by
 unfold setNext;refine YAa (zcs r ?_);dsimp only;refine YAa (zeu ?_);rw[if_pos ht];simp only[YCa,YAX,YBX];exact YAa (zjl r ht (YAf h))
def zet(r:SetRec w s.heap a es ep t)(ht:w.params.followText "set-order"=false)(hd:(!t.plain&&decide (es.size>1))=false)
  (h:Q (match es[SetTable.below t.place slot]?,t.place[SetTable.below t.place slot]? with|some (_,x),some j=>some (x,j+1)|_,_=>none) s):wpAny (model prog w) A (setNext a slot given ep') Q E s:=by
 unfold setNext;refine YAa (zcs r ?_);dsimp only;refine YAa (zeu ?_);rw[if_neg (by rw[ht];exact YAA)];show wpAny _ _ (if (!t.plain&&decide (es.size>1))=true then _ else _) _ _ _;rw[if_neg (by rw[hd];exact YAA)];have hl:t.led=true:=by have:=r.tab.led;rw[ht]at this;exact this
 show wpAny _ _ ((if (!t.led && !es.isEmpty)=true then unsupported "set:maker-not-led" else pure ()) >>= _) _ _ _;rw[if_neg (by rw[hl];simp)];exact YAa (YAf (YAf h))
def zn9(r:SetRec w s.heap a es ep t)(h:Q (!w.params.followText "set-order"&&(!t.plain&&decide (es.size>1))) s):wpAny (model prog w) A (setDrawn a) Q E s:=by
 unfold setDrawn;refine YAa (zcs r ?_);dsimp only;exact YAa (zeu (YAf h))
noncomputable def Goes(w:World)(a p:Addr)(es:Array (Int×Value))(ep:Nat)(t:SetTable)(first:Value)(ord:List (Int×Value))(i:Nat)(h:Heap):Prop:=
 (w.params.followText "set-order"=true/\ord=(pickOrder (w.params.setOrder a ep) es).toList/\∃k tk,first=.int k tk) \/
 (w.params.followText "set-order"=false/\∃ps n,first=.ref p/\h.get? p=some {cls:=.type "tuple",data:=.seq ps n}/\ps.size=es.size/\ord.length=es.size/\∀(j:Nat) e,ord[j]?=some e->∃k:Nat,ps[j]?=some (rawInt k)/\es[k]?=some e) \/
 (w.params.followText "set-order"=false/\(!t.plain&&decide (es.size>1))=false/\ord=es.toList/\∃k:Nat,first=rawInt k/\SetTable.below t.place k=i)
structure IterAt(w:World)(h:Heap)(it a p:Addr)(es:Array (Int×Value))(ep:Nat)(t:SetTable)(ord:List (Int×Value))(i:Nat):Prop where
 rc:SetRec w h a es ep t
 rec':∃first,h.get? it=some {cls:=.type "set_iterator",data:=.fields #[first,rawInt i,.ref a,rawInt es.size,rawInt ep]}/\Goes w a p es ep t first ord i h
 len:ord.length=es.size
end
def zly:¬ (Value.type "set_iterator"=Value.type "set"):=by decide +kernel
def zgv:¬ (Value.type "set_iterator"=Value.type "tuple"):=by decide +kernel
section
variable{prog:Program}{w:World}{A:Around}{E:Value->Shared->Prop}{s:Shared}{it a p:Addr}{es:Array (Int×Value)}{ep:Nat}{t:SetTable}{ord:List (Int×Value)}{i:Nat}
def IterAt.ty(x:IterAt w s.heap it a p es ep t ord i):s.TypeIs (.ref it) "set_iterator":=let⟨_,e,_⟩:=x.rec';⟨_,e,rfl⟩
def zfu{h h':Heap}{f f':Value}(x:IterAt w h it a p es ep t ord i)(hg':Goes w a p es ep t f' ord (i+1) h')
  (hs:Heap.SameBut it h h') (e':h'.get? it=some {cls:=.type "set_iterator",data:=.fields #[f',rawInt (i+1:Nat),.ref a,rawInt es.size,rawInt ep]}):IterAt w h' it a p es ep t ord (i+1):=by
 have ne:a≠it:=λz=>by
  obtain⟨f,e,_⟩:=x.rec';have q:=x.rc.at_;rw[z,e]at q;exact zly (congrArg Obj.cls (Option.some.inj q))
 exact⟨x.rc.keep λo e=>(hs.2 a ne).trans e,⟨f',e',hg'⟩,x.len⟩
def zfy{e:Int×Value}{Q:Option Value->Shared->Prop}(x:IterAt w s.heap it a p es ep t ord i)(he:ord[i]?=some e)
  (hQ:∀h',IterAt w h' it a p es ep t ord (i+1)->Heap.SameBut it s.heap h'->Q (some e.2) {s with heap:=h'}):wpAny (model prog w) A (pyNext (.ref it)) Q E s:=by
 obtain⟨f,hf,hg⟩:=id x.rec';unfold pyNext;refine YAa (YCW (YA0 (name:=Str.ofString "__next__") x.ty slot_setiter_next
  (YAU slot_setiter_next x.ty zct ?_ (zcI _))))
 unfold Builtin.«set_iterator.__next__»;refine YAa (m:=slotArgs "__next__" 0 _) (YAf ?_);dsimp only;refine YAa (wpAny_fieldsOf hf rfl ?_);dsimp only[rawInt];refine YAa (YC6 x.rc.at_ rfl x.rc.fits ?_);simp only[YCa,YAX,YBX];have ei:((i:Int)+1)=((i+1:Nat):Int):=by omega
 rcases hg with⟨ht,ho,k,tk,rfl⟩|⟨ht,ps,n,rfl,hp,hz,hl,hP⟩|⟨ht,hd,ho,k,rfl,hb⟩
 .dsimp only;simp only[YAD];refine YAa (zeZ x.rc ht ?_);have e1:(pickOrder (w.params.setOrder a ep) es)[i]?=some e:=by rw[<-YBF,<-ho];exact he
  rw[e1];dsimp only[Option.map];refine YAa (YAR hf (by simp) λh1 e1 s1=>?_);refine YAa (YAR (s:={s with heap:=h1}) e1 (by simp) λh2 e2 s2=>?_);refine YAf ⟨e.2,rfl,YAf (hQ h2 (zfu (f:=.int k tk) (f':=.int (k.toNat:Nat) 0) x (.inl ⟨ht,ho,_,_,rfl⟩) (s1.trans s2) ?_) (s1.trans s2))⟩;rw[e2,ei];rfl
 .dsimp only;refine YAa (YBt hp rfl ?_);obtain⟨k,e1,e2⟩:=hP i e he;simp only[YAD,e1,rawInt];refine YAa ?_;unfold setNextDrawn;refine YAa (zcs x.rc ?_);simp only[YCa,YAX,YBX,e2];refine YAf ?_;refine YAa (YAR hf (by simp) λh2 e2 s2=>?_);have nep:p≠it:=λz=>by rw[z,hf]at hp;exact zgv (congrArg Obj.cls (Option.some.inj hp))
  refine YAf ⟨e.2,rfl,YAf (hQ h2 (zfu (f:=.ref p) (f':=.ref p) x (.inr (.inl ⟨ht,ps,n,rfl,(s2.2 p nep).trans hp,hz,hl,hP⟩)) s2 ?_) s2)⟩;rw[e2,ei];rfl
 .dsimp only[rawInt];simp only[YAD];refine YAa (zet x.rc ht hd ?_);have e1:es[i]?=some e:=by rw[<-YBF,<-ho];exact he
  have hi:i<es.size:=(YBA.mp e1).1;have hps:t.place.size=es.size:=by
   have:=x.rc.fits
   simp only[SetTable.fits,YAI,beq_iff_eq,YCq]at this;exact this.1
  have e3:t.place[i]?=some t.place[i]:=YA9 (by omega);rw[hb,e1,e3];dsimp only;refine YAa (YAR hf (by simp) λh1 e1 s1=>?_);refine YAa (YAR (s:={s with heap:=h1}) e1 (by simp) λh2 e2 s2=>?_);refine YAf ⟨e.2,rfl,YAf (hQ h2 (zfu (f:=rawInt k) (f':=rawInt (t.place[i]+1:Nat)) x (.inr (.inr ⟨ht,hd,ho,t.place[i]+1,rfl,zlm x.rc.tab.up e3⟩)) (s1.trans s2) ?_) (s1.trans s2))⟩;rw[e2,ei];rfl
def zhc{s1:Shared}{A':Around}{Q:Option Value->Shared->Prop}(hh:A'.handled=none)(h:∀h',(∀b o,s1.heap.get? b=some o->h'.get? b=some o)->Q none {s1 with heap:=h'}){R:Fin->Shared->Prop} :
  wpAny (model prog w) A' (do let x <-newExc (Value.type "StopIteration") [];raiseNew x:Sem Fin) R (λe s'=>wpAny (model prog w) A (do
     let b <-isInstance e (Value.type "StopIteration")
     if b=true then pure none else throw e) Q E s') s1:=by
 refine YAa ?_;simp only[newExc,newTuple];refine YAa (YAS ?_ (by size_fits));refine YAa (m:=firstArgMember _ _) (YDZ (a:=Value.none) (by first|rfl|(simp only[firstArgMember];rfl)) ?_);refine YAS ?_ (by size_fits);simp only[raiseNew];refine YAa (wpAny_handled ?_);rw[hh];refine YAa (YAf (wpAny_throw ?_));refine YAa (YCx (T:="StopIteration") (b:=true) ⟨_,YAr _ rfl,rfl⟩ YDS ?_);exact YAf (h _ λb o e=>YAd _ (YAd _ e))
def zgt{Q:Option Value->Shared->Prop}(hh:A.handled=none)(x:IterAt w s.heap it a p es ep t ord i)(he:i=es.size)
  (hQ:∀h',(∀b o,b≠it->s.heap.get? b=some o->h'.get? b=some o)->Q none {s with heap:=h'}):wpAny (model prog w) A (pyNext (.ref it)) Q E s:=by
 obtain⟨f,hf,hg⟩:=id x.rec';unfold pyNext;refine YAa (YCW (YA0 (name:=Str.ofString "__next__") x.ty slot_setiter_next
  (YAU slot_setiter_next x.ty zct ?_ (zcI _))))
 unfold Builtin.«set_iterator.__next__»;refine YAa (m:=slotArgs "__next__" 0 _) (YAf ?_);dsimp only;refine YAa (wpAny_fieldsOf hf rfl ?_);dsimp only[rawInt];refine YAa (YC6 x.rc.at_ rfl x.rc.fits ?_);simp only[YCa,YAX,YBX];rcases hg with⟨ht,ho,k,tk,rfl⟩|⟨ht,ps,n,rfl,hp,hz,hl,hP⟩|⟨ht,hd,ho,k,rfl,hb⟩
 .dsimp only;simp only[YAD];refine YAa (zeZ x.rc ht ?_);have e1:(pickOrder (w.params.setOrder a ep) es)[i]?=none:=by
   rw[<-YBF,<-ho];exact YB3.mpr (by rw[x.len];omega)
  rw[e1];dsimp only[Option.map];refine YAa (YAR hf (by simp) λh1 e1 s1=>?_);exact zhc (A':=A.in1) (s1:={s with heap:=h1}) hh λh' k=>hQ h' λb o nb e=>k b o ((s1.2 b nb).trans e)
 .dsimp only;refine YAa (YBt hp rfl ?_);have e1:ps[i]?=none:=by simp;omega
  simp only[YAD,e1];refine YAa (YAR hf (by simp) λh1 e1 s1=>?_);refine YAa (YAR (s:={s with heap:=h1}) e1 (by simp) λh2 e2 s2=>?_);exact zhc (A':=A.in1) (s1:={s with heap:=h2}) hh λh' k=>hQ h' λb o nb e=>k b o (((s1.trans s2).2 b nb).trans e)
 .dsimp only[rawInt];simp only[YAD];refine YAa (zet x.rc ht hd ?_);have e1:es[i]?=none:=by simp;omega
  rw[hb,e1];dsimp only;refine YAa (YAR hf (by simp) λh1 e1 s1=>?_);exact zhc (A':=A.in1) (s1:={s with heap:=h1}) hh λh' k=>hQ h' λb o nb e=>k b o ((s1.2 b nb).trans e)
def zlD(r:SetRec w s.heap a es ep t)(hz:es.size<=sizeLine)
  (hQ:∀it p h' d ord,s.heap.objs.size<=it->(p=a\/s.heap.objs.size<=p)->(∀b o,s.heap.get? b=some o->h'.get? b=some o)->ord.Perm es.toList->IterAt w h' it a p es ep t ord 0->Q (.ref it) {s with heap:=h',drawn:=d}) :
  wpAny (model prog w) A (pyIter (.ref a)) Q E s:=by
 have hT:s.TypeIs (.ref a) "set":=⟨_,r.at_,rfl⟩;refine YDn hT F.slot_set_iter (YAU F.slot_set_iter hT zgr ?_ (zhh _));unfold Builtin.«frozenset.__iter__» Builtin.Frozenset.slot0;refine YAa (YAa (m:=slotArgs "__iter__" 0 _) (YAf ?_));dsimp only;unfold Builtin.Frozenset.addrOf;refine YAf ?_;refine YAa (m:=Builtin.Frozenset.sizeOf a) ?_;unfold Builtin.Frozenset.sizeOf;refine YAa (YC6 r.at_ rfl r.fits (YAf ?_));refine YAa (zn9 r ?_);by_cases hdr:(!w.params.followText "set-order"&&(!t.plain&&decide (es.size>1)))=true
 .rw[if_pos hdr];have ht:w.params.followText "set-order"=false:=by
   rw[YAI]at hdr
   simpa using hdr.1
  refine YAa (zgd es.size (List.range es.size) s (by simp) λys d hp=>?_);have hyl:ys.length=es.size:=by rw[hp.length_eq];simp
  refine YAa (YDT ?_ (by rw[YAc,hyl];exact hz));refine YAa (m:=setEpoch a) ?_;unfold setEpoch;have r1:SetRec w (s.heap.push {cls:=.type "tuple",data:=.seq (ys.map λ(i:Nat)=>rawInt i).toArray}) a es ep t:=r.keep λo e=>YAd _ e;refine YAa (zcs (s:={s with heap:=s.heap.push {cls:=.type "tuple",data:=.seq (ys.map λ(i:Nat)=>rawInt i).toArray},drawn:=d}) r1 (YAf ?_));refine YAa (YAS ?_ (by size_fits));refine YAf ⟨_,rfl,"set_iterator",_,⟨_,YAr _ rfl,rfl⟩,slot_setiter_next.lookup,?_⟩;refine hQ _ s.heap.objs.size _ d (ys.filterMap λj=>es[j]?) ?_ (.inr (YAn _)) (λb o e=>YAd _ (YAd _ e)) ?_ ?_
  .show s.heap.objs.size<=(s.heap.push _).objs.size;rw[YBf];omega
  .exact(hp.filterMap _).trans (List.Perm.of_eq (filterMap_getElem?_range es))
  .have all:∀j∈ys,∃e,es[j]?=some e:=λj hj=>by
    have:=hp.mem_iff.mp hj
    exact⟨_,YA9 (YBc.mp this)⟩
   have key:∀(l:List Nat),(∀j∈l,∃e,es[j]?=some e)->(l.filterMap λj=>es[j]?).length=l.length/\∀(k:Nat) e,(l.filterMap λj=>es[j]?)[k]?=some e->∃j,l[k]?=some j/\es[j]?=some e:=by
    intro l
    induction l with
    |nil=>intro _;exact⟨rfl,λk e h=>by simp at h⟩
    |cons j r ih=>
     intro h;obtain⟨e0,he0⟩:=h j YAh;obtain⟨i1,i2⟩:=ih λj hj=>h j (YAj _ hj);rw[List.filterMap_cons_some (b:=e0) he0];refine⟨by rw[YAK,YAK,i1],λk e hk=>?_⟩;cases k with
     |zero=>simp at hk;subst hk;exact⟨j,rfl,he0⟩
     |succ k=>simpa using i2 k e (by simpa using hk)
   obtain⟨k1,k2⟩:=key ys all;refine⟨r1.keep λo e=>YAd _ e,⟨_,YAr _ rfl,.inr (.inl ⟨ht,_,_,rfl,YAd _ (YAr _ rfl),by simp[hyl],by rw[k1];exact hyl,λj e hj=>?_⟩)⟩,by rw[k1];exact hyl⟩;obtain⟨k,e1,e2⟩:=k2 j e hj;exact⟨k,by simp[e1],e2⟩
 .rw[if_neg hdr];refine YAa (YAf ?_);refine YAa (m:=setEpoch a) ?_;unfold setEpoch;refine YAa (zcs r (YAf ?_));refine YAa (YAS ?_ (by size_fits));refine YAf ⟨_,rfl,"set_iterator",_,⟨_,YAr _ rfl,rfl⟩,slot_setiter_next.lookup,?_⟩;cases ht:w.params.followText "set-order" with
  |true=>
   have hp:=zgw (w.params.setOrder a ep) es;refine hQ _ a _ s.drawn (pickOrder (w.params.setOrder a ep) es).toList (YAn _) (.inl rfl) (λb o e=>YAd _ e) hp ?_;exact⟨r.keep λo e=>YAd _ e,⟨_,YAr _ rfl,.inl ⟨ht,rfl,_,_,rfl⟩⟩,by rw[hp.length_eq];simp⟩
  |false=>
   have hd:(!t.plain&&decide (es.size>1))=false:=by rw[ht]at hdr;simpa using hdr
   refine hQ _ a _ s.drawn es.toList (YAn _) (.inl rfl) (λb o e=>YAd _ e) (.refl _) ?_;exact⟨r.keep λo e=>YAd _ e,⟨_,YAr _ rfl,.inr (.inr ⟨ht,hd,rfl,0,rfl,zlC _ r.tab.up⟩)⟩,by simp⟩
end
theorem zaB:∀{ks xs:List Int},ks.Nodup->(∀x∈ks,x∈xs)->ks.length<=xs.length
 |[],_,_,_=>YAH _
 |k::r,xs,nd,h=>by
  obtain⟨n1,n2⟩:=YBh.mp nd;have hk:k∈xs:=h k YAh;have ih:=zaB (xs:=xs.erase k) n2 λx hx=>(List.mem_erase_of_ne (show x≠k from λz=>n1 (z▸hx))).mpr (h x (YAj _ hx));rw[List.length_erase_of_mem hk]at ih
  have:0<xs.length:=List.length_pos_of_mem hk
  rw[YAK];omega
def keyV:Value->Int
 |.int k _=>k
 |_=>0
def keys(es:Array (Int×Value)):List Int:=es.toList.map λe=>keyV e.2
def AllInt(es:Array (Int×Value)):Prop:=∀e∈es.toList,∃k t,e=(hashInt k,Value.int k t)
structure SetInts(w:World)(h:Heap)(a:Addr)(xs:List Int):Prop where
 ex:∃es ep t,SetRec w h a es ep t/\AllInt es/\es.size<scanBound/\(keys es).Nodup/\∀k,k∈keys es↔k∈xs
theorem SetInts.keep(r:SetInts w h a xs)(k:∀o,h.get? a=some o->h'.get? a=some o):SetInts w h' a xs:=
 let⟨es,ep,t,r1,r2⟩:=r.ex
 ⟨es,ep,t,r1.keep k,r2⟩
def AllInt.elems(h:AllInt es):ElemsOf (intKind prog w) es.toList:=λe he=>by
 obtain⟨k,t,rfl⟩:=h e he;exact⟨⟨k,YDo _ _ _ _,rfl⟩,rfl⟩
def AllInt.perm(h:AllInt es)(p:es'.toList.Perm es.toList):AllInt es':=λe he=>h e (p.mem_iff.mp he)
def mem_keys(h:AllInt es)(k:Int):k∈keys es↔∃e∈es.toList,(intKind prog w).is k e.2=true:=by
 unfold keys;rw[YAF];constructor
 .rintro⟨e,he,rfl⟩;obtain⟨k,t,rfl⟩:=h e he;exact⟨_,he,YDo _ _ _ _⟩
 .rintro⟨e,he,q⟩;obtain⟨k',t,rfl⟩:=h e he;exact⟨_,he,((intKind prog w).inj _ _ _ q (YDo _ _ _ _)).symm⟩
section
variable{prog:Program}{w:World}{A:Around}{E:Value->Shared->Prop}{s:Shared}{a:Addr}
def zjh(r:SetRec w h a es ep t)(hf:t'.fits es'.size=true)(ht:TabOk (!w.params.followText "set-order") t') :
  SetRec w (h.update a (Obj.putSet es' t')) a es' (ep+1) t':=by
 refine⟨?_,hf,ht⟩;have q:=YBq (Obj.putSet es' t') r.at_ (by rw[putSet_of es' t' rfl];rfl);rw[putSet_of es' t' rfl]at q;exact q
def zgT(r:SetInts w s.heap a xs)(hr:xs.length+1<scanBound)
  (h:∀b h',Heap.SameBut a s.heap h'->SetInts w h' a (k::xs)->Q b {s with heap:=h'}):wpAny (model prog w) A (setAddHashed a (.int k tk) (hashInt k)) Q E s:=by
 obtain⟨es,ep,t,r1,ai,hb,nd,hm⟩:=r.ex;have hkey:(intKind prog w).is k (.int k tk)=true:=YDo _ _ _ _;have hlen:es.size<=xs.length:=by
  have e1:es.size=(keys es).length:=by unfold keys;simp
  rw[e1];exact zaB nd λx hx=>(hm x).mp hx
 unfold setAddHashed setAddHashedIn;refine YAV (YAa (zcs r1 ?_));dsimp only;rw[byScan_of (knd:=intKind prog w) rfl hb ai.elems];simp only[↓reduceIte];unfold setAddByScan;refine YAa (YAa (YBO ?_));refine YAa (wpAny_setScan_of (knd:=intKind prog w) hkey r1.at_ rfl r1.fits ai.elems ?_);cases hr2:List.findIdx? (λe=>(intKind prog w).is k e.2) es.toList with
 |some j=>
  dsimp only;obtain⟨hj,hpj,_⟩:=List.findIdx?_eq_some_iff_getElem.mp hr2;have hk:k∈xs:=(hm k).mp ((mem_keys (prog:=prog) (w:=w) ai k).mpr ⟨_,YBT hj,hpj⟩);refine YAf (YAf ?_);exact h _ s.heap (Heap.SameBut.refl a s.heap) ⟨es,ep,t,r1,ai,hb,nd,λk'=>by
   rw[hm k',YAk];exact⟨.inr,λz=>z.elim (λe=>e▸hk) id⟩⟩
 |none=>
  dsimp only;have hk:k∉keys es:=λhk=>by
   obtain⟨e,he,q⟩:=(mem_keys (prog:=prog) (w:=w) ai k).mp hk
   have:=List.findIdx?_eq_none_iff.mp hr2 e he
   rw[q]at this;cases this
  have hperm:=layNew_perm t es (hashInt k) (.int k tk);have hfits:=layNew_fits t es (hashInt k) (.int k tk);have htab:=r1.tab.layNew es (hashInt k) (.int k tk);have hgw:∀(b:Bool){s₁:Shared}{Q':Unit->Shared->Prop},Q' () s₁->wpAny (model prog w) A (match b with|true=>rule "set.scan.the-table-gave-way"|false=>pure ()) Q' E s₁:=
   λb s₁ Q' hq=>by cases b<;>first|exact YAf hq|exact YBO hq
  show wpAny (model prog w) A (match layNew t es (hashInt k) (.int k tk)with|_=>_) _ _ _;generalize layNew t es (hashInt k) (.int k tk)=L at hperm hfits htab ⊢;obtain⟨es1,t1,wd,gave⟩:=L;dsimp only at hperm hfits htab ⊢;rw[Array.toList_push]at hperm;have ai1:AllInt es1:=λe he=>by
   rcases YAm.mp (hperm.mem_iff.mp he)with z|z
   .exact ai e z
   .rw[YAg]at z;exact⟨k,tk,z⟩
  have kp:(keys es1).Perm (keys es++[k]):=by
   have:=hperm.map λe:Int×Value=>keyV e.2
   rw[YAx]at this;exact this
  have hz1:es1.size=es.size+1:=by
   have:=hperm.length_eq
   rw[YAo]at this
   simpa using this
  have hb1:es1.size<scanBound:=by omega
  have nd1:(keys es1).Nodup:=kp.nodup_iff.mpr (YCr.mpr ⟨nd,by simp,λx hx y hy=>by rw[YAg]at hy;subst hy;exact λz=>hk (z▸hx)⟩);have hm1:∀k',k'∈keys es1↔k'∈k::xs:=λk'=>by
   rw[kp.mem_iff,YAm,YAg,YAk,hm k'];exact or_comm
  refine YAa (hgw _ ?_)
  -- the table as it is stored: plain stays or goes
  have fin:∀t2:SetTable,t2.fits es1.size=true->TabOk (!w.params.followText "set-order") t2->wpAny (model prog w) A (do
    storeSet a es1 t2
    if (!wd&&t2.tooFull)=true then do
      (match (relayAll t2 es1 (SetTable.grown es1.size)).2.2 with|true=>rule "set.scan.the-table-gave-way"|false=>pure ())
      storeSet a (relayAll t2 es1 (SetTable.grown es1.size)).1 (relayAll t2 es1 (SetTable.grown es1.size)).2.1
      pure (some true)
     else pure (some true)) (λx s'=>wpAny (model prog w) A (match x with|some added=>pure added|none=>setAddHashedIn a (.int k tk) (hashInt k) 99999) Q E s') E s:=λt2 hf2 ht2=>by
   refine YAa (wpAny_storeSet_of r1.at_ rfl ?_ (YDp hb1));have r2:=zjh (es':=es1) (t':=t2) r1 hf2 ht2;split
   .have hp2:=relayAll_perm t2 es1 (SetTable.grown es1.size);have hf3:=relayAll_fits t2 es1 (SetTable.grown es1.size);have ht3:=ht2.relayAll es1 (SetTable.grown es1.size);generalize relayAll t2 es1 (SetTable.grown es1.size)=R at hp2 hf3 ht3 ⊢;obtain⟨es2,t3,gave2⟩:=R;dsimp only at hp2 hf3 ht3 ⊢;have hz2:es2.size=es1.size:=by simpa using hp2.length_eq
    have kp2:(keys es2).Perm (keys es1):=hp2.map _;refine YAa (hgw _ ?_);refine YAa (wpAny_storeSet_of (s:={s with heap:=_}) r2.at_ rfl ?_ (YDp (by omega)));refine YAf (YAf ?_);exact h _ _ ((YCe ..).trans (YCe ..)) ⟨es2,_,t3,zjh r2 hf3 ht3,ai1.perm hp2,by omega,kp2.nodup_iff.mpr nd1,λk'=>(kp2.mem_iff).trans (hm1 k')⟩
   .refine YAf (YAf ?_);exact h _ _ (YCe ..) ⟨es1,_,t2,r2,ai1,hb1,nd1,hm1⟩
  split
  .refine YAa ?_;rw[hashByValue_scannable 8 rfl];refine YAf ?_;split
   .exact fin t1 hfits htab
   .exact fin _ (SetTable.fits_plain_off hfits) htab.plainOff
  .refine YAa (YAf ?_);simp only[↓reduceIte];exact fin t1 hfits htab
end
section
variable{prog:Program}{w:World}{A:Around}{R:Result->Shared->Prop}{I S:Addr}{fp wr:List Addr}{n:Nat}{P:Nat->Value->Prop}{St:Nat->Heap->Prop}
def zjM(W:Walks prog w A.in1 I fp wr n P St)(hSf:S∉fp)(val:Nat->Int)(hval:∀i v,P i v->∃t,v=.int (val i) t)(hb:n+1<scanBound) :
  ∀(k i:Nat)(s:Shared),n-i=k->i<=n->St i s.heap->SetInts w s.heap S ((List.range i).map val).reverse ->
   (∀h' tk,(∀b o,b∉S::wr->s.heap.get? b=some o->h'.get? b=some o)->SetInts w h' S ((List.range n).map val).reverse->R (.ok (.ret .none)) {s with heap:=h',toks:=tk}) ->
   codeAny (model prog w) A (.builtin "set.update.loop" ⟨[.ref S,.ref I],[]⟩) R s:=by
 have hSw:S∉wr:=λh=>hSf (W.sub _ h);intro k
 induction k with
 |zero=>
  intro i s hk hi hst hS hR;have hin:i=n:=by omega
  subst hin;refine YBv PyProof.Rows.F.entry_set_update_loop ?_;rw[YB4 YBN _];show wpAny _ A.in1 (pyNext (.ref I) >>= _) _ _ s;refine YAa (W.done s _ _ hst λh' tk hm=>YAf ?_);exact hR h' tk (λb o hb' e=>hm b o (λz=>hb' (YAj _ z)) e) (hS.keep λo e=>hm S o hSw e)
 |succ k ih=>
  intro i s hk hi hst hS hR;have hlt:i<n:=by omega
  refine YBv PyProof.Rows.F.entry_set_update_loop ?_;rw[YB4 YBN _];show wpAny _ A.in1 (pyNext (.ref I) >>= _) _ _ s;refine YAa (W.item i s _ _ hlt hst λv h1 tk1 hP hst' hm=>?_);obtain⟨t,rfl⟩:=hval i v hP;show wpAny _ A.in1 (holding [Value.int (val i) t] (setAdd S (.int (val i) t)) >>= _) _ _ _;refine YAa (YAV ?_);unfold setAdd;refine YAV (YAa ((intKind prog w).pyHash (k:=val i) (YDo _ _ _ _) ?_));refine zgT (s:={s with heap:=h1,toks:=tk1+1}) (xs:=((List.range i).map val).reverse) (hS.keep λo e=>hm S o hSw e) (by simp;omega) λb h2 sb hS2=>?_;refine YAf ⟨YCC YBN _,ih (i+1) _ (by omega) hlt (W.frame _ _ _ hst' λb hb o e=>(sb.2 b (λz=>hSf (z▸hb))).trans e) ?_ λh3 tk3 hm3 hS3=>?_⟩
  .rw[YDH,YAx,List.reverse_append];exact hS2
  .exact hR h3 tk3 (λb o hb' e=>hm3 b o hb' ((sb.2 b (λz=>hb' (z▸YAh))).trans (hm b o (λz=>hb' (YAj _ z)) e))) hS3
end
section
variable{prog:Program}{w:World}{A:Around}{E:Value->Shared->Prop}{s:Shared}
def zjr
  (h:Q₁ (.ref s.heap.objs.size) {s with heap:=s.heap.push {cls:=.type "set",dict:=none,data:=.set #[] 0 (.fresh 0 0 (!w.params.followText "set-order"))}}) :
  codeAny (model prog w) A (.call (.builtin "set.__new__") ⟨[.type "set",a],[]⟩) (wants Q₁ E) s:=by
 refine YC5 ?_;show wpAny _ A.in1 (do checkBuiltinCall "set.__new__" ⟨[.type "set",a],[]⟩;again (.builtin "set.__new__" ⟨[.type "set",a],[]⟩)) _ _ s;refine YAa (YDZ (PySem.F.newCall_set_1 a) (YAf ⟨YCC PySem.F.plain_set_new _,YBv PySem.F.entry_set_new ?_⟩));rw[YB4 PySem.F.plain_set_new _];unfold Builtin.«set.__new__» Builtin.Frozenset.newClass;have hsub:=sub_set_self;obtain⟨hp,g,d,tk,os⟩:=s;dsimp only
 wp_walk
 refine YCi (YAf ?_);dsimp only;simp only[newObj];exact YAa (wpAny_alloc (YAf (YAf h)))
def zgF{h:Heap}:SetInts w (h.push {cls:=.type "set",dict:=none,data:=.set #[] 0 (.fresh 0 0 (!w.params.followText "set-order"))}) h.objs.size []:=
 ⟨#[],0,_,⟨YAr _ rfl,by rfl,TabOk.fresh _ _ _⟩,λe he=>by simp at he,by decide,by simp[keys],λk=>by simp[keys]⟩
abbrev set0(led:Bool):Obj:={cls:=.type "set",dict:=none,data:=.set #[] 0 (.fresh 0 0 led)}
def ziV{l:Addr}{ns:List Int}{Q:Value->Shared->Prop}
  (hin:∀(led:Bool)(R:PySem.Fin->Shared->Prop)(E:Value->Shared->Prop),SetInts w (s.heap.push (set0 led)) s.heap.objs.size []->(∀h' tk,SetInts w h' s.heap.objs.size ns->(∀b o,s.heap.get? b=some o->h'.get? b=some o)->R (.done (.ret .none)) {s with heap:=h',toks:=tk}) ->
   wpAny (model prog w) A.in1.in1 (Builtin.«set.__init__» ⟨[.ref s.heap.objs.size,.ref l],[]⟩) R E {s with heap:=s.heap.push (set0 led)})
  (h:∀(h':Heap)(tk:Nat),SetInts w h' s.heap.objs.size ns->(∀b o,s.heap.get? b=some o->h'.get? b=some o)->Q (.ref s.heap.objs.size) {s with heap:=h',toks:=tk}) :
  wpAny (model prog w) A (call (.type "set") [.ref l]) Q E s:=by
 obtain⟨c,tl,hmro⟩:=YBw.mro;have hmade:=YBw.made;have hsub:=YBw.sub;refine wpAny_call (YC5 ?_);show wpAny _ _ (callAny (.type "set") _) _ _ _;refine YAf ⟨YDh _ (by decide +kernel),YBv PySem.F.entry_type_call ?_⟩;rw[Around.under_plain (weight_type_call_type "set" [.ref l] []) rfl];have h1:=YBw.notType;have h2:=YBw.canCreate;have hct:=PySem.F.typeCall_set_1 (.ref l)
 repeat (any_goals (first|assumption|wp_step))
 refine YDd (zjr (a:=.ref l) (E:=E) (Q₁:=λobj s₁=>obj=.ref s.heap.objs.size/\s₁={s with heap:=s.heap.push (set0 (!w.params.followText "set-order"))}) ⟨rfl,rfl⟩) λr s₁ hr=>?_;cases r with
 |error e=>exact hr
 |ok fl=>
  cases fl with
  |ret obj=>
   obtain⟨rfl,rfl⟩:=hr;have hSI:SetInts w (s.heap.push (set0 (!w.params.followText "set-order"))) s.heap.objs.size []:=zgF;generalize (!w.params.followText "set-order")=led at hSI ⊢;have hT:Shared.TypeIs {s with heap:=s.heap.push (set0 led)} (.ref s.heap.objs.size) "set":=⟨_,YAr _ rfl,rfl⟩;have hli:=YBw.init.lookup;have hbi:=YBw.init.bind (.ref s.heap.objs.size)
   repeat (any_goals (first|assumption|wp_step))
   refine YDd (codeAny_call_builtin (R:=wants (λr s₂=>r=.none/\∃h' tk,s₂={s with heap:=h',toks:=tk}/\SetInts w h' s.heap.objs.size ns/\(∀b o,s.heap.get? b=some o->h'.get? b=some o)) E)
    YBw.init.plain PySem.F.entry_set_init (check_set_init_1 hT (hin led _ _ hSI λh' tk a b=>⟨rfl,h',tk,rfl,a,b⟩))) λr₂ s₂ hr₂=>?_
   cases r₂ with
   |error e=>exact hr₂
   |ok fl₂=>
    cases fl₂ with
    |ret r=>
     obtain⟨rfl,h',tk,rfl,hS',hk'⟩:=hr₂
     repeat (any_goals (first|assumption|wp_step))
     exact h _ _ hS' hk'
    |_=>exact hr₂.elim
  |_=>exact hr.elim
def zrL(h:Heap)(a b:Obj)(f:b.isFreed=false):((h.push a).push b).get? (h.objs.size+1)=some b:=by rw[<-YBf h a];exact YAr _ f
def zsu{items:Array Value}{ns:List Int}(hi:IntsAre items.toList ns):(∀(i:Nat)(v:Value),items[i]?=some v->∃t,v=.int (ns.getD i 0) t)/\((List.range items.size).map λi=>ns.getD i 0)=ns:=
 ⟨λi v hv=>IntsAre.int_at hi i v (by rw[YBF];exact hv),by
  have hnl:items.size=ns.length:=by rw[<-hi.length];simp
  apply YBU
  .simp[hnl]
  .intro j h1 h2;simp[List.getD,YAe h2]⟩
def zka{l:Addr}{items:Array Value}{ns:List Int}{led:Bool}{R:Result->Shared->Prop}{itO:Obj}{St:Nat->Heap->Prop}(hi:IntsAre items.toList ns)(hb:items.size+1<scanBound)(hl:l<s.heap.objs.size)(hSI:SetInts w (s.heap.push (set0 led)) s.heap.objs.size [])
  (W:Walks prog w A.in1.in1.in1 (s.heap.objs.size+1) [s.heap.objs.size+1,l] [s.heap.objs.size+1] items.size (λi v=>items[i]?=some v) St) (st:St 0 ((s.heap.push (set0 led)).push itO))
  (k:∀h' tk,SetInts w h' s.heap.objs.size ns->(∀b o,s.heap.get? b=some o->h'.get? b=some o)->R (.ok (.ret .none)) {s with heap:=h',toks:=tk}) :
  codeAny (model prog w) A.in1.in1 (.builtin "set.update.loop" ⟨[.ref s.heap.objs.size,.ref (s.heap.objs.size+1)],[]⟩) R {s with heap:=(s.heap.push (set0 led)).push itO}:=by
 obtain⟨hval,hns⟩:=zsu hi;refine zjM W (by simp only[YAk,YAO,YBG,not_or];exact⟨YAv (YCj _),YBd hl⟩) (λi=>ns.getD i 0) hval hb (items.size-0) 0 _ (by omega) (YAH _) st (hSI.keep λo e=>YAd _ e) λh' tk hm hS'=>?_;rw[hns]at hS';refine k h' tk ?_ λb o e=>?_
 .obtain⟨es,ep,t,q1,q2,q3,q4,q5⟩:=hS'.ex;exact⟨es,ep,t,q1,q2,q3,q4,λk=>by rw[q5 k,YDz]⟩
 .have hb1:=YAl e;exact hm b o (by simp only[YAk,YAO,YBG,not_or];exact⟨YAv hb1,YAv (YA5 hb1)⟩) (YAd _ (YAd _ e))
def zgp(hh:A.handled=none)(hl:s.heap.IsList l items)(hi:IntsAre items.toList ns)(hb:items.size+1<scanBound)
  (h:∀(h':Heap)(tk:Nat),SetInts w h' s.heap.objs.size ns->(∀b o,s.heap.get? b=some o->h'.get? b=some o)->Q (.ref s.heap.objs.size) {s with heap:=h',toks:=tk}) :
  wpAny (model prog w) A (call (.type "set") [.ref l]) Q E s:=ziV (λled R E hSI k=>by
 obtain⟨⟨ocls,odict,odata,oslots⟩,hol,hcl,nl,hdl⟩:=hl;simp only at hcl hdl;subst hcl;subst hdl;have hol':(s.heap.push (set0 led)).get? l=some {cls:=.type "list",dict:=odict,data:=.seq items nl,slots:=oslots}:=YAd _ hol;have hsls:=PySem.F.sub_list_set;have hslf:=PySem.F.sub_list_frozenset;have hne:(Value.type "list"==Value.type "dict")=false:=by decide
 have hl1:(s.heap.push (set0 led)).IsList l items:=⟨_,hol',rfl,nl,rfl⟩;unfold Builtin.«set.__init__» noKeywords Builtin.Frozenset.updateFrom;generalize hPI:pyIter=PI
 wp_walk
 subst hPI;refine YB6 hl1 ?_;have hlS:l<s.heap.objs.size:=YAl hol;have hz:(s.heap.push (set0 led)).objs.size=s.heap.objs.size+1:=YBf _ _;rw[hz];refine YAa (YDk (zka hi hb hlS hSI (Walks.list (by simp[hh]) _ l (YAv (YA5 hlS)) items) ⟨⟨_,zrL _ _ _ rfl,rfl,rfl⟩,hl1.push _⟩ λh' tk a b=>?_));exact YAf (YAf (k h' tk a b))) h
end
def zhu:splitId "set.__len__"=some ("set","__len__"):=by decide +kernel
def zeg:entryFor table "set_iterator.__iter__"=some Builtin.«dict_keyiterator.__iter__»:=
 YDR (id':="dict_keyiterator.__iter__") (by kernel_rfl) rfl (by decide +kernel) (by kernel_rfl)
def zeK(a:Value):argsOk "set_iterator.__iter__" ⟨[a],[]⟩:=by unfold argsOk;kernel_rfl
def IterAt.frame{w:World}{h h':Heap}{it a p:Addr}{es:Array (Int×Value)}{ep:Nat}{t:SetTable}{ord:List (Int×Value)}{i:Nat}(x:IterAt w h it a p es ep t ord i)
  (k:∀b∈[it,a,p],∀o,h.get? b=some o->h'.get? b=some o):IterAt w h' it a p es ep t ord i:=by
 obtain⟨f,e,g⟩:=x.rec';refine⟨x.rc.keep λo e=>k a (by simp) o e,⟨f,k it (by simp) _ e,?_⟩,x.len⟩;rcases g with g|⟨ht,ps,n,e1,e2,r⟩|g
 .exact .inl g
 .exact .inr (.inl ⟨ht,ps,n,e1,k p (by simp) _ e2,r⟩)
 .exact .inr (.inr g)
def zkE{M:Model}{A:Around}{E:Value->Shared->Prop}{s:Shared}{α:Type}{c:Prop}[Decidable c]{x y:Sem α}{Q:α->Shared->Prop}(hc:c)(h:wpAny M A x Q E s):wpAny M A (if c then x else y) Q E s:=by rw[if_pos hc];exact h
def zpi{M:Model}{A:Around}{E:Value->Shared->Prop}{s:Shared}{α:Type}{c:Prop}[Decidable c]{x y:Sem α}{Q:α->Shared->Prop}(hc:¬ c)(h:wpAny M A y Q E s):wpAny M A (if c then x else y) Q E s:=by rw[if_neg hc];exact h
section
variable{prog:Program}{w:World}{A:Around}{E:Value->Shared->Prop}{s:Shared}
def zmi{it a p:Addr}{es:Array (Int×Value)}{ep:Nat}{t:SetTable}{ord:List (Int×Value)}(hh:A.handled=none)(hl:ord.length=es.size) :
  Walks prog w A it [it,a,p] [it] es.size (λi v=>∃e,ord[i]?=some e/\v=e.2) (λi h=>IterAt w h it a p es ep t ord i)where
 sub:=λb hb=>by simp at hb;simp[hb]
 frame:=λi h h' st k=>st.frame k
 item:=λi s Q E' hi st hQ=>by
  have e:ord[i]?=some ord[i]:=YAe (by omega);refine zfy st e λh' st' sb=>?_;exact hQ _ h' s.toks ⟨_,e,rfl⟩ st' λb o hb e=>(sb.2 b (by simpa using hb)).trans e
 done:=λs Q E' st hQ=>zgt hh st rfl λh' k=>hQ h' s.toks λb o hb e=>k b o (by simpa using hb) e
 self:=λi s Q E' st hQ=>by
  refine YDn st.ty zcG (YAU zcG st.ty zeg ?_ (zeK _));show wpAny _ _ (ret (.ref it)) _ _ s;exact YAf ⟨_,rfl,"set_iterator",_,st.ty,slot_setiter_next.lookup,hQ⟩
theorem ze1:∀(l:List (Int×Value)),(∀e∈l,∃k t,e=(hashInt k,Value.int k t))->IntsAre (l.map (·.2)) (l.map λe=>keyV e.2)
 |[],_=>.nil
 |e::r,h=>by
  obtain⟨k,t,rfl⟩:=h e YAh;exact .cons k t (ze1 r λe he=>h e (YAj _ he))
def ziJ{a:Addr}{xs:List Int}{Q:List Value->Shared->Prop}(hh:A.handled=none)(r:SetInts w s.heap a xs)
  (h:∀vs ns h' d tk,IntsAre vs ns->ns.Nodup->(∀k,k∈ns↔k∈xs)->(∀b o,s.heap.get? b=some o->h'.get? b=some o)->s.heap.objs.size<h'.objs.size->Q vs {s with heap:=h',drawn:=d,toks:=tk}) :
  wpAny (model prog w) A (collect (.ref a)) Q E s:=by
 obtain⟨es,ep,t,r1,ai,hb,nd,hm⟩:=r.ex;have hz:es.size<=sizeLine:=YDp hb;unfold collect;refine YAa (YDk (YBv entry_proto_collect' ?_));show wpAny _ _ (do again (.builtin "list.__iadd__" ⟨[<-newList [],.ref a],[]⟩)) _ _ s;refine YAa (YCD (YAf ⟨YDh _ (by decide +kernel),YBv entry_list_iadd' ?_⟩));show wpAny _ A.in1 (Builtin.List.listExtendWith (.ref s.heap.objs.size) (.ref a) (.ref s.heap.objs.size)) _ _ {s with heap:=s.heap.push (seqObj "list" #[] 0)};have ra:SetRec w (s.heap.push (seqObj "list" #[] 0)) a es ep t:=r1.keep λo e=>YAd _ e;have hTa:Shared.TypeIs {s with heap:=s.heap.push (seqObj "list" #[] 0)} (.ref a) "set":=⟨_,ra.at_,rfl⟩;have alt:a<s.heap.objs.size:=YAl r1.at_;unfold Builtin.List.listExtendWith;refine YAa (YCn hTa ?_);have h1:Builtin.List.listSameRef (.ref s.heap.objs.size) (.ref a)=false:=by simp[Builtin.List.listSameRef,YBd alt]
 have h2:(Value.type "set"==Value.type "list")=false:=by decide
 have h3:(Value.type "set"==Value.type "tuple")=false:=by decide
 simp only[h1,h2,h3,Bool.or_false,YAX,YBX];refine YAa (zlD ra hz λit p h2 d ord hit hp k2 pm x=>?_);have lt2:s.heap.objs.size<it:=YAs (by rw[YBf];exact YCj _) hit;have hTb:Shared.TypeIs {s with heap:=h2,drawn:=d} (.ref a) "set":=⟨_,x.rc.at_,rfl⟩;refine YAa (YAV ?_);unfold Builtin.List.listLengthHint;refine YAa (YC3 hTb PySem.F.slot_set_len.lookup ?_);dsimp only;rw[zhu];dsimp only;refine YAa (YCx hTb sub_set_self ?_);refine zpi (by decide) ?_;refine zkE (by decide +kernel) ?_;refine YAa (YCn hTb ?_);refine YAf ?_;refine zkE (by decide +kernel) ?_;refine YAa (YBO ?_);have hS1:h2.get? s.heap.objs.size=some {cls:=.type "list",data:=.seq #[]}:=k2 _ _ (YAr _ rfl);refine YAa ?_;show wpAny _ A.in1 (updateSeq s.heap.objs.size (·.push .none) >>=λ_=>updateSeq s.heap.objs.size (·.pop)) _ _ _;refine YAa (YC7 (s:={s with heap:=h2,drawn:=d}) hS1 rfl ?_);have hS2:=YBq (Obj.mapSeq (·.push Value.none)) hS1 rfl;refine YC7 (hz:=by seq_fits) hS2 rfl ?_;have hS3:=YBq (Obj.mapSeq (·.pop)) hS2 rfl;have oth:∀b o,b≠s.heap.objs.size->h2.get? b=some o->((h2.update s.heap.objs.size (Obj.mapSeq (·.push Value.none))).update s.heap.objs.size (Obj.mapSeq (·.pop))).get? b=some o:=λb o hb e=>
  (YBB _ _ (Ne.symm hb)).trans ((YBB _ _ (Ne.symm hb)).trans e)
 have nS:s.heap.objs.size∉[it,a,p]:=by
  simp only[YAk,YAO,YBG,not_or];refine⟨YAv lt2,YBd alt,?_⟩;rcases hp with z|z
  .rw[z];exact YBd alt
  .exact YAv (YAs (by rw[YBf];exact YCj _) z)
 have W:=(zmi (prog:=prog) (w:=w) (A:=A.in1) (it:=it) (a:=a) (p:=p) (es:=es) (ep:=ep) (t:=t) (ord:=ord) hh x.len).toS;have x3:IterAt w ((h2.update s.heap.objs.size (Obj.mapSeq (·.push Value.none))).update s.heap.objs.size (Obj.mapSeq (·.pop))) it a p es ep t ord 0:=x.frame λb hb o e=>oth b o (λz=>nS (z▸hb)) e;refine YAf ⟨YCC PySem.F.plain_extend_loop _,codeAny_extend_loopS W hz _ nS _ es.size 0 _ _ _ rfl (YAH _) x3 hS3 (ItemsOf.nil _) λs' acc' c' hm' hS' hacc=>?_⟩;refine YAa (wpAny_load hS' ?_);refine YAf ?_;have ev:acc'.toList=ord.map (·.2):=by
  apply YBU
  .rw[YAZ,hacc.1,YAc,x.len]
  .intro j j1 j2;obtain⟨e,e1,e2⟩:=hacc.2 j acc'.toList[j] (by rw[<-YBF];exact YAe j1);rw[e2,YBV];rw[YAe (by simpa using j2)]at e1;rw[Option.some.inj e1]
 have hord:∀e∈ord,∃k t,e=(hashInt k,Value.int k t):=λe he=>ai e (pm.mem_iff.mp he);have kp:(ord.map λe=>keyV e.2).Perm (keys es):=pm.map _;obtain⟨hh',g',d',tk',o'⟩:=s';have eg:g'=s.gens:=hm'.gens;have ed:d'=d:=hm'.drawn;have eo:o'=s.os:=hm'.os;subst eg ed eo;refine h acc'.toList (ord.map λe=>keyV e.2) hh' d' tk' (by rw[ev];exact ze1 ord hord) (kp.nodup_iff.mpr nd) (λk=>(kp.mem_iff).trans (hm k)) (λb o e=>?_) (YAl hS');have hb1:=YAl e;exact hm'.heap b o (by
  simp only[YAk,YAO,YBG,not_or];exact⟨YAv hb1,YAv (Nat.lt_trans hb1 lt2)⟩) (oth b o (YAv hb1) (k2 b o (YAd _ e)))
def zhH(hh:A.handled=none)(r:SetInts w s.heap a xs)(h64:xs.length<64)
  (h:∀l (out:List Value) ns' h' d tk n,IntsAre out ns'->ns'.Pairwise (·<·)->(∀k,k∈ns'↔k∈xs)->s.heap.objs.size<=l->h'.get? l=some {cls:=.type "list",data:=.seq out.toArray n} ->
   (∀b o,s.heap.get? b=some o->h'.get? b=some o)->Q (.ref l) {s with heap:=h',drawn:=d,toks:=tk}) :
  wpAny (model prog w) A (call (.builtin "sorted") [.ref a]) Q E s:=by
 refine YCu kind_sorted plain_sorted entry_sorted (args_sorted1 _) ?_;unfold Builtin.«sorted»;refine YAa (m:=checkCount "sorted" 1 1 _) (YAf ?_);refine YAa (ziJ (A:=A.in1) hh r λvs ns h1 d tk hI hnd hm k1 hz1=>?_);have hl:vs.length<64:=by
  have e:=hI.length
  have:=zaB hnd λx hx=>(hm x).mp hx
  omega
 refine YAa (YCD ?_ (by rw[YAP];omega));have hoL:(h1.push (seqObj "list" vs.toArray 0)).get? h1.objs.size=some (seqObj "list" vs.toArray 0):=YAr _ rfl;refine YAa (YAV (YAU YDU ⟨_,hoL,rfl⟩ YDI (list_sort_tree hoL hI hl λout ns' a1 a2 a3=>⟨_,rfl,?_⟩) (YDV _)));refine YAf ⟨_,rfl,?_⟩;obtain⟨n,hat⟩:=sortedHeap_at (out:=out) hoL;refine h h1.objs.size out.toList ns' _ d tk n a1 ?_ (λk=>a2.mem_iff.trans (hm k)) (YDb hz1) hat λb o e=>?_
 .have nd':ns'.Nodup:=a2.nodup_iff.mpr hnd;exact(YA1.mpr λi j hi hj hij=>by
   have q1:=YA1.mp a3 i j hi hj hij;have q2:ns'[i]≠ns'[j]:=λz=>absurd ((YDw nd').mp z) (YAv hij);omega)
 .have hb:=YAl (k1 b o e);rw[sortedHeap_old (YAv hb) (by rw[YDQ];exact YA5 hb)];exact YAd _ (k1 b o e)
end
end L2
namespace L2
open PySem PySem.Spec PyProof.Rows
def SetO(w:World)(a:Addr)(xs:List Int):HO:=.ext λh=>SetInts w h a xs
section
variable{X:Cx}
def zd7(r:SetInts w h a xs):ObjOk P w H h a (SetO w a xs):=
 ⟨r,let⟨_,_,_,q,_⟩:=r.ex;⟨_,q.at_⟩,λh1 h2 q k=>q.keep k⟩
def zjt(hc:X.calm=true):CallR X (.type "set") (λvs H Q=>∃(p:Addr)(ns:List Int),vs=[.ref p]/\SqL X.K H p (ns.map V.int)/\ns.length+1<scanBound/\∀l,H l=none->Q (.ref l) (upd H l (SetO X.w l ns))):=by
 intro O s Y H vs us Q I r h;obtain⟨p,ns,rfl,hq,hb,q⟩:=h;obtain⟨u,rfl,rx⟩:=zda r;cases rx;obtain⟨its,r',pl,hz⟩:=I.list hq;have hlen:=r'.length;rw[YAc]at hlen;refine zgp (ns:=ns) (I.ok.hd hc) pl.isList (by simpa using zdB r') (by simp only[YAu];omega) λh' tk hS hk=>?_;exact⟨.ref s.heap.objs.size,_,I.laid hk (YAn _) (zd7 hS),rfl,q _ I.fresh⟩
theorem zg4:∀{vs:List Value}{ns:List Int},IntsAre vs ns->Vals (ns.map V.int) vs
 |_,_,.nil=>.nil
 |_,_,.cons n t r=>.cons ⟨t,rfl⟩ (zg4 r)
def zdb(hc:X.calm=true):CallR X (.builtin "sorted") (λvs H Q=>∃p xs,vs=[.ref p]/\H p=some (SetO X.w p xs)/\xs.length<64 /\
  ∀(l:Addr)(ns:List Int),H l=none->ns.Pairwise (·<·)->(∀k:Int,k∈ns↔k∈xs)->Q (.ref l) (upd H l (.lst (ns.map V.int)))):=by
 intro O s Y H vs us Q I r h;obtain⟨p,xs,rfl,hq,hb,q⟩:=h;obtain⟨u,rfl,rx⟩:=zda r;cases rx;have hS:SetInts X.w s.heap p xs:=(I.hok p _ hq).1;refine zhH (I.ok.hd hc) hS hb λl out ns' h' d tk n hI hp hm hl he hk=>?_;have hn:H l=none:=I.hok.fresh hl;have hle:(ns'.map V.int).length<=sizeLine:=by
  have:=zaB (hp.imp λh=>YDJ h) λx hx=>(hm x).mp hx
  rw[YAc,YAP];omega
 refine⟨.ref l,upd H l (.lst (ns'.map V.int)),?_,rfl,q l ns' hn hp hm⟩;exact I.call (ch:=[]) (Un.laid hk hl hn) (I.hok.laid hk hl ⟨hle,out,n,zg4 hI,he⟩) I.bare λb hb=>absurd hb (by simp)
inductive IsI(K:qq)(H:Hp):V->String->Bool->Prop
 |bl_bool (b):IsI K H (.bl b) "bool" true
 |bl_int (b):IsI K H (.bl b) "int" true
 |bl_list (b):IsI K H (.bl b) "list" false
 |bl_tuple (b):IsI K H (.bl b) "tuple" false
 |bl_str (b):IsI K H (.bl b) "str" false
 |int_bool (i):IsI K H (.int i) "bool" false
 |int_int (i):IsI K H (.int i) "int" true
 |int_list (i):IsI K H (.int i) "list" false
 |int_tuple (i):IsI K H (.int i) "tuple" false
 |int_str (i):IsI K H (.int i) "str" false
 |non_bool:IsI K H .non "bool" false
 |non_int:IsI K H .non "int" false
 |non_list:IsI K H .non "list" false
 |non_tuple:IsI K H .non "tuple" false
 |non_str:IsI K H .non "str" false
 |str_bool (i):IsI K H (.str i) "bool" false
 |str_int (i):IsI K H (.str i) "int" false
 |str_list (i):IsI K H (.str i) "list" false
 |str_tuple (i):IsI K H (.str i) "tuple" false
 |str_str (i):IsI K H (.str i) "str" true
 |list_bool (p xs):SqL K H p xs->IsI K H (.ref p) "bool" false
 |list_int (p xs):SqL K H p xs->IsI K H (.ref p) "int" false
 |list_list (p xs):SqL K H p xs->IsI K H (.ref p) "list" true
 |list_tuple (p xs):SqL K H p xs->IsI K H (.ref p) "tuple" false
 |list_str (p xs):SqL K H p xs->IsI K H (.ref p) "str" false
 |tuple_bool (p xs):SqT K H p xs->IsI K H (.ref p) "bool" false
 |tuple_int (p xs):SqT K H p xs->IsI K H (.ref p) "int" false
 |tuple_list (p xs):SqT K H p xs->IsI K H (.ref p) "list" false
 |tuple_tuple (p xs):SqT K H p xs->IsI K H (.ref p) "tuple" true
 |tuple_str (p xs):SqT K H p xs->IsI K H (.ref p) "str" false
def zoJ:CallR X (.builtin "isinstance") (λvs H Q=>∃x T b,vs=[x,.ty T]/\IsI X.K H x T b/\Q (.bl b) H):=by
 intro O s Y H vs us Q I r h;obtain⟨x,T,b,rfl,hi,q⟩:=h;obtain⟨u,w',rfl,rx,ry⟩:=zoD r;cases ry;have f0:EP X O Y Q (.bool b) s:=⟨.bl b,H,I,rfl,q⟩;have f1:EP X O Y Q (.bool b) {s with toks:=s.toks+1}:=⟨.bl b,H,I.tok _,rfl,q⟩;cases hi with
 |bl_bool=>cases rx;exact IsiPair.bool_bool f0
 |bl_int=>cases rx;exact IsiPair.bool_int f0
 |bl_list=>cases rx;exact IsiPair.bool_list f1
 |bl_tuple=>cases rx;exact IsiPair.bool_tuple f1
 |bl_str=>cases rx;exact IsiPair.bool_str f1
 |int_bool=>obtain⟨t,rfl⟩:=rx;exact IsiPair.int_bool f1
 |int_int=>obtain⟨t,rfl⟩:=rx;exact IsiPair.int_int f0
 |int_list=>obtain⟨t,rfl⟩:=rx;exact IsiPair.int_list f1
 |int_tuple=>obtain⟨t,rfl⟩:=rx;exact IsiPair.int_tuple f1
 |int_str=>obtain⟨t,rfl⟩:=rx;exact IsiPair.int_str f1
 |non_bool=>cases rx;exact IsiPair.NoneType_bool f1
 |non_int=>cases rx;exact IsiPair.NoneType_int f1
 |non_list=>cases rx;exact IsiPair.NoneType_list f1
 |non_tuple=>cases rx;exact IsiPair.NoneType_tuple f1
 |non_str=>cases rx;exact IsiPair.NoneType_str f1
 |str_bool=>obtain⟨t,rfl⟩:=rx;exact IsiPair.str_bool f1
 |str_int=>obtain⟨t,rfl⟩:=rx;exact IsiPair.str_int f1
 |str_list=>obtain⟨t,rfl⟩:=rx;exact IsiPair.str_list f1
 |str_tuple=>obtain⟨t,rfl⟩:=rx;exact IsiPair.str_tuple f1
 |str_str=>obtain⟨t,rfl⟩:=rx;exact IsiPair.str_str f0
 |list_bool p xs h=>cases rx;obtain⟨_,_,⟨o,n,e,c,_⟩,_⟩:=I.list h;exact IsiPair.list_bool e c f1
 |list_int p xs h=>cases rx;obtain⟨_,_,⟨o,n,e,c,_⟩,_⟩:=I.list h;exact IsiPair.list_int e c f1
 |list_list p xs h=>cases rx;obtain⟨_,_,⟨o,n,e,c,_⟩,_⟩:=I.list h;exact IsiPair.list_list e c f0
 |list_tuple p xs h=>cases rx;obtain⟨_,_,⟨o,n,e,c,_⟩,_⟩:=I.list h;exact IsiPair.list_tuple e c f1
 |list_str p xs h=>cases rx;obtain⟨_,_,⟨o,n,e,c,_⟩,_⟩:=I.list h;exact IsiPair.list_str e c f1
 |tuple_bool p xs h=>cases rx;obtain⟨_,_,⟨o,e,c,_⟩,_⟩:=I.tuple h;exact IsiPair.tuple_bool e c f1
 |tuple_int p xs h=>cases rx;obtain⟨_,_,⟨o,e,c,_⟩,_⟩:=I.tuple h;exact IsiPair.tuple_int e c f1
 |tuple_list p xs h=>cases rx;obtain⟨_,_,⟨o,e,c,_⟩,_⟩:=I.tuple h;exact IsiPair.tuple_list e c f1
 |tuple_tuple p xs h=>cases rx;obtain⟨_,_,⟨o,e,c,_⟩,_⟩:=I.tuple h;exact IsiPair.tuple_tuple e c f0
 |tuple_str p xs h=>cases rx;obtain⟨_,_,⟨o,e,c,_⟩,_⟩:=I.tuple h;exact IsiPair.tuple_str e c f1
def zkv{bs:List Bool}:∀{us:List Value},Vals (bs.map V.bl) us->∀(i:Nat) v,us[i]?=some v->v=.bool (bs.getD i false):=by
 induction bs with
 |nil=>intro us r i v h;cases r;simp at h
 |cons b bs ih=>
  intro us r i v h;rw[YAb]at r;cases r with
  |cons r1 r2=>
   cases i with
   |zero=>simp at h;subst h;exact r1
   |succ i=>simpa using ih r2 i v (by simpa using h)
def zm6(bs:List Bool):((List.range bs.length).all λi=>bs.getD i false)=bs.all id:=by
 induction bs with
 |nil=>rfl
 |cons b bs ih=>
  rw[YAK,YCG,YDv,List.all_map,YDv,<-ih];rfl
def zmq(bs:List Bool):((List.range bs.length).any λi=>bs.getD i false)=bs.any id:=by
 induction bs with
 |nil=>rfl
 |cons b bs ih=>
  rw[YAK,YCG,YBY,List.any_map,YBY,<-ih];rfl
def zij(hc:X.calm=true):CallR X (.builtin "all") (λvs H Q=>∃(p:Addr)(bs:List Bool),vs=[.ref p]/\SqL X.K H p (bs.map V.bl)/\Q (.bl (bs.all id)) H):=by
 intro O s Y H vs us Q I r h;obtain⟨p,bs,rfl,hq,q⟩:=h;obtain⟨u,rfl,rx⟩:=zda r;cases rx;obtain⟨its,r',pl,hz⟩:=I.list hq;have hlen:=r'.length;rw[YAc]at hlen;have hp:p<s.heap.objs.size:=let⟨o,n,e,_⟩:=pl;YAl e
 refine call_all_walk (YB6 pl.isList ?_);refine⟨s.heap.objs.size,_,[s.heap.objs.size],_,_,_,λi=>bs.getD i false,rfl,Walks.list (A:=X.A.in1) (I.ok.hd hc) _ p (YAv hp) its.toArray,⟨⟨_,YAr _ rfl,rfl,rfl⟩,pl.isList.push _⟩,λi v s' Q' E' hP hQ=>?_,λh' tk hk=>?_⟩
 .rw[zkv r' i v (by simpa using hP)];exact YBl hQ
 .rw[YAu,<-hlen,zm6];exact⟨.bl _,H,I.kept λb o e=>hk b o (by simpa using YAv (YAl e)) (YAd _ e),rfl,q⟩
def znt(hc:X.calm=true):CallR X (.builtin "any") (λvs H Q=>∃(p:Addr)(bs:List Bool),vs=[.ref p]/\SqL X.K H p (bs.map V.bl)/\Q (.bl (bs.any id)) H):=by
 intro O s Y H vs us Q I r h;obtain⟨p,bs,rfl,hq,q⟩:=h;obtain⟨u,rfl,rx⟩:=zda r;cases rx;obtain⟨its,r',pl,hz⟩:=I.list hq;have hlen:=r'.length;rw[YAc]at hlen;have hp:p<s.heap.objs.size:=let⟨o,n,e,_⟩:=pl;YAl e
 refine call_any_walk (YB6 pl.isList ?_);refine⟨s.heap.objs.size,_,[s.heap.objs.size],_,_,_,λi=>bs.getD i false,rfl,Walks.list (A:=X.A.in1) (I.ok.hd hc) _ p (YAv hp) its.toArray,⟨⟨_,YAr _ rfl,rfl,rfl⟩,pl.isList.push _⟩,λi v s' Q' E' hP hQ=>?_,λh' tk hk=>?_⟩
 .rw[zkv r' i v (by simpa using hP)];exact YBl hQ
 .rw[YAu,<-hlen,zmq];exact⟨.bl _,H,I.kept λb o e=>hk b o (by simpa using YAv (YAl e)) (YAd _ e),rfl,q⟩
def zs1(i j:Int):Prop:=0<j/\j<2^64
def zkn:OpR X (binaryOp .FloorDiv) (rI zs1 λi j=>.int (i / j)):=opI λi j _ _ _ _ _ hc q=>by
 have hp:(0:Int)<j:=hc.1;have hl:j.natAbs.log2<9000:=by
  have h2:j<2^64:=hc.2;have h3:j.natAbs<2^64:=by omega
  have h4:j.natAbs.log2<64:=(Nat.log2_lt (by omega)).mpr h3;omega
 exact floordiv_int (by omega) (by rw[Int.fdiv_eq_ediv_of_nonneg i (by omega)];exact q) (.inl (PyProof.noPylong_of_log2 hl))
def zsH(K:qq):V->V->Hp->VK->Prop:=λx y H Q=>∃(p:Addr)(xs:List V)(j:Nat)(v:V),x=.ref p/\y=.int j/\SqL K H p xs/\xs[j]?=some v/\Q v H
def zkW:PGet X (zsH X.K):=by
 intro O s Y H o i ov iv Q I r1 r2 h;obtain⟨p,xs,j,v,rfl,rfl,hq,he,q⟩:=h;cases r1;obtain⟨t,rfl⟩:=r2;obtain⟨its,r,pl,hz⟩:=I.list hq;obtain⟨u,eu,ru⟩:=r.get he;have hj:j<xs.length:=(YAi.mp he).1;have hn:=zfE;exact wpAny_getItem_list pl.isList (by omega) (by omega) (by simpa using eu) ⟨v,H,I,ru,q⟩
end
section
variable{P:Program}{w:World}{A:Around}{E:Value->Shared->Prop}{s:Shared}
def zh9(ht:s.heap.IsTupleIter it t i)(hl:s.heap.IsTuple t xs)(hx:xs[i]?=some x)
  (q:∀h',h'.IsTupleIter it t (i+1)->Heap.SameBut it s.heap h'->Q x {s with heap:=h'}):wpAny (model P w) A (Builtin.SmallTypes.nextOf (.ref it)) Q E s:=by
 obtain⟨o,e,c,d⟩:=id ht;obtain⟨ol,el,_,n,dl⟩:=hl;unfold Builtin.SmallTypes.nextOf;refine YAa (YA0 (name:=Str.ofString "__next__") ht.typeIs YBS (YAU YBS ht.typeIs F.entry_tuple_iterator_next ?_ (F.args_tuple_iterator_next_1 _)));show wpAny _ _ (field (.ref it) 0 >>= _) _ _ s;refine YAa (YA8 e d (x:=.ref t) rfl ?_);show wpAny _ _ (if (Value.ref t==Value.none)=true then _ else _) _ _ s;rw[if_neg (show ¬ ((Value.ref t==Value.none)=true)from YAA)];show wpAny _ _ (field (.ref it) 1 >>= _) _ _ s;refine YAa (YA8 e d (x:=.int i 0) rfl ?_);show wpAny _ _ (seqItems? (.ref t) >>= _) _ _ s;refine YAa (YBt el dl ?_);simp only[hx,YAD];refine YAa (wpAny_setField e d (by simp) (YAf ⟨x,rfl,YAf (q _ ⟨_,YBq _ e (Obj.isFreed_of_fields (Obj.data_mapFields d _)),(Obj.cls_mapFields ..).trans c,by rw[Obj.data_mapFields d];simp[rawInt]⟩ (YCe ..))⟩))
def zjk(hh:A.handled=none)(ht:s.heap.IsTupleIter it t i)(hl:s.heap.IsTuple t xs)(hx:xs[i]?=none)
  (q:∀h' e,Heap.ExtBut it s.heap h'->(∃o,h'.get? e=some o/\o.cls=.type "StopIteration")->E (.ref e) {s with heap:=h'}):wpAny (model P w) A (Builtin.SmallTypes.nextOf (.ref it)) Q E s:=by
 obtain⟨o,e,c,d⟩:=id ht;obtain⟨ol,el,_,n,dl⟩:=hl;unfold Builtin.SmallTypes.nextOf;refine YAa (YA0 (name:=Str.ofString "__next__") ht.typeIs YBS (YAU YBS ht.typeIs F.entry_tuple_iterator_next ?_ (F.args_tuple_iterator_next_1 _)));show wpAny _ _ (field (.ref it) 0 >>= _) _ _ s;refine YAa (YA8 e d (x:=.ref t) rfl ?_);show wpAny _ _ (if (Value.ref t==Value.none)=true then _ else _) _ _ s;rw[if_neg (show ¬ ((Value.ref t==Value.none)=true)from YAA)];show wpAny _ _ (field (.ref it) 1 >>= _) _ _ s;refine YAa (YA8 e d (x:=.int i 0) rfl ?_);show wpAny _ _ (seqItems? (.ref t) >>= _) _ _ s;refine YAa (YBt el dl ?_);simp only[hx,YAD];refine YAa (YBO (YAa (wpAny_setField e d (by simp) ?_)));show wpAny _ _ (newExc (.type "StopIteration") [] >>= _) _ _ _;refine YAa ?_;simp only[newTuple,newExc];refine YAa (YAS (YAa (m:=firstArgMember _ _) (YDZ (a:=Value.none) (by first|rfl|(simp only[firstArgMember];rfl)) (YAS ?_ (by size_fits)))) (by size_fits));simp only[raiseNew];refine YAa (wpAny_handled ?_);first|rw[show A.in1.handled=none from hh]|rw[hh]
 exact YAa (YAf (wpAny_throw (q _ _ (((YCe ..).extBut.push _).push _) ⟨_,YAr _ rfl,rfl⟩)))
end
def zjV(hh:A.handled=none)(it t:Addr)(hne:t≠it)(xs:Array Value) :
  Draws P w A it [it,t] xs.size (λi v=>xs[i]?=some v) (λi h=>h.IsTupleIter it t i/\h.IsTuple t xs)where
 live:=λ_ _ st=>let⟨o,e,_⟩:=st.1;⟨o,e⟩
 frame:=λ_ _ _ st k=>⟨let⟨o,e,r⟩:=st.1;⟨o,k it (by simp) o e,r⟩,let⟨o,e,r⟩:=st.2;⟨o,k t (by simp) o e,r⟩⟩
 item:=λi s Q E hi st q=>zh9 st.1 st.2 (x:=xs[i]) (by simp[hi]) λh' a sb=>q _ h' s.toks (by simp[hi]) ⟨a,st.2.extBut sb.extBut hne⟩ sb
 done:=λs Q E st q=>zjk hh st.1 st.2 (by simp) q
structure ZAp(z a b i j:Addr)(f g:List Addr):Prop where
 az:a≠z
 bz:b≠z
 iz:i≠z
 jz:j≠z
 ab:a≠b
 ai:a≠i
 aj:a≠j
 bi:b≠i
 bj:b≠j
 ij:i≠j
 zf:z∉f
 bf:b∉f
 jf:j∉f
 zg:z∉g
 bg:b∉g
 ig:i∉g
section
variable{P:Program}{w:World}{A:Around}{E:Value->Shared->Prop}{s:Shared}{z a b i j:Addr}{f g:List Addr}{n m k:Nat}{F1 F2:Nat->Value->Prop}{S1 S2:Nat->Heap->Prop}
def zbV{h h':Heap}{c:Addr}{l:List Addr}(sb:Heap.SameBut c h h')(hc:c∉l):∀b∈l,∀o,h.get? b=some o->h'.get? b=some o:=λb hb o e=>sb.extBut b o (λz=>hc (z▸hb)) e
def ziU{u v:Value}{Q:Value->Shared->Prop}(qp:ZAp z a b i j f g)(D1:Draws P w A i f n F1 S1)(D2:Draws P w A j g m F2 S2)(hz:IsZip s.heap z a b .none)(ha:IsPair s.heap a (.ref i) (.ref j))(hb:IsPair s.heap b u v)
  (s1:S1 k s.heap) (s2:S2 k s.heap) (k1:k<n) (k2:k<m)
  (q:∀x y h' tk t,F1 k x->F2 k y->t=s.heap.objs.size->IsZip h' z a b (rawInt t)->IsPair h' b x y->S1 (k+1) h'->S2 (k+1) h'->IsPair h' t x y ->
   (∀c o,c≠z->c≠b->c≠i->c≠j->s.heap.get? c=some o->h'.get? c=some o)->Q (.ref t) {s with heap:=h',toks:=tk}) :
  wpAny (model P w) A (Builtin.«zip.__next__» ⟨[.ref z],[]⟩) (λfin s'=>∃v,fin=.done (.ret v)/\Q v s') E s:=by
 show wpAny _ _ (field (.ref z) 2 >>= _) _ _ _;refine YAa (YA8 hz rfl (x:=.bool false) rfl ?_);show wpAny _ _ (field (.ref z) 3 >>= _) _ _ _;refine YAa (YA8 hz rfl (x:=.ref a) rfl (YAa (YBt ha rfl ?_)));show wpAny _ _ (Builtin.SmallTypes.ownedTupleIsFree (.ref z) >>= _) _ _ _;refine YAa ?_;unfold Builtin.SmallTypes.ownedTupleIsFree;refine YAa (YA8 hz rfl (x:=.none) rfl (YAf ?_));simp only[YCO];refine YAa (YBO (YAa (YA8 hz rfl (x:=.ref b) rfl (YAa (YAR hz (by simp) λh1 z1 e1=>?_)))))
 replace z1:IsZip h1 z a b .ellipsis:=z1
 refine YAa ?_;simp only[YDA,YDK,YC4,YDW];refine YAa (YAa (YCX ?_));show wpAny _ _ (Builtin.SmallTypes.nextOf (.ref i) >>= _) _ _ _;have t1:S1 k h1:=D1.frame _ _ _ s1 (zbV e1 qp.zf);have t2:S2 k h1:=D2.frame _ _ _ s2 (zbV e1 qp.zg);refine YAa (D1.item k _ _ _ k1 t1 λx h2 tk2 px u1 e2=>YAf ?_);have b2:IsPair h2 b u v:=e2.extBut _ _ qp.bi (e1.extBut _ _ qp.bz hb);refine YAa (YBt b2 rfl (YAa (YCS b2 λh3 b3 e3=>?_)))
 replace b3:IsPair h3 b x v:=b3
 refine YAa (wpAny_letGo (YAf ?_));refine YAa (YAa (YCX ?_));show wpAny _ _ (Builtin.SmallTypes.nextOf (.ref j) >>= _) _ _ _;have t3:S2 k h3:=D2.frame _ _ _ (D2.frame _ _ _ t2 (zbV e2 qp.ig)) (zbV e3 qp.bg);refine YAa (D2.item k _ _ _ k2 t3 λy h4 tk4 py u2 e4=>YAf ?_);have b4:IsPair h4 b x v:=e4.extBut _ _ qp.bj b3;refine YAa (YBt b4 rfl (YAa (YCS b4 λh5 b5 e5=>?_)))
 replace b5:IsPair h5 b x y:=b5
 refine YAa (wpAny_letGo (YAf (YAf (YAa (YBt b5 rfl (YAa (YDT ?_)))))));have sz:h5.objs.size=s.heap.objs.size:=by rw[e5.1,e4.1,e3.1,e2.1,e1.1]
 have z5:IsZip h5 z a b .ellipsis:=e5.extBut _ _ qp.bz.symm (e4.extBut _ _ qp.jz.symm (e3.extBut _ _ qp.bz.symm (e2.extBut _ _ qp.iz.symm z1)));have k5:∀c o,c≠z->c≠b->c≠i->c≠j->s.heap.get? c=some o->h5.get? c=some o:=λc o c1 c2 c3 c4 e=>e5.extBut _ _ c2 (e4.extBut _ _ c4 (e3.extBut _ _ c2 (e2.extBut _ _ c3 (e1.extBut _ _ c1 e))));have v1:S1 (k+1) h5:=D1.frame _ _ _ (D1.frame _ _ _ (D1.frame _ _ _ u1 (zbV e3 qp.bf)) (zbV e4 qp.jf)) (zbV e5 qp.bf);have v2:S2 (k+1) h5:=D2.frame _ _ _ u2 (zbV e5 qp.bg);have zl:z<h5.objs.size:=YAl z5;show wpAny _ _ (Builtin.SmallTypes.ownedTupleHandOut (.ref z) (.ref h5.objs.size) >>= _) _ _ _;refine YAa ?_;unfold Builtin.SmallTypes.ownedTupleHandOut;have z6:IsZip (h5.push {cls:=.type "tuple",data:=.seq #[x,y]}) z a b .ellipsis:=YAd _ z5;refine YAa (YAR z6 (by simp) λh7 z7 e7=>?_)
 replace z7:IsZip h7 z a b (rawInt h5.objs.size):=z7
 refine YAR z7 (by simp) λh8 z8 e8=>?_
 replace z8:IsZip h8 z a b (rawInt h5.objs.size):=z8
 have up:∀c o,c≠z->h5.get? c=some o->h8.get? c=some o:=λc o c1 e=>e8.extBut _ _ c1 (e7.extBut _ _ c1 (YAd _ e));refine YAf ⟨_,rfl,?_⟩;exact q x y h8 _ h5.objs.size px py sz z8 (up _ _ qp.bz b5) (D1.frame _ _ _ v1 λc hc o e=>up c o (λzz=>qp.zf (zz▸hc)) e) (D2.frame _ _ _ v2 λc hc o e=>up c o (λzz=>qp.zg (zz▸hc)) e)
  (e8.extBut _ _ (YBd zl) (e7.extBut _ _ (YBd zl) (YAr _ rfl))) λc o c1 c2 c3 c4 e=>up c o c1 (k5 c o c1 c2 c3 c4 e)
def zjg{Q:Fin->Shared->Prop}(qp:ZAp z a b i j f g)(D1:Draws P w A i f n F1 S1)(hz:IsZip s.heap z a b .none)(ha:IsPair s.heap a (.ref i) (.ref j))(s1:S1 n s.heap)
  (q:∀h' e,(∀c o,c≠z->c≠b->c≠i->c≠j->s.heap.get? c=some o->h'.get? c=some o)->(∃o,h'.get? e=some o/\o.cls=.type "StopIteration")->E (.ref e) {s with heap:=h'}) :
  wpAny (model P w) A (Builtin.«zip.__next__» ⟨[.ref z],[]⟩) Q E s:=by
 show wpAny _ _ (field (.ref z) 2 >>= _) _ _ _;refine YAa (YA8 hz rfl (x:=.bool false) rfl ?_);show wpAny _ _ (field (.ref z) 3 >>= _) _ _ _;refine YAa (YA8 hz rfl (x:=.ref a) rfl (YAa (YBt ha rfl ?_)));show wpAny _ _ (Builtin.SmallTypes.ownedTupleIsFree (.ref z) >>= _) _ _ _;refine YAa ?_;unfold Builtin.SmallTypes.ownedTupleIsFree;refine YAa (YA8 hz rfl (x:=.none) rfl (YAf ?_));simp only[YCO];refine YAa (YBO (YAa (YA8 hz rfl (x:=.ref b) rfl (YAa (YAR hz (by simp) λh1 z1 e1=>?_)))))
 replace z1:IsZip h1 z a b .ellipsis:=z1
 refine YAa ?_;simp only[YDA,YDK,YC4,YDW];refine YAa (YAa (YCX ?_));show wpAny _ _ (Builtin.SmallTypes.nextOf (.ref i) >>= _) _ _ _;refine YAa (D1.done _ _ _ (D1.frame _ _ _ s1 (zbV e1 qp.zf)) λh2 e e2 he=>?_);obtain⟨oe,ho,hc⟩:=he;have z2:IsZip h2 z a b .ellipsis:=e2 _ _ qp.iz.symm z1;have ez:e≠z:=λx=>by subst x;rw[z2]at ho;cases ho;simp at hc
 refine YAR z2 (by simp) λh3 _ e3=>q h3 e (λc o c1 _ c3 _ x=>e3.extBut _ _ c1 (e2 _ _ c3 (e1.extBut _ _ c1 x))) ⟨oe,e3.extBut _ _ ez ho,hc⟩
def zfO{u v:Value}{Q:Option Value->Shared->Prop}(qp:ZAp z a b i j f g)(D1:Draws P w A.in1 i f n F1 S1)(D2:Draws P w A.in1 j g m F2 S2)(hz:IsZip s.heap z a b .none)(ha:IsPair s.heap a (.ref i) (.ref j))(hb:IsPair s.heap b u v)
  (s1:S1 k s.heap) (s2:S2 k s.heap) (k1:k<n) (k2:k<m)
  (q:∀x y h' tk t,F1 k x->F2 k y->t=s.heap.objs.size->IsZip h' z a b (rawInt t)->IsPair h' b x y->S1 (k+1) h'->S2 (k+1) h'->IsPair h' t x y ->
   (∀c o,c≠z->c≠b->c≠i->c≠j->s.heap.get? c=some o->h'.get? c=some o)->Q (some (.ref t)) {s with heap:=h',toks:=tk}):wpAny (model P w) A (pyNext (.ref z)) Q E s:=by
 have hT:s.TypeIs (.ref z) "zip":=⟨_,hz,rfl⟩;unfold pyNext;exact YAa (YCW (YA0 (name:=Str.ofString "__next__") hT YCo (YAU YCo hT YDB
  (ziU qp D1 D2 hz ha hb s1 s2 k1 k2 λx y h' tk t a1 a2 a3 a4 a5 a6 a7 a8 a9=>YAf (q x y h' tk t a1 a2 a3 a4 a5 a6 a7 a8 a9)) (YDq _))))
def zf0(qp:ZAp z a b i j f g)(D1:Draws P w A.in1 i f n F1 S1)(hz:IsZip s.heap z a b .none)(ha:IsPair s.heap a (.ref i) (.ref j))(s1:S1 n s.heap)
  (q:∀h',(∀c o,c≠z->c≠b->c≠i->c≠j->s.heap.get? c=some o->h'.get? c=some o)->Q none {s with heap:=h'}):wpAny (model P w) A (pyNext (.ref z)) Q E s:=by
 have hT:s.TypeIs (.ref z) "zip":=⟨_,hz,rfl⟩;unfold pyNext;refine YAa (YCW (YA0 (name:=Str.ofString "__next__") hT YCo (YAU YCo hT YDB (zjg qp D1 hz ha s1 λh' e hk he=>?_) (YDq _))));obtain⟨o,ho,hc⟩:=he;exact YAa (YCx (T:="StopIteration") (b:=true) ⟨o,ho,hc⟩ YDS (YAf (q _ hk)))
end
section
variable{X:Cx}{O:List (Addr×Obj)}{Y:St}{H:Hp}{s:Shared}{h':Heap}{ch:List Addr}{t':Nat}
def Inv.turnedLaid(I:Inv X O Y H s)(k:∀b u,b∉ch->s.heap.get? b=some u->h'.get? b=some u)(hf:∀b∈ch,FpOk X O H b)(hp:s.heap.objs.size<=a)(new:ObjOk X.prog X.w (upd H a o) h' a o) :
  Inv X O Y (upd H a o) {s with heap:=h',toks:=t'}:=by
 have hn:H a=none:=I.hok.fresh hp;have nch:∀b u,H b=some u->b∉ch:=λb u e z=>by rw[(hf b z).1]at e;cases e
 refine I.step (g':=s.gens) (d':=s.drawn) (ch:=ch) (λb hb=>⟨(hf b hb).2.2.2.1,(hf b hb).2.1,(hf b hb).2.2.2.2.1,(hf b hb).2.2.2.2.2⟩) (λb u _ _ hc e _=>k b u hc e) (λb u _ _ hc e _=>⟨u.slots,k b u hc e⟩)
  (λb u _ e n=>by rw[zaf (YAv (YAs (YAl e) hp))];exact n) (λb u hc e=>⟨u,k b u hc e⟩) (λb xs e=>by rw[zaf (zae e hn)];exact e) (λb u xs e=>by rw[zaf (zae e hn)];exact e)
  (λb ps e=>⟨#[],by rw[zaf (zae e hn),e];simp⟩) (λm hm=>?_) (λb u e=>?_) I.bare
 .obtain⟨o,es,ep,ho,r⟩:=hm;exact⟨o,es,ep,k _ o (λz=>(hf _ z).2.1 rfl) ho,r⟩
 .by_cases hb:b=a
  .subst hb;rw[zac]at e;cases e;exact new
  .rw[zaf hb]at e;refine(I.hok b u e).stay (λc v hc q=>k c v ?_ q) (λc q=>by rw[zaf (zae q hn)];exact q) λc xs q=>by rw[zaf (zae q hn)];exact q
   rcases hc with z|z
   .rw[z];exact nch b u e
   .exact nch c _ z
def Inv.turnedAll(I:Inv X O Y H s)(k:∀b u,b∉ch->s.heap.get? b=some u->h'.get? b=some u)(hf:∀b∈ch,FpOk X O H b):Inv X O Y H {s with heap:=h',toks:=t'}:=by
 have nch:∀b u,H b=some u->b∉ch:=λb u e z=>by rw[(hf b z).1]at e;cases e
 refine I.step (g':=s.gens) (d':=s.drawn) (ch:=ch) (λb hb=>⟨(hf b hb).2.2.2.1,(hf b hb).2.1,(hf b hb).2.2.2.2.1,(hf b hb).2.2.2.2.2⟩) (λb u _ _ hc e _=>k b u hc e) (λb u _ _ hc e _=>⟨u.slots,k b u hc e⟩)
  (λ_ _ _ _ n=>n) (λb u hc e=>⟨u,k b u hc e⟩) (λ_ _ e=>e) (λ_ _ _ e=>e) (λb ps e=>⟨#[],by rw[e];simp⟩) (λm hm=>?_) (λb u e=>?_) I.bare
 .obtain⟨o,es,ep,ho,r⟩:=hm;exact⟨o,es,ep,k _ o (λz=>(hf _ z).2.1 rfl) ho,r⟩
 .refine(I.hok b u e).stay (λc v hc q=>k c v ?_ q) (λ_ q=>q) λ_ _ q=>q;rcases hc with z|z
  .rw[z];exact nch b u e
  .exact nch c _ z
end
def SIt(tp:Bool)(h:Heap)(it l:Addr)(k:Nat):Prop:=match tp with|true=>h.IsTupleIter it l k|false=>h.IsListIter it l k
def SCn(tp:Bool)(h:Heap)(l:Addr)(xs:Array Value):Prop:=match tp with|true=>h.IsTuple l xs|false=>h.IsList l xs
def SQ(tp:Bool)(K:qq)(H:Hp)(a:Addr)(xs:List V):Prop:=match tp with|true=>SqT K H a xs|false=>SqL K H a xs
def SIt.obj(x:SIt tp h it l k):∃o,h.get? it=some o/\∀v,o.data≠.cell v:=by
 cases tp<;>(obtain⟨o,e,c,d⟩:=x;exact⟨o,e,λv z=>by rw[d]at z;cases z⟩)
def SIt.keep(x:SIt tp h it l k)(q:∀o,h.get? it=some o->h'.get? it=some o):SIt tp h' it l k:=by
 cases tp<;>(obtain⟨o,e,r⟩:=x;exact⟨o,q o e,r⟩)
def SCn.lt(x:SCn tp h l xs):l<h.objs.size:=by
 cases tp<;>(obtain⟨o,e,_⟩:=x;exact YAl e)
def ziZ(tp:Bool)(hh:A.handled=none)(it l:Addr)(hne:l≠it)(xs:Array Value) :
  Draws P w A it [it,l] xs.size (λi v=>xs[i]?=some v) (λi h=>SIt tp h it l i/\SCn tp h l xs):=by
 cases tp
 .exact Draws.list hh it l hne xs
 .exact zjV hh it l hne xs
section
variable{X:Cx}{O:List (Addr×Obj)}{Y:St}{H:Hp}{s:Shared}{tp:Bool}{a:Addr}{xs ys:List V}
def Inv.sq(I:Inv X O Y H s)(h:SQ tp X.K H a xs):∃its:List Value,Vals xs its/\SCn tp s.heap a its.toArray/\xs.length<=sizeLine:=by
 cases tp
 .obtain⟨its,r,p,z⟩:=I.list h;exact⟨its,r,p.isList,z⟩
 .exact I.tuple h
def Inv.sq_inj(I:Inv X O Y H s)(h:SQ tp X.K H a xs)(h':SQ tp X.K H a ys):xs=ys:=by
 cases tp
 .exact I.list_inj h h'
 .exact I.tuple_inj h h'
end
def zqU(n l m:Nat)(h1:l<n)(h2:m<n):ZAp (n+4) (n+2) (n+3) n (n+1) [n,l] [n+1,m]:=by
 have e:∀{p q:Nat},p≠q->∀{r:Nat},p≠r->p∉[q,r]:=λ{p q} h {r} h' z=>by
  rcases YAk.mp z with z|z
  .exact h z
  .exact h' (YAg.mp z)
 have r:∀{p q:Nat},p<q\/q<p->(p:Addr)≠q:=λh=>h.elim YAv λh=>(YAv h).symm;exact⟨r (by omega),r (by omega),r (by omega),r (by omega),r (by omega),r (by omega),r (by omega),r (by omega),r (by omega),r (by omega),e (r (by omega)) (r (by omega)),e (r (by omega)) (r (by omega)),e (r (by omega)) (r (by omega)),e (r (by omega)) (r (by omega)),e (r (by omega)) (r (by omega)),e (r (by omega)) (r (by omega))⟩
noncomputable def Itz(tp:Bool)(K:qq)(a b:Addr):It:=
 ⟨λi H=>∃xs ys x y,SQ tp K H a xs/\SQ tp K H b ys/\xs[i]?=some x/\ys[i]?=some y,
 λi H v H'=>∃t x y,H t=none/\v=.ref t/\H'=upd H t (.tup [x,y])/\(∀xs,SQ tp K H a xs->xs[i]?=some x)/\∀ys,SQ tp K H b ys->ys[i]?=some y,
 λi H=>∃xs,SQ tp K H a xs/\xs.length=i⟩
def ZTn(tp:Bool)(z c d i j a b:Addr)(k:Nat)(h:Heap):Prop:=IsZip h z c d .none/\IsPair h c (.ref i) (.ref j)/\(∃u v,IsPair h d u v)/\SIt tp h i a k/\SIt tp h j b k
def zdy{P:Program}{w:World}{K:qq}{es:List Expr}{x1:_}{pos:Pos}{tp:Bool}{z c d i j a b:Addr}(qp:ZAp z c d i j [i,a] [j,b])(na:a≠i)(nb:b≠j) :
  Turn P w K (.Tuple es x1 pos) (Itz tp K a b) [z,c,d,i,j] z (ZTn tp z c d i j a b)where
 mem:=by simp
 obj:=λk h st e he=>by
  obtain⟨h1,h2,⟨u,v,h3⟩,h4,h5⟩:=st;simp only[YAk,YAO,YBG]at he;rcases he with rfl|rfl|rfl|rfl|rfl
  .exact⟨_,h1,λv q=>by cases q⟩
  .exact⟨_,h2,λv q=>by cases q⟩
  .exact⟨_,h3,λv q=>by cases q⟩
  .exact h4.obj
  .exact h5.obj
 keep:=λk h h' st q=>by
  obtain⟨h1,h2,⟨u,v,h3⟩,h4,h5⟩:=st;exact⟨q z (by simp) _ h1,q c (by simp) _ h2,⟨u,v,q d (by simp) _ h3⟩,h4.keep λo e=>q i (by simp) o e,h5.keep λo e=>q j (by simp) o e⟩
 item:=by
  intro X hP hw hK hc k O s Y H E I hf st hg;subst hP hw hK;obtain⟨xs,ys,x,y,qa,qb,ex,ey⟩:=hg;obtain⟨ia,ra,ca,za⟩:=I.sq qa;obtain⟨ib,rb,cb,zb⟩:=I.sq qb;obtain⟨h1,h2,⟨u,v,h3⟩,h4,h5⟩:=st;have hh:X.A.in1.handled=none:=I.ok.hd hc;obtain⟨ux,eux,rux⟩:=ra.get ex;obtain⟨uy,euy,ruy⟩:=rb.get ey;have k1:k<ia.toArray.size:=by simpa using(YAi.mp eux).1
  have k2:k<ib.toArray.size:=by simpa using(YAi.mp euy).1
  refine zfO qp (ziZ tp hh i a na ia.toArray) (ziZ tp hh j b nb ib.toArray) h1 h2 h3 ⟨h4,ca⟩ ⟨h5,cb⟩ k1 k2 λvx vy h' tk t px py ht g1 g2 g3 g4 g5 kk=>⟨_,rfl,?_⟩;have ev:vx=ux:=by rw[YCK,eux]at px;exact(Option.some.inj px).symm
  have ew:vy=uy:=by rw[YCK,euy]at py;exact(Option.some.inj py).symm
  subst ev ew;refine wpAny_letOwnedTupleGo_zip g1 λh'' z' sb=>?_;have tz:t≠z:=λq=>by rw[q]at ht;exact absurd (YAl h1) (by rw[ht];exact YBa _)
  have hn:H t=none:=I.hok.fresh (by rw[ht];exact YAn _);have kp:∀b u,b∉[z,c,d,i,j]->s.heap.get? b=some u->h''.get? b=some u:=λb u hb e=>by
   simp only[YAk,YAO,YBG,not_or]at hb;exact sb.extBut b u hb.1 (kk b u hb.1 hb.2.2.1 hb.2.2.2.1 hb.2.2.2.2 e)
  have I1:Inv X O Y (upd H t (.tup [x,y])) {s with heap:=h'',toks:=tk}:=I.turnedLaid (ch:=[z,c,d,i,j]) kp hf (by rw[ht];exact YAn _)
   ⟨by show 2<=sizeLine;decide,[vx,vy],.cons rux (.cons ruy .nil),⟨_,sb.extBut _ _ tz g5,rfl,_,rfl⟩⟩
  refine⟨.ref t,_,I1,rfl,⟨t,x,y,hn,rfl,rfl,λxs' q=>by rw[I.sq_inj q qa];exact ex,λys' q=>by rw[I.sq_inj q qb];exact ey⟩,?_,λe he=>?_⟩
  .exact⟨z',sb.extBut _ _ qp.az (kk _ _ qp.az qp.ab qp.ai qp.aj h2),⟨_,_,sb.extBut _ _ qp.bz g2⟩,g3.1.keep λo e=>sb.extBut _ _ qp.iz e,g4.1.keep λo e=>sb.extBut _ _ qp.jz e⟩
  .have hlt:e<s.heap.objs.size:=by
    simp only[YAk,YAO,YBG]at he;rcases he with rfl|rfl|rfl|rfl|rfl
    .exact YAl h1
    .exact YAl h2
    .exact YAl h3
    .obtain⟨o,q,_⟩:=h4.obj;exact YAl q
    .obtain⟨o,q,_⟩:=h5.obj;exact YAl q
   rw[zaf (YAv (by rw[ht];exact hlt))];exact(hf e he).1
 done:=by
  intro X hP hw hK hc k O s Y H E I hf st hg;subst hP hw hK;obtain⟨xs,qa,hx⟩:=hg;obtain⟨ia,ra,ca,za⟩:=I.sq qa;obtain⟨h1,h2,⟨u,v,h3⟩,h4,h5⟩:=st;have hh:X.A.in1.handled=none:=I.ok.hd hc;have hk:k=ia.toArray.size:=by rw[<-hx,ra.length];simp
  subst hk;refine zf0 qp (ziZ tp hh i a na ia.toArray) h1 h2 ⟨h4,ca⟩ λh' kk=>⟨rfl,?_⟩;exact I.turnedAll (t':=s.toks) (ch:=[z,c,d,i,j]) (λb u hb e=>by
   simp only[YAk,YAO,YBG,not_or]at hb;exact kk b u hb.1 hb.2.2.1 hb.2.2.2.1 hb.2.2.2.2 e) hf
 self:=λ_ _ _ _ _ st h=>wpAny_pyIter_zip st.1 h
abbrev tza(h:Heap)(l:Addr):Heap:=h.push {cls:=.type "tuple_iterator",data:=.fields #[.ref l,.int 0 0]}
abbrev tzb(h:Heap)(l m:Addr):Heap:=tza (tza h l) m
abbrev tzc(h:Heap)(l m:Addr):Heap:=(tzb h l m).push {cls:=.type "tuple",data:=.seq #[.ref h.objs.size,.ref (tza h l).objs.size]}
abbrev tzd(h:Heap)(l m:Addr):Heap:=(tzc h l m).push {cls:=.type "tuple",data:=.seq #[.none,.none]}
abbrev tze(h:Heap)(l m:Addr):Heap:=(tzd h l m).push {cls:=.type "zip",data:=.fields #[.none,.bool false,.bool false,.ref (tzb h l m).objs.size,.ref (tzc h l m).objs.size]}
def zk5(l m:Addr)(xs ys:Array Value) :
  Meets (Builtin.«zip.__new__» ⟨[.type "zip",.ref l,.ref m],[]⟩) (λ_ R s=>s.heap.IsTuple l xs/\s.heap.IsTuple m ys/\R (.ok (.ret (.ref (tzd s.heap l m).objs.size))) {s with heap:=tze s.heap l m}):=
 .of_wp λprog w A R s h=>by
  obtain⟨hp,g,d,tk,os⟩:=s;obtain⟨hl,hm,h⟩:=h;have hsub:=sub_zip;have h1:Heap.IsTuple (Shared.heap ⟨hp,g,d,tk,os⟩) l xs:=hl;have h2:Heap.IsTuple (Shared.heap ⟨hp.push {cls:=.type "tuple_iterator",data:=.fields #[.ref l,.int 0 0]},g,d,tk,os⟩) m ys:=Heap.IsTuple.push hm _
  wp_walk using YCE h1,YCE h2
  exact⟨_,rfl,h⟩
section
variable{P:Program}{w:World}{A:Around}{E:Value->Shared->Prop}{s:Shared}
def znL(hl:SCn tp s.heap l xs)(hm:SCn tp s.heap m ys)
  (q:∀h',ZTn tp (s.heap.objs.size+4) (s.heap.objs.size+2) (s.heap.objs.size+3) s.heap.objs.size (s.heap.objs.size+1) l m 0 h'->(∀c o,s.heap.get? c=some o->h'.get? c=some o)->Q (.ref (s.heap.objs.size+4)) {s with heap:=h'}) :
  wpAny (model P w) A (call (.type "zip") [.ref l,.ref m]) Q E s:=by
 cases tp
 .exact call_zip_2 hl hm λh' g1 g2 g3 g4 g5 _ kk=>q h' ⟨g1,g2,⟨_,_,g3⟩,g4,g5⟩ kk
 .refine callType_new F.called_zip (by decide) (F.typeCall_zip_2 _ _) (F.newCall_zip_2 _ _) (λobj=>F.args_object_init_3 obj _ _) F.entry_zip_new (zk5 l m xs ys) ⟨hl,hm,?_⟩;have y1:(tza s.heap l).objs.size=s.heap.objs.size+1:=YBf ..;have y2:(tzb s.heap l m).objs.size=s.heap.objs.size+2:=by rw[YBf,y1]
  have y3:(tzc s.heap l m).objs.size=s.heap.objs.size+3:=by rw[YBf,y2]
  have y4:(tzd s.heap l m).objs.size=s.heap.objs.size+4:=by rw[YBf,y3]
  have g5:(tze s.heap l m).get? (tzd s.heap l m).objs.size=some _:=YAr _ rfl;have g4:(tze s.heap l m).get? (tzc s.heap l m).objs.size=some _:=YAd _ (YAr _ rfl);have g3:(tze s.heap l m).get? (tzb s.heap l m).objs.size=some _:=YAd _ (YAd _ (YAr _ rfl));have g2:(tze s.heap l m).get? (tza s.heap l).objs.size=some _:=YAd _ (YAd _ (YAd _ (YAr _ rfl)));have g1:(tze s.heap l m).get? s.heap.objs.size=some _:=YAd _ (YAd _ (YAd _ (YAd _ (YAr _ rfl))));show _/\_;rw[y2,y3,y4]at g5;rw[y1,y2]at g3;rw[y3]at g4;rw[y1]at g2;rw[y4];exact⟨⟨_,g5,rfl⟩,q _ ⟨g5,g3,⟨_,_,g4⟩,⟨_,g1,rfl,rfl⟩,⟨_,g2,rfl,rfl⟩⟩ λc o x=>YAd _ (YAd _ (YAd _ (YAd _ (YAd _ x))))⟩
end
def zmj(elt tg iter:Expr)(ifs:List Expr)(scope:Scope)(pos:Pos)(it acc:Value)(env:Env) :
  compTurn (.SetComp elt [⟨tg,iter,ifs,0⟩] scope pos) 0 it acc env=(do
   standAt iter.pos
   match <-pyNext it with
   |none=>pure (.done .next)
   |some v=>
    letOwnedTupleGo tg it v
    assign tg env v
    let mut ok:=true
    for c in ifs do
     if ok then ok <-isTrue c env (eval c env)
    if ok then
     (do let x <-eval elt env;standAt elt.pos;let _ <-call (.builtin "set.add") [acc,x])
    again (.compLoop (.SetComp elt [⟨tg,iter,ifs,0⟩] scope pos) 0 it acc env)):=by rfl
section
variable{P:Program}{w:World}{A:Around}{E:Value->Shared->Prop}{R:Result->Shared->Prop}{s:Shared}
def zlv
  (h0:codeAny (model P w) A (.compLoop (.SetComp elt [⟨tg,iter,ifs,0⟩] scope pos) 0 it acc env) R s)
  (h:wpAny (model P w) A (pyIter it) (λit' s'=>codeAny (model P w) A (.compLoop (.SetComp elt [⟨tg,iter,ifs,0⟩] scope pos) 0 it' acc env) R s') (notedBy (model P w) A env λx s'=>R (.error x) s') s) :
  codeAny (model P w) A (.compStart (.SetComp elt [⟨tg,iter,ifs,0⟩] scope pos) 0 it acc env) R s:=by
 refine YC5 ?_;show wpAny _ _ ((compStart (.SetComp elt [⟨tg,iter,ifs,0⟩] scope pos) 0 it acc env).onRaise (λx=>do noteFrame x env;standAt theWindowsPlace)) _ _ s;refine wpAny_notedAt ?_;unfold compStart;show wpAny _ _ (ask >>= _) _ _ s;refine YAa (YCi (wpAny_ite ?_));split
 .first|exact YAa (YAf (YAf (And.intro rfl h0)))|exact YAf (And.intro rfl h0)
 .first
   |exact YAa (YBO (YAa (YBg (YAa (YA2 h (λit' s' h'=>YAf (And.intro rfl h')) λ_ _ x=>x)))))
   | (refine YAa (YBO ?_);show wpAny _ _ (standAt iter.pos >>= _) _ _ s;exact YAa (YBg (YAa (YA2 h (λit' s' h'=>YAf (And.intro rfl h')) λ_ _ x=>x))))
def zmB(h:Q (.ref s.heap.objs.size) {s with heap:=s.heap.push {cls:=.type "set",dict:=none,data:=.set #[] 0 (.fresh 0 0 (!w.params.followText "set-order"))}}) :
  wpAny (model P w) A (newSet (.type "set")) Q E s:=by
 unfold newSet setsByText;obtain⟨hp,g,d,tk,os⟩:=s;refine YAa (YAa (YCi (YAf ?_)));dsimp only;simp only[newObj];exact YAa (wpAny_alloc (YAf h))
def zjP(r:SetInts w s.heap a xs)(hr:xs.length+1<scanBound)
  (h:∀h',Heap.SameBut a s.heap h'->SetInts w h' a (k::xs)->Q .none {s with heap:=h',toks:=s.toks+1}):wpAny (model P w) A (call (.builtin "set.add") [.ref a,.int k tk]) Q E s:=by
 have hT:s.TypeIs (.ref a) "set":=let⟨es,ep,t,q,_⟩:=r.ex;⟨_,q.at_,rfl⟩
 refine YAU F.slot_set_add hT F.entry_set_add ?_ (F.args_set_add_2 _ _);unfold Builtin.«set.add» Builtin.Frozenset.oneOther;simp only[List.isEmpty_nil,bind_assoc];unfold Builtin.Frozenset.addrOf setAdd;refine YAa (YAf ?_);try dsimp only
 refine YAa (YAf ?_);try dsimp only
 refine YAa (YAV (YAa ((intKind P w).pyHash (k:=k) (YDo _ _ _ _) ?_)));refine zgT (s:={s with toks:=s.toks+1}) r hr λb h' sb hS=>?_;show wpAny _ _ (ret Value.none) _ _ _;exact YAf ⟨_,rfl,h h' sb hS⟩
end
noncomputable def zo1(w:World)(g:TG)(tc:TT)(te:TE)(Yc:St)(l:Addr)(J:It)(H1:Hp)(Q:VK):Prop:=
 ∃W:Nat->Nat->List Int->Hp->Prop,(∃m,W 0 m [] (upd H1 l (SetO w l [])))/\∀i m xs H2,W i m xs H2->H2 l=some (SetO w l xs) /\
  ((J.stop i H2/\Q (.ref l) H2)\/(J.go i H2/\∃N:List Int->Hp->Prop,(∀xs' H',N xs' H'->∃m',m'<m/\W (i+1) m' xs' H') /\
   ∀x H',J.yld i H2 x H'->g x Yc H' λY2 H3=>tc Y2 H3 λb H4=>if b=true then te Y2 H4 λy H5=>∃k,y=.int k/\H5 l=some (SetO w l xs)/\xs.length+1<scanBound/\N (k::xs) (upd H5 l (SetO w l (k::xs)))else N xs H4))
def zre(w:World)(sub:List (Option Nat))(wi:TI)(g:TG)(tc:TT)(te:TE):TE:=λY H Q=>wi Y H λJ H1=>∀l,H1 l=none->zo1 w g tc te (zbk sub Y) l J H1 Q
section
variable{X:Cx}{O:List (Addr×Obj)}{Y:St}{H:Hp}{s:Shared}{scope:Scope}{Nc:List Str}{sub:List (Option Nat)}{elt tg iter:Expr}{ifs:List Expr}{pos:Pos}{g:TG}{tc:TT}{te:TE}
def zpU{cl:List (Str×Addr)}{fp:List Addr}{it:Addr}{J:It}{tn:Nat->Heap->Prop}{E:Value->Shared->Prop}{Q:VK}{RR:Value->Addr->Result->Shared->Prop}
  (hc:X.calm=true) (I:Inv X O Y H s) (hS:CompScope X.N X.env.scope scope Nc sub)
  (hcl:∀x c,cl.lookup x=some c->X.env.cells.lookup x=some c) (hcl2:∀x,scope.names.lookup x=some .free->∃c,cl.lookup x=some c)
  (T:Turn X.prog X.w X.K tg J fp it tn) (st:tn 0 s.heap) (hf:∀b∈fp,FpOk X O H b)
  (hg:∀cl L s0 H0 ex,PG (zaq X Nc scope cl L s0 H0 ex) tg g) (gk:zfg sub g)
  (hi:∀cl L s0 H0 ex,PIfs (zaq X Nc scope cl L s0 H0 ex) ifs tc) (he:∀cl L s0 H0 ex,PE (zaq X Nc scope cl L s0 H0 ex) elt te)
  (gm:zeO g) (q:∀l,H l=none->zo1 X.w g tc te (zbk sub Y) l J H Q)
  (hRR:∀l C H' s' m,Inv X O Y H' s'->Q (.ref l) H'->s'.heap.Ns C m->s.heap.objs.size<=C->H' C=none->RR (.ref l) C (.ok .next) s') :
  wpAny (model X.prog X.w) X.A (newSet (.type "set")) (λacc s₃=>wpAny (model X.prog X.w) X.A (newFunctionEnv scope X.env.globals cl [] X.env.qual none .none (some X.env)) (λcenv s₄=>
   codeAny (model X.prog X.w) X.A (.compStart (.SetComp elt [⟨tg,iter,ifs,0⟩] scope pos) 0 (.ref it) acc {cenv with scope:=relabel scope X.env}) (RR acc cenv.locals) s₄) E s₃) E s:=by
 have hlt:∀b∈fp,b<s.heap.objs.size:=λb hb=>let⟨o,e,_⟩:=T.obj _ _ st b hb;YAl e
 have hl0:H s.heap.objs.size=none:=I.hok.fresh (YAn _);obtain⟨W,⟨m0,w0⟩,turn⟩:=q s.heap.objs.size hl0;refine zmB ?_;have I3:Inv X O Y (upd H s.heap.objs.size (SetO X.w s.heap.objs.size [])) {s with heap:=s.heap.push {cls:=.type "set",dict:=none,data:=.set #[] 0 (.fresh 0 0 (!X.w.params.followText "set-order"))},toks:=s.toks}:=
  I.laid (λb o e=>YAd _ e) (YAn _) (zd7 zgF)
 have e3:({s with heap:=s.heap.push {cls:=.type "set",dict:=none,data:=.set #[] 0 (.fresh 0 0 (!X.w.params.followText "set-order"))}}:Shared)={s with heap:=s.heap.push {cls:=.type "set",dict:=none,data:=.set #[] 0 (.fresh 0 0 (!X.w.params.followText "set-order"))},toks:=s.toks}:=rfl;rw[e3];generalize hs3:({s with heap:=s.heap.push {cls:=.type "set",dict:=none,data:=.set #[] 0 (.fresh 0 0 (!X.w.params.followText "set-order"))},toks:=s.toks}:Shared)=s3 at I3 ⊢;have k3:∀b o,s.heap.get? b=some o->s3.heap.get? b=some o:=λb o e=>by rw[<-hs3];exact YAd _ e
 have z3:s.heap.objs.size<=s3.heap.objs.size:=by rw[<-hs3];show _<=(s.heap.push _).objs.size;rw[YBf];exact Nat.le_succ _
 have f3:∀b∈fp,FpOk X O (upd H s.heap.objs.size (SetO X.w s.heap.objs.size [])) b:=λb hb=>⟨by rw[zaf (YAv (hlt b hb))];exact(hf b hb).1,(hf b hb).2⟩;have lt3:∀b∈fp,b<s3.heap.objs.size:=λb hb=>YAs (hlt b hb) z3;have st3:tn 0 s3.heap:=T.keep _ _ _ st λb _ o e=>k3 b o e;refine YCR hS.nocell (by intro y hy;simp at hy) (λh₁ hns₁ hsb₁=>?_) hS.kind;have k4:∀b o,s3.heap.get? b=some o->h₁.get? b=some o:=λb o e=>hsb₁.extBut b o (YAv (YAl e)) (YAd _ e);have ok4:=zfH (J:=J) (it:=it) (tn:=tn) I3 hS hcl hcl2 f3 lt3;have I4:=zdp (t':=s3.toks+([]:List (Str×Value)).length) I3 hS hcl hcl2 ok4 hns₁ k4;have st4:tn 0 h₁:=T.keep _ _ _ st3 λb _ o e=>k4 b o e;have stat:∀{H':Hp},(∀b∈fp,H' b=none)->∀b∈fp,FpOk (zaq X Nc scope cl s3.heap.objs.size s3 (upd H s.heap.objs.size (SetO X.w s.heap.objs.size [])) fp) [] H' b:=λhn b hb=>
  ⟨hn b hb,(ok4.exf b hb).1,ok4.exfs b hb,.inl hb,(ok4.exf b hb).2,λp hp=>absurd (show p∈([]:List (Addr×Obj))from hp) (by simp)⟩
 have loop:∀s₄:Shared,s₄={s3 with heap:=h₁,toks:=s3.toks+([]:List (Str×Value)).length} ->
   codeAny (model X.prog X.w) X.A (.compLoop (.SetComp elt [⟨tg,iter,ifs,0⟩] scope pos) 0 (.ref it) (.ref s.heap.objs.size) (compEnvC scope cl s3.heap.objs.size X.env)) (RR (.ref s.heap.objs.size) s3.heap.objs.size) s₄:=by
  rintro s₄ rfl;refine YDG rfl (λn s'=>∃i xs H',Inv (zaq X Nc scope cl s3.heap.objs.size s3 (upd H s.heap.objs.size (SetO X.w s.heap.objs.size [])) fp) [] (zbk sub Y) H' s'/\tn i s'.heap/\(∀b∈fp,H' b=none)/\W i n xs H') ?_ m0
   ⟨0,[],_,I4,st4,λb hb=>(f3 b hb).1,w0⟩
  rintro n s5 ⟨i,xs,H5,I5,st5,fr5,w5⟩;show wpAny _ X.A ((compTurn (.SetComp elt [⟨tg,iter,ifs,0⟩] scope pos) 0 (.ref it) (.ref s.heap.objs.size) (compEnvC scope cl s3.heap.objs.size X.env)).onRaise (λx=>do noteFrame x (compEnvC scope cl s3.heap.objs.size X.env);theTreesLotGoes x)) _ _ s5;refine YDY ?_;rw[zmj];refine YAa (YBg (YAa ?_));obtain⟨hl5,w5⟩:=turn i n xs H5 w5;rcases w5 with⟨stop,qn⟩|⟨go,N,hN,step⟩
  .refine thn (T.done (zaq X Nc scope cl s3.heap.objs.size s3 (upd H s.heap.objs.size (SetO X.w s.heap.objs.size [])) fp) rfl rfl rfl hc i [] s5 (zbk sub Y) H5 _ I5 (stat fr5) st5 stop) λr s6 ⟨hr,I6⟩=>?_;subst hr;obtain⟨m6,hn6,_⟩:=I6.loc;exact YAf (hRR _ _ H5 s6 m6 (zeL I3 f3 I6) qn hn6 z3 I6.free)
  .refine thn (T.item (zaq X Nc scope cl s3.heap.objs.size s3 (upd H s.heap.objs.size (SetO X.w s.heap.objs.size [])) fp) rfl rfl rfl hc i [] s5 (zbk sub Y) H5 _ I5 (stat fr5) st5 go) λr s6 ⟨u,hr,h6⟩=>?_;subst hr;refine YAa (thn h6 λ_ s7 ⟨x,H7,I7,r7,y7,st7,fr7⟩=>?_);have I7':=I7.pinned (stat fr7) (T.obj _ _ st7);have again:∀{Y8:St}{H8:Hp}{ys:List Int}{s8:Shared},Inv (zaq X Nc scope cl s3.heap.objs.size s3 (upd H s.heap.objs.size (SetO X.w s.heap.objs.size [])) fp) ([]++ze5 fp s7.heap) Y8 H8 s8->(∀(i j:Nat),sub[i]?=some (some j)->Y8[i]?=(zbk sub Y)[i]?)->N ys H8 ->
     ∃m,m<n/\∃i xs H',Inv (zaq X Nc scope cl s3.heap.objs.size s3 (upd H s.heap.objs.size (SetO X.w s.heap.objs.size [])) fp) [] (zbk sub Y) H' s8/\tn i s8.heap/\(∀b∈fp,H' b=none)/\W i m xs H':=λ{Y8 H8 ys s8} I8 k8 n8=>by
    obtain⟨m',hm,w8⟩:=hN ys H8 n8;refine⟨m',hm,i+1,ys,H8,?_,T.keep _ _ _ st7 λb hb o e=>(I8.pin (b,o) (YAp _ (YAp _ (zbe hb e)))).1,λb hb=>?_,w8⟩
    .refine I8.unpinned.weak ?_ λk v e=>?_
     .rw[I8.len];exact(zd8 sub Y).trans hS.len
     .obtain⟨j,e1,_⟩:=zdl e;rw[k8 k j e1];exact e
    .obtain⟨o,e,d⟩:=T.obj _ _ st7 b hb;exact(I8.pin (b,o) (YAp _ (YAp _ (zbe hb e)))).2.1
   refine YAa (YA2 (hg cl _ s3 _ fp _ s7 (zbk sub Y) H7 x u _ I7' r7 (gk _ _ _ _ (step x H7 y7))) (λ_ s8 ⟨Y8,H8,I8,q8,k8⟩=>?_) λ_ _ z=>False.elim z);refine YAa (YA2 (hi cl _ s3 _ fp _ s8 Y8 H8 _ I8 q8) (λok s9 ⟨H9,I9,q9⟩=>?_) λ_ _ z=>False.elim z);cases ok with
   |false=>exact YAf ⟨rfl,again I9 k8 q9⟩
   |true=>
    refine YAa (YAa (YA2 (he cl _ s3 _ fp _ s9 Y8 H9 _ I9 q9) (λxv s10 ⟨y,H10,I10,r10,kk,hy,hl10,hz,q10⟩=>?_) λ_ _ z=>False.elim z));subst hy;obtain⟨tk,rfl⟩:=r10;have hSI:SetInts X.w s10.heap s.heap.objs.size xs:=(I10.hok _ _ hl10).1;refine YAa (YBg (YAa (zjP hSI hz λh' sb hS'=>?_)));refine YAf (YAf ⟨rfl,again (s8:={s10 with heap:=h',toks:=s10.toks+1}) ?_ k8 q10⟩);exact I10.write (x:=s.heap.objs.size) (e:=s.heap.objs.size) (by rw[hl10];trivial) (.inl rfl) (λb o hb e=>(sb.2 b hb).trans e) (let⟨_,_,_,z,_⟩:=hS'.ex;⟨_,z.at_⟩) (zd7 hS')
 exact zlv (loop _ rfl) (T.self _ 0 _ _ _ st4 (loop _ rfl))
def zn8(hc:X.calm=true)(hS:CompScope X.N X.env.scope scope Nc sub)(hI:PI X tg iter wi)
  (hg:∀cl L s0 H0 ex,PG (zaq X Nc scope cl L s0 H0 ex) tg g) (gk:zfg sub g) (gm:zeO g)
  (hi:∀cl L s0 H0 ex,PIfs (zaq X Nc scope cl L s0 H0 ex) ifs tc) (he:∀cl L s0 H0 ex,PE (zaq X Nc scope cl L s0 H0 ex) elt te)
  (hs:∀x,foldedSetIterable iter X.env x=pure x:=by intro _;rfl):PE X (.SetComp elt [⟨tg,iter,ifs,0⟩] scope pos) (zre X.w sub wi g tc te):=by
 intro O s Y H Q I h;obtain⟨cl,hcl0,hcl,hcl2⟩:=zbK (zdx I hS);rw[arm_eval_SetComp];refine YB9 (use:=none) rfl hs hcl0 hS.kind hS.names ?_;refine thn (hI O s Y H _ I h) λxv s1 h1=>thn h1 λitv s2 h2=>?_;obtain⟨it,fp,tn,J,H2,e,I2,T,st2,f2,q⟩:=h2;subst e;refine zpU hc I2 hS hcl hcl2 T st2 f2 hg gk hi he gm q λl C H' s' m I' q' hn hC hfr=>?_;refine⟨m,hn,λh' sb=>?_⟩;have nL:C≠X.env.locals:=YBd (YAs I2.lt hC);refine⟨.ref l,H',?_,rfl,q'⟩;exact I'.turned (it:=C) (t':=s'.toks) (λb o hb e=>(sb.2 b hb).trans e) hfr nL (.inr (YAQ I2.sz hC)) (λx c e z=>by
  obtain⟨v,w⟩:=I2.cell x c e;exact absurd (YAs w.lt (by rw[z];exact hC)) (YBa _)) λp hp z=>
  absurd (YAs (YAl (I2.pin p hp).1) (by rw[z];exact hC)) (YBa _)
end
section
variable{prog:Program}{w:World}{A:Around}{E:Value->Shared->Prop}{s:Shared}
def zg1(hh:A.handled=none)(hl:s.heap.IsTuple l items)(hi:IntsAre items.toList ns)(hb:items.size+1<scanBound)
  (h:∀(h':Heap)(tk:Nat),SetInts w h' s.heap.objs.size ns->(∀b o,s.heap.get? b=some o->h'.get? b=some o)->Q (.ref s.heap.objs.size) {s with heap:=h',toks:=tk}) :
  wpAny (model prog w) A (call (.type "set") [.ref l]) Q E s:=ziV (λled R E hSI k=>by
 obtain⟨⟨ocls,odict,odata,oslots⟩,hol,hcl,nl,hdl⟩:=hl;simp only at hcl hdl;subst hcl;subst hdl;have hol':(s.heap.push (set0 led)).get? l=some {cls:=.type "tuple",dict:=odict,data:=.seq items nl,slots:=oslots}:=YAd _ hol;have hsls:=PySem.F.sub_tuple_set;have hslf:=PySem.F.sub_tuple_frozenset;have hne:(Value.type "tuple"==Value.type "dict")=false:=by decide
 have hl1:(s.heap.push (set0 led)).IsTuple l items:=⟨_,hol',rfl,nl,rfl⟩;unfold Builtin.«set.__init__» noKeywords Builtin.Frozenset.updateFrom;generalize hPI:pyIter=PI
 wp_walk
 subst hPI;refine YCE hl1 ?_;have hlS:l<s.heap.objs.size:=YAl hol;rw[show(s.heap.push (set0 led)).objs.size=s.heap.objs.size+1 from YBf _ _];refine YAa (YDk (zka hi hb hlS hSI (Walks.tuple (by simp[hh]) _ l (YAv (YA5 hlS)) items) ⟨⟨_,zrL _ _ _ rfl,rfl,rfl⟩,hl1.push _⟩ λh' tk a b=>?_));exact YAf (YAf (k h' tk a b))) h
end
def SetLen(xs:List Int)(n:Nat):Prop:=∃ks:List Int,ks.Nodup/\(∀k,k∈ks↔k∈xs)/\ks.length=n
def SetLen.uniq(x:SetLen xs n)(y:SetLen xs m):n=m:=by
 obtain⟨a,a1,a2,rfl⟩:=x;obtain⟨b,b1,b2,rfl⟩:=y;exact Nat.le_antisymm (zaB a1 λk hk=>(b2 k).mpr ((a2 k).mp hk)) (zaB b1 λk hk=>(a2 k).mpr ((b2 k).mp hk))
section
variable{X:Cx}
def zh8(hc:X.calm=true):CallR X (.type "set") (λvs H Q=>∃(p:Addr)(ns:List Int),vs=[.ref p]/\SqT X.K H p (ns.map V.int)/\ns.length+1<scanBound/\∀l,H l=none->Q (.ref l) (upd H l (SetO X.w l ns))):=by
 intro O s Y H vs us Q I r h;obtain⟨p,ns,rfl,hq,hb,q⟩:=h;obtain⟨u,rfl,rx⟩:=zda r;cases rx;obtain⟨its,r',pl,hz⟩:=I.tuple hq;have hlen:=r'.length;rw[YAc]at hlen;refine zg1 (ns:=ns) (I.ok.hd hc) (show s.heap.IsTuple p its.toArray from pl) (by simpa using zdB r') (by simp only[YAu];omega) λh' tk hS hk=>?_;exact⟨.ref s.heap.objs.size,_,I.laid hk (YAn _) (zd7 hS),rfl,q _ I.fresh⟩
def zhg:CallR X (.builtin "len") (λvs H Q=>∃(p:Addr)(ns:List Int),vs=[.ref p]/\H p=some (SetO X.w p ns)/\∀n,SetLen ns n->Q (.int n) H):=by
 intro O s Y H vs us Q I r h;obtain⟨p,ns,rfl,hq,q⟩:=h;obtain⟨u,rfl,rx⟩:=zda r;cases rx;have hS:SetInts X.w s.heap p ns:=(I.hok p _ hq).1;obtain⟨es,ep,t,r1,ai,hb,nd,hm⟩:=hS.ex;have hsb:(scanBound:Nat)<2^63:=by decide +kernel
 refine PySem.call_len_set r1.at_ ⟨rfl,rfl,rfl⟩ rfl r1.fits (by omega) ⟨.int es.size,H,I.tok _,⟨_,rfl⟩,q _ ⟨keys es,nd,hm,?_⟩⟩;unfold keys;simp
end
def Ite(K:qq)(a:Addr):It:=
 ⟨λi H=>∃xs x,SqL K H a xs/\xs[i]?=some x,λi H v H'=>∃t x,H t=none/\v=.ref t/\H'=upd H t (.tup [.int i,x])/\∀xs,SqL K H a xs->xs[i]?=some x,λi H=>∃xs,SqL K H a xs/\xs.length=i⟩
def znf{P:Program}{w:World}{K:qq}{es:List Expr}{x1:_}{pos:Pos}{e it a:Addr}(hei:e≠it)(hea:e≠a)(hai:a≠it) :
  Turn P w K (.Tuple es x1 pos) (Ite K a) [e,it] e (λi h=>(∃old,IsEnum h e it i old)/\h.IsListIter it a i)where
 mem:=by simp
 obj:=λk h st c hc=>by
  obtain⟨⟨old,h1⟩,o,h2,_,d⟩:=st;simp only[YAk,YAO,YBG]at hc;rcases hc with rfl|rfl
  .exact⟨_,h1,λv q=>by cases q⟩
  .exact⟨o,h2,λv z=>by rw[d]at z;cases z⟩
 keep:=λk h h' st q=>by
  obtain⟨⟨old,h1⟩,h2⟩:=st;exact⟨⟨old,q e (by simp) _ h1⟩,h2.at λo z=>q it (by simp) o z⟩
 item:=by
  intro X hP hw hK hc k O s Y H E I hf st hg;subst hP hw hK;obtain⟨xs,x,qa,ex⟩:=hg;obtain⟨its,r,pl,hz⟩:=I.list qa;obtain⟨⟨old,h1⟩,h2⟩:=st;have hh:X.A.in1.handled=none:=I.ok.hd hc;obtain⟨u,eu,ru⟩:=r.get ex;have k1:k<its.toArray.size:=by simpa using(YAi.mp eu).1
  refine wpAny_pyNext_enum_itemD (Draws.list hh it a hai its.toArray) h1 ⟨h2,pl.isList⟩ k1 hei (by simp only[YAk,YAO,YBG,not_or];exact⟨hei,hea⟩) λv h' tk px g1 g2 g3 g4 kk=>⟨_,rfl,?_⟩;have ev:v=u:=by rw[YCK,eu]at px;exact(Option.some.inj px).symm
  subst ev;refine wpAny_letOwnedTupleGo_enum g1 λh'' z' sb=>?_;have tz:s.heap.objs.size≠e:=YBd (YAl h1);have hn:H s.heap.objs.size=none:=I.hok.fresh (YAn _);have kp:∀b u,b∉[e,it]->s.heap.get? b=some u->h''.get? b=some u:=λb u hb q=>by
   simp only[YAk,YAO,YBG,not_or]at hb;exact sb.extBut b u hb.1 (kk b u hb.1 hb.2 q)
  have I1:Inv X O Y (upd H s.heap.objs.size (.tup [.int k,x])) {s with heap:=h'',toks:=tk+1}:=I.turnedLaid (ch:=[e,it]) kp hf (YAn _)
   ⟨by show 2<=sizeLine;decide,[.int k tk,v],.cons ⟨tk,rfl⟩ (.cons ru .nil),⟨_,sb.extBut _ _ tz g3,rfl,_,rfl⟩⟩
  refine⟨.ref s.heap.objs.size,_,I1,rfl,⟨_,x,hn,rfl,rfl,λxs' q=>by rw[I.list_inj q qa];exact ex⟩,?_,λc hc=>?_⟩
  .exact⟨⟨_,by simpa using z'⟩,g2.1.at λo q=>sb.extBut _ _ hei.symm q⟩
  .have hlt:c<s.heap.objs.size:=by
    simp only[YAk,YAO,YBG]at hc;rcases hc with rfl|rfl
    .exact YAl h1
    .obtain⟨o,q,_⟩:=h2;exact YAl q
   rw[zaf (YAv hlt)];exact(hf c hc).1
 done:=by
  intro X hP hw hK hc k O s Y H E I hf st hg;subst hP hw hK;obtain⟨xs,qa,hx⟩:=hg;obtain⟨its,r,pl,hz⟩:=I.list qa;obtain⟨⟨old,h1⟩,h2⟩:=st;have hh:X.A.in1.handled=none:=I.ok.hd hc;have hk:k=its.toArray.size:=by rw[<-hx,r.length];simp
  subst hk;refine wpAny_pyNext_enum_endD (Draws.list hh it a hai its.toArray) h1 ⟨h2,pl.isList⟩ λh' kk=>⟨rfl,?_⟩;exact I.turnedAll (t':=s.toks) (ch:=[e,it]) (λb u hb q=>by
   simp only[YAk,YAO,YBG,not_or]at hb;exact kk b u hb.2 q) hf
 self:=λ_ _ _ _ _ st h=>by
  obtain⟨⟨old,h1⟩,_⟩:=st;exact wpAny_pyIter_enum h1 h
def zsS(K:qq)(ta:TA):TI:=λY H R=>ta Y H λvs H1=>∃(a:Addr)(xs:List V),vs=[.ref a]/\SqL K H1 a xs/\R (Ite K a) H1
def zny{X:Cx}{es:List Expr}{x1:_}{tpos:Pos}{a:Expr}{ta:TA}{p pos:Pos}(hg:Gl X "enumerate")(hm:X.mg "enumerate"=none)(ha:PA X [a] ta)(hs:starEach [a] X.env=[(false,eval a X.env)]:=by rfl) :
  PI X (.Tuple es x1 tpos) (.Call (.Name "enumerate" p) [a] [] pos) (zsS X.K ta):=by
 intro O s Y H R I h;refine Call_ (zgA I hg hm boot_enumerate (YBP (thn (ha pos O s Y H _ I h) λus s1 ⟨vs,H1,I1,r1,q1⟩=>?_) hs rfl));obtain⟨l,xs,e,q1,q⟩:=q1;subst e;obtain⟨u,rfl,ru⟩:=zda r1;cases ru;obtain⟨its,r,pl,hz⟩:=I1.list q1;have lt1:l<s1.heap.objs.size:=let⟨o,n,z,_⟩:=pl;YAl z
 refine call_enumerate_list pl.isList λh' g1 g2 _ kk=>?_;refine wpAny_pyIter_enum g1 ?_;have I2:Inv X O Y H1 {s1 with heap:=h'}:=I1.kept (t':=s1.toks) kk;refine⟨_,[s1.heap.objs.size+1,s1.heap.objs.size],_,_,H1,rfl,I2,znf (YBd (YCj _)) (YBd (YA5 lt1)) (YAv lt1),⟨⟨_,g1⟩,g2⟩,λc hc=>?_,q⟩;have hle:s1.heap.objs.size<=c:=by
  simp only[YAk,YAO,YBG]at hc;rcases hc with rfl|rfl
  .exact YBH _ _
  .exact YAn _
 exact I1.fpOk hle (I1.hok.fresh hle)
def zk1{K:qq}{a:Addr}{xs:List V}{g:TG}{tb:TS}{D:Ends}{Y:St}{H:Hp}(Pv:Nat->St->Hp->Prop)(h0:Pv 0 Y H)(hl:∀i Y H,i<=xs.length->Pv i Y H->SqL K H a xs)
  (hs:∀i x t Y H,xs[i]?=some x->H t=none->Pv i Y H->g (.ref t) Y (upd H t (.tup [.int i,x])) λY2 H2=>tb {D with nx:=Pv (i+1),ct:=Pv (i+1),bk:=D.nx} Y2 H2) (hd:∀ Y H,Pv xs.length Y H->D.nx Y H) :
  ∃W:Nat->Nat->St->Hp->Prop,(∃m,W 0 m Y H)/\∀i m Y H,W i m Y H ->
   ((Ite K a).stop i H/\D.nx Y H)\/((Ite K a).go i H/\∃N:St->Hp->Prop,(∀ Y' H',N Y' H'->∃m',m'<m/\W (i+1) m' Y' H')/\∀x H',(Ite K a).yld i H x H'->g x Y H' λY2 H2=>tb {D with nx:=N,ct:=N,bk:=D.nx} Y2 H2):=by
 refine⟨λi m Y H=>m=xs.length-i/\i<=xs.length/\Pv i Y H,⟨xs.length,by simp,YAH _,h0⟩,?_⟩;rintro i m Y H ⟨rfl,hi,p⟩;have q:=hl i Y H hi p;by_cases hlt:i<xs.length
 .refine .inr ⟨⟨xs,xs[i],q,by simp[hlt]⟩,Pv (i+1),λY' H' p'=>⟨xs.length-(i+1),by omega,rfl,hlt,p'⟩,λv H' y=>?_⟩;obtain⟨t,x,hn,rfl,rfl,ex⟩:=y;exact hs i x t Y H (ex xs q) hn p
 .have e:i=xs.length:=by omega
  subst e;exact .inl ⟨⟨xs,q,rfl⟩,hd Y H p⟩
theorem zmR:∀{xs:List V}{us:List Value},xs.length=us.length->(∀(i:Nat) x u,xs[i]?=some x->us[i]?=some u->RelV x u)->Vals xs us
 |[],[],_,_=>.nil
 |[],u::us,h,_=>by simp at h
 |x::xs,[],h,_=>by simp at h
 |x::xs,u::us,h,f=>.cons (f 0 x u rfl rfl) (zmR (by simpa using h) λi a b e1 e2=>f (i+1) a b (by simpa using e1) (by simpa using e2))
section
variable{X:Cx}
def zmX:CallR X (.type "range") (λvs H Q=>∃j:Int,vs=[.int j]/\∀p,H p=none->Q (.ref p) (upd H p (.rng 0 j))):=by
 intro O s Y H vs us Q I r h;obtain⟨j,rfl,q⟩:=h;obtain⟨u,rfl,rx⟩:=zda r;obtain⟨t,rfl⟩:=rx;exact call_range_1 ⟨.ref s.heap.objs.size,_,I.laid (o:=.rng 0 j) (λb o e=>YAd _ e) (YAn _) ⟨_,_,_,YAr _ rfl⟩,rfl,q _ I.fresh⟩
def zh4(hc:X.calm=true):CallR X (.type "list") (λvs H Q=>∃(p:Addr)(j:Int),vs=[.ref p]/\H p=some (.rng 0 j)/\0<=j/\j<=1000/\∀l,H l=none->Q (.ref l) (upd H l (.lst (((List.range j.toNat).map Int.ofNat).map V.int)))):=by
 intro O s Y H vs us Q I r h;obtain⟨p,j,rfl,hq,h0,h1,q⟩:=h;obtain⟨u,rfl,rx⟩:=zda r;cases rx;obtain⟨t,u,v,e⟩:∃t u v,s.heap.get? p=some {cls:=.type "range",data:=.fields #[.int 0 t,.int j u,.int 1 v]}:=I.hok p _ hq;have hn:Builtin.Range.rangeSize 0 j 1=(j.toNat:Int):=by rw[rangeSize_one];split<;>omega
 refine call_list_range (n:=j.toNat) (I.ok.hd hc) e (small_one (by omega) (by omega) (by omega) (by omega)) hn (by omega) λh' tk acc c' kk e' hi=>?_;refine⟨.ref s.heap.objs.size,_,I.laid (t':=tk) (o:=.lst (((List.range j.toNat).map Int.ofNat).map V.int)) kk (YAn _) ⟨?_,acc.toList,c',?_,?_⟩,rfl,q _ I.fresh⟩
 .simp only[YAc,YBC];rw[YAP];omega
 .refine zmR ?_ λi x u e1 e2=>?_
  .simp only[YAc,YBC,YAZ];exact hi.1.symm
  .have hlt:i<j.toNat:=by
    have:=(YAi.mp e1).1
    simpa using this
   obtain⟨t',e3⟩:=hi.2 i u (by rw[<-e2];simp)
   have:x=.int (i:Int):=by
    rw[YAq,YAq,YC8 hlt]at e1;exact(Option.some.inj e1).symm
   subst this;exact⟨t',by rw[e3];congr 1;omega⟩
 .simpa using e'
def zsG(K:qq):R2:=λx y H Q=>∃a b xs ys,x=.ref a/\y=.ref b/\SqT K H a xs/\SqT K H b ys/\xs.length+ys.length<=sizeLine/\∀p H',Same H H'->SqT K H' p (xs++ys)->Q (.ref p) H'
def zjW:OpR X (binaryOp .Add) (zsG X.K):=by
 intro O s Y H x y v u Q I rx ry h;obtain⟨a,b,xs,ys,rfl,rfl,ha,hb,hz,q⟩:=h;by_cases hx:xs=[]
 .subst hx;cases rx;cases ry;obtain⟨its,r1,p1,_⟩:=I.tuple ha;obtain⟨its2,r2,p2,_⟩:=I.tuple hb;obtain⟨⟨cls,dd,data,sl⟩,ho,hc,n,hd⟩:=id p1;obtain⟨⟨cls2,dd2,data2,sl2⟩,ho2,hc2,n2,hd2⟩:=id p2;simp only at hc hd hc2 hd2;subst hc hd hc2 hd2;have hi:its=[]:=r1.nil_iff.mpr rfl;exact YDE ⟨_,ho,rfl⟩ ⟨_,ho2,rfl⟩ YCN YDu YCl YCd (YB8 _ _)
   (tuple_addW0 a b its.toArray its2.toArray n n2 dd dd2 sl sl2 (by simp[hi])) ⟨ho,ho2,⟨.ref b,H,I,rfl,q b H (λ_ _ e=>e) (by simpa using hb)⟩⟩
 .refine zlL O s Y H (.ref a) (.ref b) v u Q I rx ry ⟨a,b,xs,ys,rfl,rfl,ha,hb,hx,hz,λe=>?_,λ_ p hp=>?_⟩
  .subst e;exact q a H (λ_ _ e=>e) (by simpa using ha)
  .exact q p _ (λc o e=>by rw[zaf (zae e hp)];exact e) (SqT.of zac)
end
def zsW(td ty:TE):TE:=λY H Q=>td Y H λx H1=>∃a,x=.ref a/\IsD H1 a/\ty Y H1 λy H2=>∃b kvs more,y=.ref b/\a≠b/\H2 a=some (.dK kvs)/\H2 b=some (.dK more)/\kvs.length+more.length<=sizeLine/\Q .non (upd H2 a (.dK (mergeK kvs more)))
section
variable{X:Cx}{o e:Expr}{apos cpos:Pos}{td ty:TE}
def zmm(ho:PE X o td)(he:PE X e ty)(m:M1 X o "update" apos e cpos):PE X (.Call (.Attribute o "update" apos) [e] [] cpos) (zsW td ty):=by
 intro O s Y H Q I h;refine wpAny_Call_method m.base m.few m.line PySem.F.plainAttrs_dict PySem.F.slot_dict_update PySem.F.type_dict_update (thn (ho O s Y H _ I h) λu s1 ⟨x,H1,I1,rx,a,ex,d,q1⟩=>?_);subst ex;obtain rfl:u=Value.ref a:=rx;obtain⟨t1,t2,_⟩:=zrR I1 d;refine⟨t1,t2,?_⟩;rw[m.trees];refine Calls.callWith_builtin rfl (Calls.evalArgs_plain (Calls.spliced_cons (thn (he O s1 Y H1 _ I1 q1) λiv s2 ⟨y,H2,I2,ry,b,kvs,more,ey,hab,ea,eb,hz,q2⟩=>Calls.spliced_nil ?_)));subst ey;obtain rfl:iv=Value.ref b:=ry;obtain⟨z1,hd1,vs1,rel1,dd1⟩:=zlj I2.hok ea;obtain⟨z2,hd2,vs2,rel2,dd2⟩:=zlj I2.hok eb;refine call_meetsIn PySem.F.slot_dict_update dd1.typeIs PySem.F.entry_dict_update (PySem.F.args_dict_update_2 _ _) (meets_dict_update (zaH X.prog X.w) a b hab hd2) ⟨vs1,vs2,dd1,dd2,by rw[<-rel1.length,<-rel2.length];exact hz,λh' d1 d2 sb=>?_⟩;refine⟨.non,_,I2.write (x:=a) (e:=a) (o:=.dK (mergeK kvs more)) (t':=s2.toks) (by rw[ea];trivial) (.inl rfl) (λc q hc hq=>(sb.2 c hc).trans hq) (let⟨ob,_,_,q,_⟩:=d1;⟨ob,q⟩) ?_,rfl,q2⟩;exact⟨YAQ (zcR more kvs) hz,hd1,_,KV.merge rel2 rel1,d1⟩
end
theorem zc3:∀(more:List (Key×V))(kvs:List (Key×V)),(∀k∈more.map (·.1),k∉kvs.map (·.1))->(more.map (·.1)).Nodup->mergeK kvs more=kvs++more
 |[],kvs,_,_=>by unfold mergeK;simp
 |x::more,kvs,h,hn=>by
  rw[YAb,YBh]at hn;have hx:valV kvs x.1=none:=by
   cases e:valV kvs x.1 with
   |none=>rfl
   |some v=>exact absurd (znA e) (h x.1 (by simp))
  show mergeK (putK kvs x.1 x.2) more=_;rw[zkz _ hx,zc3 more _ (λk hk q=>?_) hn.2,YAJ]
  .rfl
  .rw[YAx]at q;rcases YAm.mp q with q|q
   .exact h k (by rw[YAb];exact YAj _ hk) q
   .have:k=x.1:=by simpa using q
    exact hn.1 (this▸hk)
def zdV:entryFor table "dict_itemiterator.__iter__"=some Builtin.«dict_keyiterator.__iter__»:=
 YDR (id':="dict_keyiterator.__iter__") (by kernel_rfl) (by first|rfl|decide +kernel|(unfold String.splitOn;simp +decide [String.splitOnAux])) (by decide +kernel) (by kernel_rfl)
def zhj(hit:IsItemIter s.heap it d i n ep ok ov)(h:Q (.ref it) s):wpAny (model P w) A (pyIter (.ref it)) Q E s:=by
 have hT:s.TypeIs (.ref it) "dict_itemiterator":=⟨_,hit,rfl⟩;refine YDn hT PySem.F.slot_dict_itemiterator_iter (YAU PySem.F.slot_dict_itemiterator_iter hT zdV ?_ (PySem.F.args_dict_itemiterator_iter_1 _));show wpAny _ _ (ret (.ref it)) _ _ s;exact YAf ⟨_,rfl,"dict_itemiterator",_,hT,PySem.F.slot_dict_itemiterator_next.lookup,h⟩
section
variable{X:Cx}{O:List (Addr×Obj)}{Y:St}{H:Hp}{s:Shared}
def Inv.freeze(I:Inv X O Y H s)(hd:H d=some (.dK kvs))(ho:s.heap.get? d=some o):Inv X O Y (upd H d (.frz o (.dK kvs))) s:=by
 have nd:∀b u,H b=some u->(∀q,u≠.dK q)->b≠d:=λb u e n z=>by rw[z,hd]at e;cases e;exact n _ rfl
 refine I.step (g':=s.gens) (d':=s.drawn) (t':=s.toks) (h':=s.heap) (ch:=[]) (λ_ z=>nomatch z) (λb u _ _ _ e _=>e) (λb u _ _ _ e _=>⟨u.slots,e⟩)
  (λb u _ e n=>by rw[zaf (λz=>by rw[z,hd]at n;cases n)];exact n) (λb u _ e=>⟨u,e⟩) (λb xs e=>by rw[zaf (nd b _ e (λq z=>by cases z))];exact e) (λb u xs e=>by rw[zaf (nd b _ e (λq z=>by cases z))];exact e)
  (λb ps e=>⟨#[],by rw[zaf (nd b _ e (λq z=>by cases z)),e];simp⟩) (λm hm=>hm) (λb u e=>?_) I.bare
 have st:∀c w,H c=some w->ObjOk X.prog X.w (upd H d (.frz o (.dK kvs))) s.heap c w:=λc w q=>
  (I.hok c w q).stay (λ_ _ _ z=>z) (λc' q'=>by rw[zaf (nd c' _ q' (λq z=>by cases z))];exact q') λc' xs q'=>by rw[zaf (nd c' _ q' (λq z=>by cases z))];exact q'
 by_cases hb:b=d
 .subst hb;rw[zac]at e;cases e;exact⟨ho,st b _ hd⟩
 .rw[zaf hb]at e;exact st b u e
end
theorem zjc{α β:Type}{F:α->β->Prop}:∀{l₁:List α}{l₂:List β},Paired F l₁ l₂->∀{i:Nat}{a:α}{b:β},l₁[i]?=some a->l₂[i]?=some b->F a b
 |_,_,.nil,i,a,b,h,_=>by simp at h
 |_,_,.cons r t,0,a,b,h1,h2=>by simp at h1 h2;subst h1 h2;exact r
 |_,_,.cons r t,i+1,a,b,h1,h2=>zjc t (by simpa using h1) (by simpa using h2)
def zsZ(h:keyIs k u=true):RelV (kV k) u:=by
 rcases za2 h with⟨i,t,rfl,rfl⟩|⟨x,t,rfl,rfl⟩
 .exact⟨t,rfl⟩
 .exact⟨t,rfl⟩
def Iti(d:Addr)(o:Obj)(kvs:List (Key×V)):It:=
 ⟨λi H=>i<kvs.length/\H d=some (.frz o (.dK kvs)),λi H v H'=>∃t k x,H t=none/\kvs[i]?=some (k,x)/\v=.ref t/\H'=upd H t (.tup [kV k,x]),λi H=>i=kvs.length/\H d=some (.frz o (.dK kvs))⟩
def zlc{P:Program}{w:World}{K:qq}{es:List Expr}{x1:_}{pos:Pos}{it d:Addr}{o:Obj}{kvs:List (Key×V)}{ents:Array DictEntry}{ep:Nat}(ho:o.data=.dict ents ep) :
  Turn P w K (.Tuple es x1 pos) (Iti d o kvs) [it] it (λi h=>∃ok ov,IsItemIter h it d i kvs.length ep ok ov)where
 mem:=by simp
 obj:=λk h st c hc=>by
  obtain⟨ok,ov,h1⟩:=st;rw[YAg.mp hc];exact⟨_,h1,λv q=>by cases q⟩
 keep:=λk h h' st q=>by
  obtain⟨ok,ov,h1⟩:=st;exact⟨ok,ov,q it (by simp) _ h1⟩
 item:=by
  intro X hP hw hK hc k O s Y H E I hf st hg;subst hP hw hK;obtain⟨hk,hd⟩:=hg;obtain⟨ok,ov,h1⟩:=st;obtain⟨eo,z,hS,vs,rel,o',es',ep',e',xd,dd,kk,pp,nn⟩:=I.hok d _ hd;rw[eo]at e';cases e';rw[ho]at dd;cases dd;have hlen:kvs.length=vs.length:=rel.length;obtain⟨⟨kk0,vv⟩,hvs⟩:∃p,vs[k]?=some p:=⟨_,YAe (by omega)⟩;obtain⟨⟨k0,x0⟩,hkv⟩:∃p,kvs[k]?=some p:=⟨_,YAe hk⟩;have hrel:k0=kk0/\RelV x0 vv:=zjc rel hkv hvs;obtain⟨rfl,rx⟩:=hrel;have dat:s.heap.DictAt (zaH X.prog X.w) d vs ep:=⟨o,ents,eo,xd,ho,kk,pp,nn⟩;rw[hlen]at h1;refine wpAny_pyNext_items_item (knd:=zaH X.prog X.w) h1 dat hvs λkey h' hkey g1 g2 g3 kp=>⟨_,rfl,?_⟩;refine wpAny_letOwnedTupleGo_items g1 λh'' z' sb=>?_;obtain⟨f0,f1,f2,f3,f4,f5⟩:=hf it (by simp);have tz:s.heap.objs.size≠it:=YBd (YAl h1);have hn:H s.heap.objs.size=none:=I.hok.fresh (YAn _);have kp2:∀b u,b∉[it]->s.heap.get? b=some u->h''.get? b=some u:=λb u hb q=>by
   have hb':b≠it:=λz=>hb (by simp[z]);exact sb.extBut b u hb' (kp b u hb' q)
  have I1:Inv X O Y (upd H s.heap.objs.size (.tup [kV k0,x0])) {s with heap:=h'',toks:=s.toks}:=I.turnedLaid (ch:=[it]) kp2 hf (YAn _)
   ⟨by show 2<=sizeLine;decide,[key,vv],.cons (zsZ hkey) (.cons rx .nil),⟨_,sb.extBut _ _ tz g2,rfl,_,rfl⟩⟩
  refine⟨.ref s.heap.objs.size,_,I1,rfl,⟨_,k0,x0,hn,hkv,rfl,rfl⟩,⟨_,_,by rw[hlen];exact z'⟩,λc hc=>?_⟩;rw[YAg.mp hc,zaf tz.symm];exact f0
 done:=by
  intro X hP hw hK hc k O s Y H E I hf st hg;subst hP hw hK;obtain⟨hk,hd⟩:=hg;obtain⟨ok,ov,h1⟩:=st;obtain⟨eo,z,hS,vs,rel,o',es',ep',e',xd,dd,kk,pp,nn⟩:=I.hok d _ hd;rw[eo]at e';cases e';rw[ho]at dd;cases dd;have hlen:kvs.length=vs.length:=rel.length;have dat:s.heap.DictAt (zaH X.prog X.w) d vs ep:=⟨o,ents,eo,xd,ho,kk,pp,nn⟩;rw[hlen]at h1;have hh:X.A.handled=none:=I.ok.hd hc;refine wpAny_pyNext_items_end (knd:=zaH X.prog X.w) hh h1 dat (by rw[YB3];omega) λh' eb=>⟨rfl,?_⟩;exact I.turnedAll (t':=s.toks) (ch:=[it]) (λb u hb q=>eb b u (λz=>hb (by simp[z])) q) hf
 self:=λ_ _ _ _ _ st h=>by
  obtain⟨ok,ov,h1⟩:=st;exact zhj h1 h
def zqV(td:TE):TI:=λY H R=>td Y H λx H1=>∃d kvs,x=.ref d/\H1 d=some (.dK kvs)/\∀o,R (Iti d o kvs) (upd H1 d (.frz o (.dK kvs)))
def zoz{X:Cx}{es:List Expr}{x1:_}{tpos:Pos}{o:Expr}{td:TE}{apos pos:Pos}(ho:PE X o td)(hbase:attributeBase o "items" X.env (eval o X.env)=eval o X.env:=by rfl)(hline:(apos.endLine==pos.line)=true:=by rfl) :
  PI X (.Tuple es x1 tpos) (.Call (.Attribute o "items" apos) [] [] pos) (zqV td):=by
 intro O s Y H R I h;refine wpAny_Call_method (T:="dict") (id:="dict.items") hbase rfl hline PySem.F.plainAttrs_dict PySem.F.slot_dict_items PySem.F.type_dict_items (thn (ho O s Y H _ I h) λu s1 ⟨x,H1,I1,rx,d,kvs,ex,hd,q⟩=>?_);subst ex;obtain rfl:u=Value.ref d:=rx;obtain⟨z,hS,vs,rel,dd⟩:=zlj I1.hok hd;refine⟨dd.typeIs,dd.mapOf.noDict,?_⟩;show wpAny _ _ (callWith pos (.builtin "dict.items") [.ref d] [] []) _ _ s1;obtain⟨ob,ents,ep,e1,e2,e3,e4,e5,e6⟩:=id dd;refine method_meetsIn PySem.F.slot_dict_items PySem.F.entry_dict_items rfl (PySem.evalArgs_none ⟨rfl,dd.typeIs,PySem.F.args_dict_items_1 _,_,meets_dict_items (zaH X.prog X.w) d hS,⟨vs,dd⟩,?_⟩);have k1:∀b q,s1.heap.get? b=some q->(s1.heap.push {cls:=.type "dict_items",data:=.fields #[.ref d]}).get? b=some q:=λb q hq=>YAd _ hq;have I2:Inv X O Y H1 {s1 with heap:=s1.heap.push {cls:=.type "dict_items",data:=.fields #[.ref d]}}:=I1.kept (t':=s1.toks) k1;have I3:=I2.freeze hd (k1 _ _ e1);have dat:(s1.heap.push {cls:=.type "dict_items",data:=.fields #[.ref d]}).DictAt (zaH X.prog X.w) d vs ep:=⟨ob,ents,k1 _ _ e1,e2,e3,e4,e5,e6⟩;refine wpAny_pyIter_items (knd:=zaH X.prog X.w) (s:={s1 with heap:=s1.heap.push {cls:=.type "dict_items",data:=.fields #[.ref d]}}) ⟨_,YAr _ rfl,rfl,rfl⟩ dat ?_;have I4:Inv X O Y (upd H1 d (.frz ob (.dK kvs))) {s1 with heap:=(s1.heap.push {cls:=.type "dict_items",data:=.fields #[.ref d]}).push {cls:=.type "dict_itemiterator",data:=.fields #[.none,.bool false,.ref d,.int 0 0,.int vs.length 0,.int ep 0,.none,.none]}}:=I3.kept (t':=s1.toks) λb q hq=>YAd _ hq;refine⟨_,[(s1.heap.push {cls:=.type "dict_items",data:=.fields #[.ref d]}).objs.size],_,_,_,rfl,I4,zlc (kvs:=kvs) (d:=d) e3,⟨.none,.none,?_⟩,λc hc=>?_,q ob⟩
 .rw[rel.length];exact YAr _ rfl
 .rw[YAg.mp hc];exact I3.fpOk (YAn _) (I3.hok.fresh (YAn _))
def zmg{d:Addr}{o:Obj}{kvs:List (Key×V)}{g:TG}{tb:TS}{D:Ends}{Y:St}{H:Hp}(Pv:Nat->St->Hp->Prop)(h0:Pv 0 Y H)(hl:∀i Y H,i<=kvs.length->Pv i Y H->H d=some (.frz o (.dK kvs)))
  (hs:∀i k x t Y H,kvs[i]?=some (k,x)->H t=none->Pv i Y H->g (.ref t) Y (upd H t (.tup [kV k,x])) λY2 H2=>tb {D with nx:=Pv (i+1),ct:=Pv (i+1),bk:=D.nx} Y2 H2) (hd:∀ Y H,Pv kvs.length Y H->D.nx Y H) :
  ∃W:Nat->Nat->St->Hp->Prop,(∃m,W 0 m Y H)/\∀i m Y H,W i m Y H ->
   ((Iti d o kvs).stop i H/\D.nx Y H)\/((Iti d o kvs).go i H/\∃N:St->Hp->Prop,(∀ Y' H',N Y' H'->∃m',m'<m/\W (i+1) m' Y' H')/\∀x H',(Iti d o kvs).yld i H x H'->g x Y H' λY2 H2=>tb {D with nx:=N,ct:=N,bk:=D.nx} Y2 H2):=by
 refine⟨λi m Y H=>m=kvs.length-i/\i<=kvs.length/\Pv i Y H,⟨kvs.length,by simp,YAH _,h0⟩,?_⟩;rintro i m Y H ⟨rfl,hi,p⟩;have q:=hl i Y H hi p;by_cases hlt:i<kvs.length
 .refine .inr ⟨⟨hlt,q⟩,Pv (i+1),λY' H' p'=>⟨kvs.length-(i+1),by omega,rfl,hlt,p'⟩,λv H' y=>?_⟩;obtain⟨t,k,x,hn,ex,rfl,rfl⟩:=y;exact hs i k x t Y H ex hn p
 .have e:i=kvs.length:=by omega
  subst e;exact .inl ⟨⟨rfl,q⟩,hd Y H p⟩
def zg8:splitId "dict.__len__"=some ("dict","__len__"):=by decide +kernel
section
variable{prog:Program}{w:World}{A:Around}{E:Value->Shared->Prop}{s:Shared}
theorem zeT{α β:Type}{F:α->β->Prop}:∀{l₁:List α}{l₂:List β},Paired F l₁ l₂->∀{i:Nat}{a:α}{b:β},l₁[i]?=some a->l₂[i]?=some b->F a b
 |_,_,.nil,i,a,b,h,_=>by simp at h
 |_,_,.cons r t,0,a,b,h1,h2=>by simp at h1 h2;subst h1 h2;exact r
 |_,_,.cons r t,i+1,a,b,h1,h2=>zeT t (by simpa using h1) (by simpa using h2)
def zlJ:Key->Int
 |.inl i=>i
 |.inr _=>0
def ziE(hh:A.handled=none)(hS:(a==sysModules)=false)(dd:s.heap.DictOf (zaH prog w) a vs)(hk:∀p∈vs,∃i,p.1=Sum.inl i)(hz:vs.length<=60)
  (h:∀us h' tk,IntsAre us (vs.map λp=>zlJ p.1)->(∀b o,s.heap.get? b=some o->h'.get? b=some o)->s.heap.objs.size<h'.objs.size->Q us {s with heap:=h',toks:=tk}) :
  wpAny (model prog w) A (collect (.ref a)) Q E s:=by
 obtain⟨ob,ents,ep,e1,e2,e3,e4,e5,e6⟩:=id dd;unfold collect;refine YAa (YDk (YBv entry_proto_collect' ?_));show wpAny _ _ (do again (.builtin "list.__iadd__" ⟨[<-newList [],.ref a],[]⟩)) _ _ s;refine YAa (YCD (YAf ⟨YDh _ (by decide +kernel),YBv entry_list_iadd' ?_⟩));show wpAny _ A.in1 (Builtin.List.listExtendWith (.ref s.heap.objs.size) (.ref a) (.ref s.heap.objs.size)) _ _ {s with heap:=s.heap.push (seqObj "list" #[] 0)};have alt:a<s.heap.objs.size:=YAl e1;have dat:(s.heap.push (seqObj "list" #[] 0)).DictAt (zaH prog w) a vs ep:=⟨ob,ents,YAd _ e1,e2,e3,e4,e5,e6⟩;have hTa:Shared.TypeIs {s with heap:=s.heap.push (seqObj "list" #[] 0)} (.ref a) "dict":=dat.dictOf.typeIs;unfold Builtin.List.listExtendWith;refine YAa (YCn hTa ?_);have h1:Builtin.List.listSameRef (.ref s.heap.objs.size) (.ref a)=false:=by simp[Builtin.List.listSameRef,YBd alt]
 have h2:(Value.type "dict"==Value.type "list")=false:=by decide
 have h3:(Value.type "dict"==Value.type "tuple")=false:=by decide
 simp only[h1,h2,h3,Bool.or_false,YAX,YBX];refine YAa (wpAny_pyIter_dict (s:={s with heap:=s.heap.push (seqObj "list" #[] 0)}) hS dat ?_);have zpush:(s.heap.push (seqObj "list" #[] 0)).objs.size=s.heap.objs.size+1:=YBf ..;generalize hIt:(s.heap.push (seqObj "list" #[] 0)).objs.size=it at *;have k2:∀b o,(s.heap.push (seqObj "list" #[] 0)).get? b=some o->((s.heap.push (seqObj "list" #[] 0)).push {cls:=.type "dict_keyiterator",data:=.fields #[.ref a,.int 0 0,.int vs.length 0,.int ep 0]}).get? b=some o:=λb o e=>YAd _ e;have hit0:((s.heap.push (seqObj "list" #[] 0)).push {cls:=.type "dict_keyiterator",data:=.fields #[.ref a,.int 0 0,.int vs.length 0,.int ep 0]}).IsKeyIter it a 0 vs.length ep:=⟨_,by rw[<-hIt];exact YAr _ rfl,rfl,rfl⟩;generalize ((s.heap.push (seqObj "list" #[] 0)).push {cls:=.type "dict_keyiterator",data:=.fields #[.ref a,.int 0 0,.int vs.length 0,.int ep 0]})=h2' at *;have dat2:h2'.DictAt (zaH prog w) a vs ep:=dat.at' λo e=>k2 _ _ e;have hTb:Shared.TypeIs {s with heap:=h2'} (.ref a) "dict":=dat2.dictOf.typeIs;refine YAa (YAV ?_);unfold Builtin.List.listLengthHint;refine YAa (YC3 hTb PySem.F.slot_dict_len.lookup ?_);dsimp only;rw[zg8];dsimp only;refine YAa (YCx hTb isSubtype_dict_dict ?_);refine zpi (by decide) ?_;refine zkE (by decide +kernel) ?_;refine YAa (YCn hTb ?_);refine YAf ?_;refine zkE (by decide +kernel) ?_;refine YAa (YBO ?_);have hS1:h2'.get? s.heap.objs.size=some {cls:=.type "list",data:=.seq #[]}:=k2 _ _ (YAr _ rfl);refine YAa ?_;show wpAny _ A.in1 (updateSeq s.heap.objs.size (·.push .none) >>=λ_=>updateSeq s.heap.objs.size (·.pop)) _ _ _;refine YAa (YC7 (s:={s with heap:=h2'}) hS1 rfl ?_);have hS2:=YBq (Obj.mapSeq (·.push Value.none)) hS1 rfl;refine YC7 (hz:=by seq_fits) hS2 rfl ?_;have hS3:=YBq (Obj.mapSeq (·.pop)) hS2 rfl;have oth:∀b o,b≠s.heap.objs.size->h2'.get? b=some o->((h2'.update s.heap.objs.size (Obj.mapSeq (·.push Value.none))).update s.heap.objs.size (Obj.mapSeq (·.pop))).get? b=some o:=λb o hb e=>
  (YBB _ _ (Ne.symm hb)).trans ((YBB _ _ (Ne.symm hb)).trans e)
 have nit:it≠s.heap.objs.size:=by rw[zpush];exact YBd (YCj _)
 have nS:s.heap.objs.size∉[it,a]:=by
  simp only[YAk,YAO,YBG,not_or];exact⟨nit.symm,YBd alt⟩
 have nia:a≠it:=by rw[zpush];exact YAv (YA5 alt)
 have W:=(Walks.dictKeys (prog:=prog) (w:=w) (A:=A.in1) (knd:=zaH prog w) hh it a nia vs ep).toS;have x3:((h2'.update s.heap.objs.size (Obj.mapSeq (·.push Value.none))).update s.heap.objs.size (Obj.mapSeq (·.pop))).IsKeyIter it a 0 vs.length ep/\((h2'.update s.heap.objs.size (Obj.mapSeq (·.push Value.none))).update s.heap.objs.size (Obj.mapSeq (·.pop))).DictAt (zaH prog w) a vs ep:=
  ⟨hit0.at λo e=>oth _ _ nit e,dat2.at' λo e=>oth _ _ (YAv alt) e⟩
 refine YAf ⟨YCC PySem.F.plain_extend_loop _,codeAny_extend_loopS W (by rw[YAP];omega) _ nS _ vs.length 0 _ _ _ rfl (YAH _) x3 hS3 (ItemsOf.nil _) λs' acc' c' hm' hS' hacc=>?_⟩;refine YAa (wpAny_load hS' ?_);refine YAf ?_;have hI:IntsAre acc'.toList (vs.map λp=>zlJ p.1):=by
  have gen:∀(us:List Value)(ns:List Int),us.length=ns.length->(∀(i:Nat) u n,us[i]?=some u->ns[i]?=some n->∃t,u=.int n t)->IntsAre us ns:=by
   intro us
   induction us with
   |nil=>intro ns hl _;cases ns with
    |nil=>exact .nil
    |cons _ _=>simp at hl
   |cons u us ih=>
    intro ns hl hf;cases ns with
    |nil=>simp at hl
    |cons n ns=>
     obtain⟨t,e⟩:=hf 0 u n rfl rfl;subst e;exact .cons n t (ih ns (by simpa using hl) λi u' n' h1 h2=>hf (i+1) u' n' (by simpa using h1) (by simpa using h2))
  refine gen _ _ (by rw[YAZ,hacc.1,YAc]) λi u n hu hn=>?_;obtain⟨k,x,e1',e2'⟩:=hacc.2 i u (by rw[<-YBF];exact hu);rw[YAq,e1']at hn;have hn':zlJ k=n:=Option.some.inj hn;obtain⟨j,ej⟩:=hk _ (YAz e1');have ej':k=Sum.inl j:=ej;subst ej';rcases za2 (show keyIs (Sum.inl j) u=true from e2')with⟨i',t,h1',h2'⟩|⟨x',t,h1',h2'⟩
  .cases h1';refine⟨t,?_⟩;rw[h2',<-hn'];rfl
  .cases h1'
 obtain⟨hh',g',d',tk',o'⟩:=s';have eg:g'=s.gens:=hm'.gens;have ed:d'=s.drawn:=hm'.drawn;have eo:o'=s.os:=hm'.os;subst eg ed eo;refine h acc'.toList hh' tk' hI (λb o e=>?_) (YAl hS');have hb1:=YAl e;exact hm'.heap b o (by
  simp only[YAk,YAO,YBG,not_or];exact⟨YAv hb1,by rw[zpush];exact YAv (YA5 hb1)⟩) (oth b o (YAv hb1) (k2 b o (YAd _ e)))
def zgk(hh:A.handled=none)(hS:(a==sysModules)=false)(dd:s.heap.DictOf (zaH prog w) a vs)(hk:∀p∈vs,∃i,p.1=Sum.inl i)(hz:vs.length<=60)(hnd:(vs.map λp=>zlJ p.1).Nodup)
  (h:∀l (out:List Value) ns' h' tk n,IntsAre out ns'->ns'.Pairwise (·<·)->(∀k,k∈ns'↔k∈vs.map λp=>zlJ p.1)->s.heap.objs.size<=l->h'.get? l=some {cls:=.type "list",data:=.seq out.toArray n} ->
   (∀b o,s.heap.get? b=some o->h'.get? b=some o)->Q (.ref l) {s with heap:=h',toks:=tk}) :
  wpAny (model prog w) A (call (.builtin "sorted") [.ref a]) Q E s:=by
 refine YCu kind_sorted plain_sorted entry_sorted (args_sorted1 _) ?_;unfold Builtin.«sorted»;refine YAa (m:=checkCount "sorted" 1 1 _) (YAf ?_);refine YAa (ziE (A:=A.in1) hh hS dd hk hz λus h1 tk hI k1 hz1=>?_);have hl:us.length<64:=by
  have e:=hI.length;rw[YAc]at e;omega
 refine YAa (YCD ?_ (by rw[YAP];omega));have hoL:(h1.push (seqObj "list" us.toArray 0)).get? h1.objs.size=some (seqObj "list" us.toArray 0):=YAr _ rfl;refine YAa (YAV (YAU YDU ⟨_,hoL,rfl⟩ YDI (list_sort_tree hoL hI hl λout ns' a1 a2 a3=>⟨_,rfl,?_⟩) (YDV _)));refine YAf ⟨_,rfl,?_⟩;obtain⟨n,hat⟩:=sortedHeap_at (out:=out) hoL;refine h h1.objs.size out.toList ns' _ tk n a1 ?_ (λk=>a2.mem_iff) (YDb hz1) hat λb o e=>?_
 .have nd':ns'.Nodup:=a2.nodup_iff.mpr hnd;exact(YA1.mpr λi j hi hj hij=>by
   have q1:=YA1.mp a3 i j hi hj hij;have q2:ns'[i]≠ns'[j]:=λz=>absurd ((YDw nd').mp z) (YAv hij);omega)
 .have hb:=YAl (k1 b o e);rw[sortedHeap_old (YAv hb) (by rw[YDQ];exact YA5 hb)];exact YAd _ (k1 b o e)
end
section
variable{X:Cx}
noncomputable def zo9:List V->Hp->VK->Prop:=λvs H Q=>∃(p:Addr)(ks:List (Int×V)),vs=[.ref p]/\H p=some (.dK (ks.map λk=>(Sum.inl k.1,k.2)))/\ks.length<=60/\(ks.map (·.1)).Nodup /\
  ∀(l:Addr)(ns:List Int),H l=none->ns.Pairwise (·<·)->(∀k:Int,k∈ns↔k∈ks.map (·.1))->Q (.ref l) (upd H l (.lst (ns.map V.int)))
def zjs(hc:X.calm=true):CallR X (.builtin "sorted") zo9:=by
 intro O s Y H vs us Q I r h;obtain⟨p,ks,rfl,hq,hb,hnd,q⟩:=h;obtain⟨u,rfl,rx⟩:=zda r;cases rx;obtain⟨z,hS,ws,rel,dd⟩:=zlj I.hok hq;have hlen:ks.length=ws.length:=by have:=rel.length;rwa[YAc]at this
 have hkeys:ws.map (λp=>zlJ p.1)=ks.map (·.1):=by
  apply YBU
  .rw[YAc,YAc,hlen]
  .intro i h1 h2;rw[YAc]at h1 h2;have e:=Paired.mapP rel (G:=λa b=>a.1=b.1) λa b h=>h.1
   have:=zeT e (i:=i) (a:=(Sum.inl ks[i].1,ks[i].2)) (b:=ws[i]) (by rw[YAq,YAe h2];rfl) (YAe h1)
   rw[YBV,YBV,<-this];rfl
 have hin:∀p∈ws,∃i,p.1=Sum.inl i:=λy hy=>by
  obtain⟨i,hi⟩:=YBK hy;have h1:=(YAi.mp hi).1;have e:=Paired.mapP rel (G:=λa b=>a.1=b.1) λa b h=>h.1
  have:=zeT e (i:=i) (a:=(Sum.inl ks[i].1,ks[i].2)) (b:=y) (by rw[YAq,YAe (by omega)];rfl) hi
  exact⟨_,this.symm⟩
 refine zgk (I.ok.hd hc) hS dd hin (by omega) (by rw[hkeys];exact hnd) λl out ns' h' tk n hI hp hm hl he hk=>?_;have hn:H l=none:=I.hok.fresh hl;have hle:(ns'.map V.int).length<=sizeLine:=by
  have:=zaB (hp.imp λh=>YDJ h) λx hx=>(hm x).mp hx
  rw[YAc]at this;rw[YAc,YAP];omega
 refine⟨.ref l,upd H l (.lst (ns'.map V.int)),?_,rfl,q l ns' hn hp λk=>by rw[hm k,hkeys]⟩;exact I.laid (t':=tk) hk hl ⟨hle,out,n,zg4 hI,he⟩
end
end L2
namespace HT
open PySem PySem.Spec PyProof.Rows
section
variable{prog:Program}{w:World}{A:Around}{E:Value->Shared->Prop}{s:Shared}
def getItem_tuple_whole{t sl:Addr}{items:Array Value}{vl vu:Value}{lo hi:Option Int}{Q:Value->Shared->Prop}(ht:IsTup s.heap t items)(hs:s.heap.IsSliceOf sl vl vu .none)(pl:IsPart vl lo)(pu:IsPart vu hi)
  (hw:sIx items.size 0 lo=0/\sIx items.size items.size hi=items.size)
  (h:Q (.ref t) s):wpAny (model prog w) A (getItem (.ref t) (.ref sl)) Q E s:=by
 obtain⟨os,hos,hcs,hds⟩:=id hs;have hTs:s.TypeIs (.ref sl) "slice":=⟨os,hos,hcs⟩;unfold getItem
 try with_reducible refine YAV ?_
 first|refine YAa (YAf ?_)|skip
 refine YAa (YDm ht.typeIs (by decide) ?_);refine YAa (YA0 (name:=Str.ofString "__getitem__") ht.typeIs YAL
  (YAU YAL ht.typeIs YC1 ?_ (YDf _ _)))
 show wpAny _ _ (Builtin.Tuple.tupleItemsOf (.ref t) >>= _) _ _ s;refine YAa (tupleItemsOf_ ht ?_);refine YAa (YCn hTs ?_);rw[if_pos (by decide)];refine YAa (zc6 hs pl pu ?_);have hyes:((((sIx items.size 0 lo:Nat):Int)==0&&(1:Int)==1&&(sIx items.size items.size hi-sIx items.size 0 lo)==items.size)=true):=by
  rw[hw.1,hw.2];simp
 show wpAny _ _ (if (((sIx items.size 0 lo:Nat):Int)==0&&(1:Int)==1&&(sIx items.size items.size hi-sIx items.size 0 lo)==items.size)=true then _ else _) _ _ s;rw[if_pos hyes];unfold Builtin.Tuple.tupleIsExact;refine YAa (YAa (YCn ht.typeIs (YAf ?_)));rw[if_pos (by decide)];refine YAa (YBO ?_);exact YAf ⟨_,rfl,YAf h⟩
def zoV(xs:List Value):(List.range xs.length).filterMap (λ(m:Nat)=>xs.toArray[(((xs.length:Int)-1)+(m:Int)*(-1)).toNat]?)=xs.reverse:=by
 apply List.ext_getElem?;intro i;have e:∀k,k<xs.length->(λ(m:Nat)=>xs.toArray[(((xs.length:Int)-1)+(m:Int)*(-1)).toNat]?) k=xs[xs.length-1-k]?:=λk hk=>by
  have:(((xs.length:Int)-1)+(k:Int)*(-1)).toNat=xs.length-1-k:=by omega
  show xs.toArray[_]?=_;rw[this];simp
 have gen:∀n,n<=xs.length->(List.range n).filterMap (λ(m:Nat)=>xs.toArray[(((xs.length:Int)-1)+(m:Int)*(-1)).toNat]?)=(List.range n).map λm=>xs.reverse[m]?.getD .none:=by
  intro n
  induction n with
  |zero=>intro _;rfl
  |succ n ih=>
   intro hn;rw[YDH,List.filterMap_append,YAx,ih (by omega)];congr 1;have h1:=e n (by omega);have h2:xs.reverse[n]?=xs[xs.length-1-n]?:=List.getElem?_reverse (by omega);have h3:xs[xs.length-1-n]?=some xs[xs.length-1-n]:=YAe (by omega);have h1':xs.toArray[(((xs.length:Int)-1)+(n:Int)*(-1)).toNat]?=xs[xs.length-1-n]?:=h1;rw[YAY,h1',h3,YAb,h2,h3];rfl
 rw[gen _ (YAn _)];by_cases hi:i<xs.length
 .rw[YAq,YC8 hi]
  have:xs.reverse[i]?=some (xs.reverse[i]'(by simpa using hi)):=YAe (by simpa using hi)
  show some (xs.reverse[i]?.getD Value.none)=_;rw[this];rfl
 .rw[YCp (by simpa using YDy hi),YCp (by simpa using YDy hi)]
def getItem_tuple_rev{t sl:Addr}{items:List Value}{u:Tok}{Q:Value->Shared->Prop}(ht:IsTup s.heap t items.toArray)(hs:s.heap.IsSliceOf sl .none .none (.int (-1) u))
  (h:Q (.ref s.heap.objs.size) {s with heap:=s.heap.push {cls:=.type "tuple",data:=.seq items.reverse.toArray}})
  (hsz:items.length<=sizeLine):wpAny (model prog w) A (getItem (.ref t) (.ref sl)) Q E s:=by
 have htake:sizeOk (.seq items.reverse.toArray):=by
  show items.reverse.toArray.size<=sizeLine;rw[YAu,YCz];exact hsz
 obtain⟨os,hos,hcs,hds⟩:=id hs;have hTs:s.TypeIs (.ref sl) "slice":=⟨os,hos,hcs⟩;unfold getItem
 try with_reducible refine YAV ?_
 first|refine YAa (YAf ?_)|skip
 refine YAa (YDm ht.typeIs (by decide) ?_);refine YAa (YA0 (name:=Str.ofString "__getitem__") ht.typeIs YAL
  (YAU YAL ht.typeIs YC1 ?_ (YDf _ _)))
 show wpAny _ _ (Builtin.Tuple.tupleItemsOf (.ref t) >>= _) _ _ s;refine YAa (tupleItemsOf_ ht ?_);refine YAa (YCn hTs ?_);rw[if_pos (by decide)];have ap:∀{Q':Int×Int×Nat->Shared->Prop},Q' ((items.length:Int)-1,-1,items.length) s->wpAny (model prog w) A.in1 (Builtin.Slice.sliceApplied (.ref sl) (pure (items.toArray.size:Int))) Q' E s:=by
  intro Q' h';unfold Builtin.Slice.sliceApplied Builtin.Slice.sliceFields;refine YAa (YAa (YA8 hos hds (x:=.none) rfl (YAa (YA8 hos hds (x:=.none) rfl (YAa (YA8 hos hds (x:=.int (-1) u) rfl (YAf ?_)))))));refine YAa (slicePart_int ?_);show wpAny _ _ (if ((-1:Int)==0)=true then _ else _) _ _ s;rw[if_neg (by decide)];refine YAa (YDj (YAa (YDj (YAa (YAf ?_)))));show wpAny _ _ (match Builtin.Slice.sliceAdjust none none (-1) (items.toArray.size:Int)with|(lo,hi)=>pure (lo,(-1:Int),Builtin.Slice.slicePlaces lo hi (-1))) _ _ s;have e1:Builtin.Slice.sliceAdjust none none (-1) (items.toArray.size:Int)=((items.length:Int)-1,-1):=by
   unfold Builtin.Slice.sliceAdjust;simp
  rw[e1];show wpAny _ _ (pure ((items.length:Int)-1,(-1:Int),Builtin.Slice.slicePlaces ((items.length:Int)-1) (-1) (-1))) _ _ s;have e2:Builtin.Slice.slicePlaces ((items.length:Int)-1) (-1) (-1)=items.length:=by
   unfold Builtin.Slice.slicePlaces;have h1:¬ ((-1:Int)>0):=by omega
   simp only[h1,YBX,Int.neg_neg,Int.ediv_one];split<;>omega
  rw[e2];exact YAf h'
 refine YAa (ap ?_);have hno:¬ ((((items.length:Int)-1)==0&&(-1:Int)==1&&items.length==items.toArray.size)=true):=by
  intro q;rw[YAI,YAI]at q;exact absurd q.1.2 (by decide)
 show wpAny _ _ (if (((items.length:Int)-1)==0&&(-1:Int)==1&&items.length==items.toArray.size)=true then _ else _) _ _ s;rw[if_neg hno,zoV];first
  |exact YAa (m:=Builtin.Tuple.tupleExact _) (YAS (YAf ⟨_,rfl,YAf h⟩) htake)
  |exact YAa (m:=Builtin.Tuple.tupleExact _) (YAS (YAa (YAf (YAf ⟨_,rfl,YAf h⟩))) htake)
  |exact YAa (YAa (m:=Builtin.Tuple.tupleExact _) (YAS (YAf (YAf ⟨_,rfl,YAf h⟩)) htake))
  |exact YAa (YAa (m:=Builtin.Tuple.tupleExact _) (YAS (YAf ⟨_,rfl,YAf h⟩) htake))
end
end HT
namespace L2
open PySem PySem.Spec PyProof.Rows
section
variable{X:Cx}
def rSlG(K:qq):V->Option Int->Option Int->Hp->VK->Prop:=λx lo hi H Q=>∃a xs,x=.ref a/\SqT K H a xs/\∀p H',Same H H'->SqT K H' p (cutV xs lo hi)->Q (.ref p) H'
def zlO:SlR X (rSlG X.K):=by
 intro O s Y H x v vl vu lo hi sl Q I rx hs pl pu h;obtain⟨a,xs,rfl,hx,q⟩:=h;by_cases hw:HT.sIx xs.length 0 lo=0/\HT.sIx xs.length xs.length hi=xs.length
 .cases rx;obtain⟨its,r,ht,hz⟩:=I.tuple hx;have hlen:its.toArray.size=xs.length:=by rw[YAu];exact r.length.symm
  refine⟨"tuple",_,YAL.lookup,ht.typeIs,?_⟩;refine HT.getItem_tuple_whole ht hs pl pu (by rw[hlen];exact hw) ?_;refine⟨.ref a,H,I,rfl,q a H (λ_ _ e=>e) ?_⟩
  have:cutV xs lo hi=xs:=by unfold cutV;rw[hw.1,hw.2];simp
  rw[this];exact hx
 .exact zpa O s Y H (.ref a) v vl vu lo hi sl Q I rx hs pl pu ⟨a,xs,rfl,hx,hw,λp hp=>q p _ (λc o e=>by rw[zaf (zae e hp)];exact e) (SqT.of zac)⟩
def zsY(K:qq)(te:TE)(ts:TE):TE:=λY H Q=>te Y H λx H1=>ts Y H1 λy H2=>∃a xs,x=.ref a/\y=.int (-1)/\SqT K H2 a xs/\∀p,H2 p=none->Q (.ref p) (upd H2 p (.tup xs.reverse))
def zos(r:Vals xs us):Vals xs.reverse us.reverse:=by
 induction r with
 |nil=>exact .nil
 |cons h t ih=>rw[YDr,YDr];exact ih.append (.cons h .nil)
def zqf{e st:Expr}{te ts:TE}{p2 pos:Pos}(he:PE X e te)(hst:PE X st ts):PE X (.Subscript e (.Slice none none (some st) p2) pos) (zsY X.K te ts):=by
 intro O s Y H Q I h;refine Subscript_ (thn (he O s Y H _ I h) λv s1 ⟨x,H1,I1,r1,q1⟩=>?_);refine wpAny_Slice ?_;rw[evalPart_none,evalPart_some];refine YAf (YAf (thn (hst O s1 Y H1 _ I1 q1) λvs s2 ⟨y,H2,I2,r2,q2⟩=>?_));obtain⟨a,xs,rfl,rfl,hx,q⟩:=q2;cases r1;obtain⟨t,rfl⟩:=r2;have I4:Inv X O Y H2 {s2 with heap:=s2.heap.push {cls:=.type "slice",data:=.fields #[.none,.none,.int (-1) t]}}:=I2.kept (t':=s2.toks) λb ob q=>YAd _ q;show wpAny (model X.prog X.w) X.A (subscriptTail e (.Slice none none (some st) p2) (.ref a) (.ref s2.heap.objs.size)) (EP X O Y Q) X.xe {s2 with heap:=s2.heap.push {cls:=.type "slice",data:=.fields #[.none,.none,.int (-1) t]}};obtain⟨its,r,ht,hz⟩:=I4.tuple hx;have hlen:=r.length;refine tail_any (ops:=[.ref a,.ref s2.heap.objs.size]) ht.typeIs YAL.lookup ?_ (by with_unfolding_all rfl);refine HT.getItem_tuple_rev ht (Heap.IsSliceOf.new ..) ?_ (by omega);refine⟨.ref _,_,I4.laid (t':=s2.toks) (o:=.tup xs.reverse) (λb ob q=>YAd _ q) (YAn _) ?_,rfl,q _ (I4.hok.fresh (YAn _))⟩;exact⟨by rw[YCz];exact hz,_,zos r,IsTup.new _ _⟩
end
section
variable{prog:Program}{w:World}{A:Around}{E:Value->Shared->Prop}{s:Shared}
theorem ziS(hne:t≠it):∀(n i:Nat)(s:Shared)(Q:List Value->Shared->Prop),s.heap.IsListIter it t i->s.heap.IsList t items->i+n<=items.size ->
  (∀h',h'.IsListIter it t (i+n)->Heap.SameBut it s.heap h'->Q ((items.toList.drop i).take n) {s with heap:=h'})->wpAny (model prog w) A (draw (.ref it) n) Q E s
 |0,i,s,Q,hit,_,_,hQ=>by
  show wpAny _ _ (pure []) Q E s;exact YAf (by simpa using hQ s.heap hit (Heap.SameBut.refl ..))
 |n+1,i,s,Q,hit,ht,hle,hQ=>by
  have hlt:i<items.size:=by omega
  show wpAny _ _ (pyNext (.ref it) >>= _) Q E s;refine YAa (wpAny_pyNext_list_item hit ht (x:=items[i]) (by simp[hlt]) λh₁ hit₁ hs₁=>?_);refine YAa (YAV (ziS hne n (i+1) _ _ hit₁ (ht.extBut hs₁.extBut hne) (by omega) λh₂ hit₂ hs₂=>YAf ?_));have hd:items.toList.drop i=items[i]::items.toList.drop (i+1):=by simp[YAW,hlt]
  have:=hQ h₂ (by rw[show i+(n+1)=i+1+n by omega];exact hit₂) (hs₁.trans hs₂)
  rw[hd,YCf]at this;exact this
def zfa(hh:A.handled=none)(ht:s.heap.IsList t items)
  (hQ:∀h',Heap.ExtBut s.heap.objs.size s.heap h'->Q items.toList {s with heap:=h'}):wpAny (model prog w) A (unpackItems (.ref t) items.size none) Q E s:=by
 have hlt:t≠s.heap.objs.size:=by obtain⟨o,ho,_⟩:=ht;exact YAv (YAl ho)
 unfold unpackItems;refine YAa ?_
 .unfold notIterableAtAll;refine YAa (YC3 ht.typeIs slot_list_iter.lookup ?_);refine YAf ?_;simp only[YAX,YBX];refine YAa (YAV (YB6 ht ?_));have ht0:=ht.push {cls:=.type "list_iterator",data:=.fields #[.ref t,.int 0 0]};refine YAa (YAV (ziS hlt items.size 0 _ _ ⟨_,YAr _ rfl,rfl,rfl⟩ ht0 (by omega) λh₁ hit₁ hs₁=>?_));have hall:List.take items.size (List.drop 0 items.toList)=items.toList:=by
   rw[List.drop_zero];exact YCH (by simp)
  rw[hall];rw[if_neg (by simp)];have ht₁:h₁.IsList t items:=ht0.extBut hs₁.extBut hlt;refine YAa (YAV (wpAny_pyNext_list_end hh hit₁ ht₁ (by simp) λh₂ he₂=>?_));simp only[Option.isSome_none,YAX,YBX];refine YAf (hQ h₂ λb o hb e=>he₂ b o hb (hs₁.extBut b o hb (YAd _ e)))
def zeX{x1}(hh:A.handled=none)(ht:s.heap.IsList t items)
  (hn:(assignEach elts env).length=items.size) (hstar:(assignEach elts env).findIdx? (·.1)=none)
  (h:∀h',Heap.ExtBut s.heap.objs.size s.heap h'->wpAny (model prog w) A (assignInOrder ((assignEach elts env).map (·.2)) items.toList) Q E {s with heap:=h'}) :
  wpAny (model prog w) A (assign (.Tuple elts x1 pos) env (.ref t)) Q E s:=by
 rw[assign_Tuple];refine YAa (YBg ?_);unfold unpack;rw[hn,hstar];exact YAa (YAV (zfa hh ht h))
end
def gSeq(K:qq)(n:Nat)(t:TGs):TG:=λv Y H Q=>∃a xs,v=.ref a/\(SqT K H a xs\/SqL K H a xs)/\xs.length=n/\t xs Y H Q
def zbN(hc:X.calm=true)(h:PGs X es t)
  (hn:(assignEach es X.env).length=n:=by rfl) (hst:(assignEach es X.env).findIdx? (·.1)=none:=by rfl):PG X (.Tuple es k pos) (gSeq X.K n t):=by
 intro O s Y H v u Q I r hw;obtain⟨a,xs,e1,hq,hl,hw⟩:=hw;rcases hq with hq|hq
 .exact zcO hc h hn hst O s Y H v u Q I r ⟨a,xs,e1,hq,hl,hw⟩
 .subst e1;cases r;obtain⟨its,rv,ht,hz⟩:=I.list hq;refine zeX (I.ok.hd hc) ht.isList (by simp[hn,<-hl,rv.length]) hst λh' hx=>?_;have I1:Inv X O Y H {s with heap:=h'}:=I.kept (t':=s.toks) λb o e=>hx b o (YAv (YAl e)) e;exact h O _ Y H xs _ Q I1 (by simpa using rv) hw
def zrI{K:qq}{n:Nat}{t:TGs}(h:zfw t):zeO (gSeq K n t):=λv Y H Q Q' f ⟨a,xs,e,s,l,q⟩=>⟨a,xs,e,s,l,h _ _ _ _ _ f q⟩
def zr9{K:qq}{sub:List (Option Nat)}{n:Nat}{t:TGs}(h:zgE sub t):zfg sub (gSeq K n t):=λv Y H Q ⟨a,xs,e,s,l,q⟩=>⟨a,xs,e,s,l,h _ _ _ _ q⟩
section
variable{P:Program}{w:World}{A:Around}{E:Value->Shared->Prop}{s:Shared}{z a b i j:Addr}{f g:List Addr}{n m k:Nat}{F1 F2:Nat->Value->Prop}{S1 S2:Nat->Heap->Prop}
def zhd(qp:ZAp z a b i j f g)(D1:Draws P w A i f n F1 S1)(D2:Draws P w A j g m F2 S2)(hz:IsZip s.heap z a b .none)(ha:IsPair s.heap a (.ref i) (.ref j))(hb:IsPair s.heap b u v)
  (s1:S1 m s.heap) (s2:S2 m s.heap) (k1:m<n)
  (q:∀h' tk e,(∀c o,c≠z->c≠b->c≠i->c≠j->s.heap.get? c=some o->h'.get? c=some o)->(∃o,h'.get? e=some o/\o.cls=.type "StopIteration")->E (.ref e) {s with heap:=h',toks:=tk}) :
  wpAny (model P w) A (Builtin.«zip.__next__» ⟨[.ref z],[]⟩) Q E s:=by
 show wpAny _ _ (field (.ref z) 2 >>= _) _ _ _;refine YAa (YA8 hz rfl (x:=.bool false) rfl ?_);show wpAny _ _ (field (.ref z) 3 >>= _) _ _ _;refine YAa (YA8 hz rfl (x:=.ref a) rfl (YAa (YBt ha rfl ?_)));show wpAny _ _ (Builtin.SmallTypes.ownedTupleIsFree (.ref z) >>= _) _ _ _;refine YAa ?_;unfold Builtin.SmallTypes.ownedTupleIsFree;refine YAa (YA8 hz rfl (x:=.none) rfl (YAf ?_));simp only[YCO];refine YAa (YBO (YAa (YA8 hz rfl (x:=.ref b) rfl (YAa (YAR hz (by simp) λh1 z1 e1=>?_)))))
 replace z1:IsZip h1 z a b .ellipsis:=z1
 refine YAa ?_;simp only[YDA,YDK,YC4,YDW];refine YAa (YAa (YCX ?_));show wpAny _ _ (Builtin.SmallTypes.nextOf (.ref i) >>= _) _ _ _;have t1:S1 m h1:=D1.frame _ _ _ s1 (zbV e1 qp.zf);have t2:S2 m h1:=D2.frame _ _ _ s2 (zbV e1 qp.zg);refine YAa (D1.item m _ _ _ k1 t1 λx h2 tk2 px u1 e2=>YAf ?_);have b2:IsPair h2 b u v:=e2.extBut _ _ qp.bi (e1.extBut _ _ qp.bz hb);refine YAa (YBt b2 rfl (YAa (YCS b2 λh3 b3 e3=>?_)))
 replace b3:IsPair h3 b x v:=b3
 refine YAa (wpAny_letGo (YAf ?_));refine YAa (YAa (YCX ?_));show wpAny _ _ (Builtin.SmallTypes.nextOf (.ref j) >>= _) _ _ _;have t3:S2 m h3:=D2.frame _ _ _ (D2.frame _ _ _ t2 (zbV e2 qp.ig)) (zbV e3 qp.bg);refine YAa (D2.done _ _ _ t3 λh4 e e4 he=>?_);obtain⟨oe,ho,hc⟩:=he;have z3:IsZip h3 z a b .ellipsis:=e3.extBut _ _ qp.bz.symm (e2.extBut _ _ qp.iz.symm z1);have z4:IsZip h4 z a b .ellipsis:=e4 _ _ qp.jz.symm z3;have ez:e≠z:=λx=>by subst x;rw[z4]at ho;cases ho;simp at hc
 refine YAR z4 (by simp) λh5 _ e5=>q h5 tk2 e (λc o c1 c2 c3 c4 x=>e5.extBut _ _ c1 (e4 _ _ c4 (e3.extBut _ _ c2 (e2.extBut _ _ c3 (e1.extBut _ _ c1 x))))) ⟨oe,e5.extBut _ _ ez ho,hc⟩
def zfi(qp:ZAp z a b i j f g)(D1:Draws P w A.in1 i f n F1 S1)(D2:Draws P w A.in1 j g m F2 S2)(hz:IsZip s.heap z a b .none)(ha:IsPair s.heap a (.ref i) (.ref j))(hb:IsPair s.heap b u v)(s1:S1 m s.heap)(s2:S2 m s.heap)(k1:m<n)
  (q:∀h' tk,(∀c o,c≠z->c≠b->c≠i->c≠j->s.heap.get? c=some o->h'.get? c=some o)->Q none {s with heap:=h',toks:=tk}):wpAny (model P w) A (pyNext (.ref z)) Q E s:=by
 have hT:s.TypeIs (.ref z) "zip":=⟨_,hz,rfl⟩;unfold pyNext;refine YAa (YCW (YA0 (name:=Str.ofString "__next__") hT YCo (YAU YCo hT YDB (zhd qp D1 D2 hz ha hb s1 s2 k1 λh' tk e hk he=>?_) (YDq _))));obtain⟨o,ho,hc⟩:=he;exact YAa (YCx (T:="StopIteration") (b:=true) ⟨o,ho,hc⟩ YDS (YAf (q _ _ hk)))
end
def Itz2(tp:Bool)(K:qq)(a b:Addr):It:=
 ⟨(Itz tp K a b).go,(Itz tp K a b).yld,λi H=>∃xs ys,SQ tp K H a xs/\SQ tp K H b ys/\i=min xs.length ys.length⟩
def zlY{P:Program}{w:World}{K:qq}{es:List Expr}{x1:_}{pos:Pos}{tp:Bool}{z c d i j a b:Addr}(qp:ZAp z c d i j [i,a] [j,b])(na:a≠i)(nb:b≠j) :
  Turn P w K (.Tuple es x1 pos) (Itz2 tp K a b) [z,c,d,i,j] z (ZTn tp z c d i j a b)where
 mem:=(zdy (tp:=tp) (P:=P) (w:=w) (K:=K) (es:=es) (x1:=x1) (pos:=pos) qp na nb).mem
 obj:=(zdy (tp:=tp) (P:=P) (w:=w) (K:=K) (es:=es) (x1:=x1) (pos:=pos) qp na nb).obj
 keep:=(zdy (tp:=tp) (P:=P) (w:=w) (K:=K) (es:=es) (x1:=x1) (pos:=pos) qp na nb).keep
 item:=(zdy (tp:=tp) (P:=P) (w:=w) (K:=K) (es:=es) (x1:=x1) (pos:=pos) qp na nb).item
 done:=by
  intro X hP hw hK hc k O s Y H E I hf st hg;obtain⟨xs,ys,qa,qb,hx⟩:=hg;by_cases hle:xs.length<=ys.length
  .exact(zdy (tp:=tp) (P:=P) (w:=w) (K:=K) (es:=es) (x1:=x1) (pos:=pos) qp na nb).done X hP hw hK hc k O s Y H E I hf st ⟨xs,qa,by omega⟩
  .subst hP hw hK;obtain⟨ia,ra,ca,za⟩:=I.sq qa;obtain⟨ib,rb,cb,zb⟩:=I.sq qb;obtain⟨h1,h2,⟨u,v,h3⟩,h4,h5⟩:=st;have hh:X.A.in1.handled=none:=I.ok.hd hc;have l1:=ra.length;have l2:=rb.length;have hk:k=ib.toArray.size:=by simp;omega
   subst hk;refine zfi qp (ziZ tp hh i a na ia.toArray) (ziZ tp hh j b nb ib.toArray) h1 h2 h3 ⟨h4,ca⟩ ⟨h5,cb⟩ (by simp;omega) λh' tk kk=>⟨rfl,?_⟩;exact I.turnedAll (t':=tk) (ch:=[z,c,d,i,j]) (λb u hb e=>by
    simp only[YAk,YAO,YBG,not_or]at hb;exact kk b u hb.1 hb.2.2.1 hb.2.2.2.1 hb.2.2.2.2 e) hf
 self:=(zdy (tp:=tp) (P:=P) (w:=w) (K:=K) (es:=es) (x1:=x1) (pos:=pos) qp na nb).self
def zsp(K:qq)(ta:TA):TI:=λY H R=>ta Y H λvs H1=>∃(tp:Bool)(a b:Addr)(xs ys:List V),vs=[.ref a,.ref b]/\SQ tp K H1 a xs/\SQ tp K H1 b ys/\R (Itz2 tp K a b) H1
def zqd(hg:Gl X "zip")(hm:X.mg "zip"=none)(ha:PA X [a,b] ta)(hs:starEach [a,b] X.env=[(false,eval a X.env),(false,eval b X.env)]:=by rfl)(hs2:starEach [b] X.env=[(false,eval b X.env)]:=by rfl) :
  PI X (.Tuple es x1 tpos) (.Call (.Name "zip" p) [a,b] [] pos) (zsp X.K ta):=by
 intro O s Y H R I h;refine Call_ (zgA I hg hm boot_zip (YBP (thn (ha pos O s Y H _ I h) λus s1 ⟨vs,H1,I1,r1,q1⟩=>?_) (by rw[hs,hs2]) (by rw[hs2];rfl)));obtain⟨tp,l,m,xs,ys,e,q1,q2,q⟩:=q1;subst e;obtain⟨u,v,rfl,ru,rv⟩:=zoD r1;cases ru;cases rv;obtain⟨ia,ra,ca,za⟩:=I1.sq q1;obtain⟨ib,rb,cb,zb⟩:=I1.sq q2;have lt1:=ca.lt;have lt2:=cb.lt;refine znL ca cb λh' zt kk=>?_;refine wpAny_pyIter_zip zt.1 ?_;have I2:Inv X O Y H1 {s1 with heap:=h'}:=I1.kept (t':=s1.toks) kk;refine⟨_,[s1.heap.objs.size+4,s1.heap.objs.size+2,s1.heap.objs.size+3,s1.heap.objs.size,s1.heap.objs.size+1],_,_,H1,rfl,I2,zlY (zqU _ _ _ lt1 lt2) (YAv lt1) (YAv (YA5 lt2)),zt,λc hc=>?_,q⟩;have hle:s1.heap.objs.size<=c:=by
  simp only[YAk,YAO,YBG]at hc;rcases hc with rfl|rfl|rfl|rfl|rfl
  .exact YBH _ _
  .exact YBH _ _
  .exact YBH _ _
  .exact YAn _
  .exact YBH _ _
 exact I1.fpOk hle (I1.hok.fresh hle)
section
variable{X:Cx}
def zrK(K:qq):R2:=λx y H Q=>∃a b xs ys,x=.ref a/\y=.ref b/\SqT K H a xs/\SqT K H b ys/\xs.length+ys.length<=sizeLine /\
 (xs=[]->Q (.ref b) H)/\(xs≠[]->ys=[]->Q (.ref a) H)/\(∀p,H p=none->Q (.ref p) (upd H p (.tup (xs++ys))))
def zpJ:OpR X (binaryOp .Add) (zrK X.K):=by
 intro O s Y H x y v u Q I rx ry h;obtain⟨a,b,xs,ys,rfl,rfl,ha,hb,hz,q1,q2,q3⟩:=h;by_cases hx:xs=[]
 .subst hx;cases rx;cases ry;obtain⟨its,r1,p1,_⟩:=I.tuple ha;obtain⟨its2,r2,p2,_⟩:=I.tuple hb;obtain⟨⟨cls,dd,data,sl⟩,ho,hc,n,hd⟩:=id p1;obtain⟨⟨cls2,dd2,data2,sl2⟩,ho2,hc2,n2,hd2⟩:=id p2;simp only at hc hd hc2 hd2;subst hc hd hc2 hd2;have hi:its=[]:=r1.nil_iff.mpr rfl;exact YDE ⟨_,ho,rfl⟩ ⟨_,ho2,rfl⟩ YCN YDu YCl YCd (YB8 _ _)
   (tuple_addW0 a b its.toArray its2.toArray n n2 dd dd2 sl sl2 (by simp[hi])) ⟨ho,ho2,⟨.ref b,H,I,rfl,q1 rfl⟩⟩
 .exact zlL O s Y H (.ref a) (.ref b) v u Q I rx ry ⟨a,b,xs,ys,rfl,rfl,ha,hb,hx,hz,q2 hx,λ_ p hp=>q3 p hp⟩
def rSl3(K:qq):V->Option Int->Option Int->Hp->VK->Prop:=λx lo hi H Q=>∃a xs,x=.ref a/\SqT K H a xs/\(cutV xs lo hi=xs->Q (.ref a) H)/\∀p,H p=none->Q (.ref p) (upd H p (.tup (cutV xs lo hi)))
def zpx:SlR X (rSl3 X.K):=by
 intro O s Y H x v vl vu lo hi sl Q I rx hs pl pu h;obtain⟨a,xs,rfl,hx,q1,q2⟩:=h;by_cases hw:HT.sIx xs.length 0 lo=0/\HT.sIx xs.length xs.length hi=xs.length
 .cases rx;obtain⟨its,r,ht,hz⟩:=I.tuple hx;have hlen:its.toArray.size=xs.length:=by rw[YAu];exact r.length.symm
  refine⟨"tuple",_,YAL.lookup,ht.typeIs,?_⟩;refine HT.getItem_tuple_whole ht hs pl pu (by rw[hlen];exact hw) ?_;refine⟨.ref a,H,I,rfl,q1 ?_⟩;unfold cutV;rw[hw.1,hw.2];simp
 .exact zpa O s Y H (.ref a) v vl vu lo hi sl Q I rx hs pl pu ⟨a,xs,rfl,hx,hw,q2⟩
def iSeq(K:qq)(tl:TE):TI:=λY H R=>tl Y H λx H1=>∃a,x=.ref a/\(((∃xs,SqL K H1 a xs)/\R (Itl K a) H1)\/((∃xs,SqT K H1 a xs)/\R (Itt K a) H1))
def zr4(hl:PE X l tl):PI X tg l (iSeq X.K tl):=by
 intro O s Y H R I h;refine thn (hl O s Y H _ I h) λv s1 ⟨x,H1,I1,r1,q1⟩=>?_;obtain⟨a,e,q1⟩:=q1;subst e;cases r1;rcases q1 with⟨⟨xs,hq⟩,q⟩|⟨⟨xs,hq⟩,q⟩
 .obtain⟨its,rv,p,hz⟩:=I1.list hq;refine YB6 p.isList ?_;refine⟨s1.heap.objs.size,[s1.heap.objs.size],_,_,H1,rfl,I1.kept (t':=s1.toks) λb o e=>YAd _ e,zin a _,⟨_,YAr _ rfl,rfl,rfl⟩,λb hb=>?_,q⟩;have e:b=s1.heap.objs.size:=by simpa using hb
  subst e;exact I1.fpOk (YAn _) (I1.hok.fresh (YAn _))
 .obtain⟨its,rv,p,hz⟩:=I1.tuple hq;refine YCE (show s1.heap.IsTuple a its.toArray from p) ?_;refine⟨s1.heap.objs.size,[s1.heap.objs.size],_,_,H1,rfl,I1.kept (t':=s1.toks) λb o e=>YAd _ e,zlb a _,⟨_,YAr _ rfl,rfl,rfl⟩,λb hb=>?_,q⟩;have e:b=s1.heap.objs.size:=by simpa using hb
  subst e;exact I1.fpOk (YAn _) (I1.hok.fresh (YAn _))
end
end L2
namespace Fd
open PySem L2
inductive D where
 |non|bl (b:Bool)|int (i:Int)|str (x:Str)|tup (xs:List D)|lst (n:Bool) (xs:List D)|box
structure Bk where
 K:qq
 β:Addr
 H0:Hp
 G0:Hp
mutual
def Rep(c:Bk)(G:Hp):D->V->Prop
 |.non,v=>v=.non
 |.bl b,v=>v=.bl b
 |.int i,v=>v=.int i
 |.str x,v=>v=.str x
 |.tup xs,v=>∃a vs,v=.ref a/\SqT c.K G a vs/\Reps c G xs vs
 |.lst n xs,v=>∃a vs,v=.ref a/\G a=some (.lst vs)/\(n=true->c.H0 a=none)/\Reps c G xs vs
 |.box,v=>v=.ref c.β
def Reps(c:Bk)(G:Hp):List D->List V->Prop
 |[],vs=>vs=[]
 |x::xs,vs=>∃v ws,vs=v::ws/\Rep c G x v/\Reps c G xs ws
end
def zaT(e:Same H H')(h:SqT K H a xs):SqT K H' a xs:=by
 rcases h with h|h
 .rcases h with h|⟨o,h⟩
  .exact .inl (.inl (e _ _ h))
  .exact .inl (.inr ⟨o,e _ _ h⟩)
 .exact .inr h
mutual
theorem Rep.mono(e:Same G G'):∀{d:D}{v:V},Rep c G d v->Rep c G' d v
 |.non,_,h=>h
 |.bl _,_,h=>h
 |.int _,_,h=>h
 |.str _,_,h=>h
 |.box,_,h=>h
 |.tup xs,_,⟨a,vs,h1,h2,h3⟩=>⟨a,vs,h1,zaT e h2,Reps.mono e h3⟩
 |.lst n xs,_,⟨a,vs,h1,h2,h4,h3⟩=>⟨a,vs,h1,e _ _ h2,h4,Reps.mono e h3⟩
theorem Reps.mono(e:Same G G'):∀{ds:List D}{vs:List V},Reps c G ds vs->Reps c G' ds vs
 |[],_,h=>h
 |_::_,_,⟨v,ws,h1,h2,h3⟩=>⟨v,ws,h1,Rep.mono e h2,Reps.mono e h3⟩
end
def D.old:D->D
 |.non=>.non
 |.bl b=>.bl b
 |.int i=>.int i
 |.str x=>.str x
 |.box=>.box
 |.tup xs=>.tup (xs.map D.old)
 |.lst _ xs=>.lst false (xs.map D.old)
mutual
/-- handed on to another call -/
theorem Rep.hand(hk:c.K=c'.K)(hb:c.β=c'.β):∀{d:D}{v:V},Rep c G d v->Rep c' G d.old v
 |.non,_,h=>by unfold D.old;exact h
 |.bl _,_,h=>by unfold D.old;exact h
 |.int _,_,h=>by unfold D.old;exact h
 |.str _,_,h=>by unfold D.old;exact h
 |.box,_,h=>by unfold D.old;show _=V.ref c'.β;rw[<-hb];exact h
 |.tup xs,_,⟨a,vs,h1,h2,h3⟩=>by unfold D.old;exact⟨a,vs,h1,hk▸h2,Reps.hand hk hb h3⟩
 |.lst n xs,_,⟨a,vs,h1,h2,h4,h3⟩=>by unfold D.old;exact⟨a,vs,h1,h2,(λz=>by cases z),Reps.hand hk hb h3⟩
theorem Reps.hand(hk:c.K=c'.K)(hb:c.β=c'.β):∀{ds:List D}{vs:List V},Reps c G ds vs->Reps c' G (ds.map D.old) vs
 |[],_,h=>h
 |_::_,_,⟨v,ws,h1,h2,h3⟩=>⟨v,ws,h1,Rep.hand hk hb h2,Reps.hand hk hb h3⟩
end
mutual
/-- and back: what is newer than the inner call is newer than the outer one -/
theorem Rep.back(hk:c'.K=c.K)(hb:c'.β=c.β)(hn:∀a,c'.H0 a=none->c.H0 a=none):∀{d:D}{v:V},Rep c' G d v->Rep c G d v
 |.non,_,h=>h
 |.bl _,_,h=>h
 |.int _,_,h=>h
 |.str _,_,h=>h
 |.box,_,h=>by show _=V.ref c.β;rw[<-hb];exact h
 |.tup xs,_,⟨a,vs,h1,h2,h3⟩=>⟨a,vs,h1,hk▸h2,Reps.back hk hb hn h3⟩
 |.lst n xs,_,⟨a,vs,h1,h2,h4,h3⟩=>⟨a,vs,h1,h2,λz=>hn a (h4 z),Reps.back hk hb hn h3⟩
theorem Reps.back(hk:c'.K=c.K)(hb:c'.β=c.β)(hn:∀a,c'.H0 a=none->c.H0 a=none):∀{ds:List D}{vs:List V},Reps c' G ds vs->Reps c G ds vs
 |[],_,h=>h
 |_::_,_,⟨v,ws,h1,h2,h3⟩=>⟨v,ws,h1,Rep.back hk hb hn h2,Reps.back hk hb hn h3⟩
end
theorem Reps.length :∀{ds:List D}{vs:List V},Reps c G ds vs->ds.length=vs.length
 |[],_,h=>by cases h;rfl
 |_::_,_,⟨v,ws,h1,_,h3⟩=>by subst h1;simp[Reps.length h3]
theorem Reps.get :∀{ds:List D}{vs:List V}{i:Nat}{d:D},Reps c G ds vs->ds[i]?=some d->∃v,vs[i]?=some v/\Rep c G d v
 |[],_,_,_,_,e=>by simp at e
 |_::_,_,0,_,⟨v,ws,h1,h2,_⟩,e=>by subst h1;simp at e;subst e;exact⟨v,rfl,h2⟩
 |_::_,_,i+1,d,⟨v,ws,h1,_,h3⟩,e=>by subst h1;exact Reps.get (i:=i) h3 (by simpa using e)
theorem Reps.append :∀{ds es:List D}{vs ws:List V},Reps c G ds vs->Reps c G es ws->Reps c G (ds++es) (vs++ws)
 |[],_,_,_,h,k=>by cases h;exact k
 |_::_,_,_,_,⟨v,us,h1,h2,h3⟩,k=>by subst h1;exact⟨v,us++_,rfl,h2,Reps.append h3 k⟩
def Reps.one(h:Rep c G d v):Reps c G [d] [v]:=⟨v,[],rfl,h,rfl⟩
theorem Reps.set(h:Rep c G d v):∀{ds:List D}{vs:List V}(i:Nat),Reps c G ds vs->Reps c G (ds.set i d) (vs.set i v)
 |[],_,_,k=>by cases k;rfl
 |_::_,_,0,⟨u,us,h1,h2,h3⟩=>by subst h1;exact⟨v,us,rfl,h,h3⟩
 |_::_,_,i+1,⟨u,us,h1,h2,h3⟩=>by subst h1;exact⟨u,us.set i v,rfl,h2,Reps.set h i h3⟩
theorem Reps.take :∀{ds:List D}{vs:List V}(i:Nat),Reps c G ds vs->Reps c G (ds.take i) (vs.take i)
 |[],_,_,k=>by cases k;simp[Reps]
 |_::_,_,0,_=>by simp[Reps]
 |_::_,_,i+1,⟨u,us,h1,h2,h3⟩=>by subst h1;exact⟨u,us.take i,rfl,h2,Reps.take i h3⟩
theorem Reps.drop :∀{ds:List D}{vs:List V}(i:Nat),Reps c G ds vs->Reps c G (ds.drop i) (vs.drop i)
 |[],_,_,k=>by cases k;simp[Reps]
 |_::_,_,0,k=>k
 |_::_,_,i+1,⟨u,us,h1,h2,h3⟩=>by subst h1;exact Reps.drop i h3
theorem reps_ints :∀{ns:List Int}{vs:List V},Reps c G (ns.map D.int) vs↔vs=ns.map V.int
 |[],_=>Iff.rfl
 |n::ns,vs=>by
  constructor
  .rintro⟨v,ws,h1,h2,h3⟩;rw[h1,reps_ints.mp h3]
   have:v=V.int n:=h2
   rw[this];rfl
  .rintro rfl;exact⟨V.int n,ns.map V.int,rfl,rfl,reps_ints.mpr rfl⟩
theorem reps_bools :∀{ns:List Bool}{vs:List V},Reps c G (ns.map D.bl) vs↔vs=ns.map V.bl
 |[],_=>Iff.rfl
 |n::ns,vs=>by
  constructor
  .rintro⟨v,ws,h1,h2,h3⟩;rw[h1,reps_bools.mp h3]
   have:v=V.bl n:=h2
   rw[this];rfl
  .rintro rfl;exact⟨V.bl n,ns.map V.bl,rfl,rfl,reps_bools.mpr rfl⟩
def boxO(cc:Addr)(p r d:Int):HO:=.lst [.ref cc,.int p,.int r,.int d]
structure BoxD(β:Addr)(H G:Hp):Prop where
 ex:∃cc p r d,∃ns:List Int,H β=some (boxO cc p r d)/\0<=p/\0<=r/\0<=d/\d<2147483629/\G cc=some (.lst (ns.map V.int))/\ns.length<=63
 still:G β=none
def BoxD.at(b:BoxD β H G):∃o,H β=some o:=by
 obtain⟨cc,p,r,d,ns,h,_⟩:=b.ex;exact⟨_,h⟩
def zkZ:HO->Prop
 |.tup _=>True
 |.frz _ _=>True
 |_=>False
structure Stp(β:Addr)(H G H' G':Hp):Prop where
 gg:Same G G'
 gh:Same G' H'
 fr:∀a o,a≠β->H a=some o->H' a=some o
 nw:∀a,G' a≠none->G a≠none\/H a=none\/∃o,H a=some o/\zkZ o
 bx:BoxD β H' G'
 b0:H β≠none
 bc:∀cc p r d,H β=some (boxO cc p r d)->∃p r d,H' β=some (boxO cc p r d)
theorem Stp.refl(gh:Same G H)(b:BoxD β H G):Stp β H G H G:=
 ⟨Same.refl _,gh,λ_ _ _ e=>e,λ_ e=>.inl e,b,λz=>by(obtain⟨o,h⟩:=b.at;rw[z]at h;cases h),λ_ p r d h=>⟨p,r,d,h⟩⟩
def Stp.free(s:Stp β H G H' G')(h:H' a=none):H a=none:=by
 cases e:H a with
 |none=>rfl
 |some o=>
  by_cases z:a=β
  .obtain⟨o',h'⟩:=s.bx.at;rw[z,h']at h;cases h
  .rw[s.fr a o z e]at h;cases h
theorem Stp.trans(s:Stp β H G H1 G1)(t:Stp β H1 G1 H2 G2):Stp β H G H2 G2:=
 ⟨s.gg.trans t.gg,t.gh,λa o n e=>t.fr a o n (s.fr a o n e),λa e=>(t.nw a e).elim (s.nw a) λz=>z.elim (λz=>.inr (.inl (s.free z))) λ⟨o,ho,st⟩=>by
  cases e:H a with
  |none=>exact .inr (.inl rfl)
  |some o'=>
   have nb:a≠β:=λz=>by
    obtain⟨cc,p,r,d,ns,h,_⟩:=s.bx.ex;rw[z,h]at ho;cases ho;exact st
   have:=s.fr a o' nb e
   rw[ho]at this;cases this;exact .inr (.inr ⟨o,rfl,st⟩),t.bx,s.b0,λcc p r d h=>by
  obtain⟨p1,r1,d1,h1⟩:=s.bc cc p r d h;exact t.bc cc p1 r1 d1 h1⟩
def BoxD.new(b:BoxD β H G)(hl:H l=none):BoxD β (upd H l o) G:=by
 obtain⟨cc,p,r,d,ns,h,q⟩:=b.ex;exact⟨⟨cc,p,r,d,ns,by rw[zaf (zae h hl)];exact h,q⟩,b.still⟩
def zn6(gh:Same G H)(hl:H l=none):Same G (upd H l o):=λa u e=>by
 rw[zaf (zae (gh a u e) hl)];exact gh a u e
def Stp.own(gh:Same G H)(b:BoxD β H G)(hl:H l=none):Stp β H G (upd H l o) G:=
 ⟨Same.refl _,zn6 gh hl,λa u _ e=>by rw[zaf (zae e hl)];exact e,λ_ e=>.inl e,b.new hl,λz=>by(obtain⟨o,h⟩:=b.at;rw[z]at h;cases h),λcc p r d h=>⟨p,r,d,by rw[zaf (zae h hl)];exact h⟩⟩
def zas(gh:Same G H)(hl:H l=none):G l=none:=gh.free hl
theorem Stp.still(s:Stp β H G H' G')(h':H' l=some o)(h0:H l=none)(hb:l≠β)(hg:G' l=none):Stp β H G H' (upd G' l o):=
 ⟨s.gg.trans λa u e=>by rw[zaf (zae e hg)];exact e,
 λa u e=>by
  by_cases z:a=l
  .subst z;rw[zac]at e;rw[h'];exact e
  .rw[zaf z]at e;exact s.gh a u e,
 s.fr,λa e=>by
  by_cases z:a=l
  .subst z;exact .inr (.inl h0)
  .rw[zaf z]at e;exact s.nw a e,
 ⟨by
   obtain⟨cc,p,r,d,ns,h,p1,p2,p3,p4,hc,q⟩:=s.bx.ex;exact⟨cc,p,r,d,ns,h,p1,p2,p3,p4,by rw[zaf (zae hc hg)];exact hc,q⟩,by rw[zaf (Ne.symm hb)];exact s.bx.still⟩,s.b0,s.bc⟩
def Stp.new(gh:Same G H)(b:BoxD β H G)(hl:H l=none):Stp β H G (upd H l o) (upd G l o):=by
 have hb:l≠β:=λz=>by obtain⟨o,h⟩:=b.at;rw[<-z,hl]at h;cases h
 exact(Stp.own gh b hl).still zac hl hb (zas gh hl)
def zcc(hg:G l=none):Same G (upd G l o):=λa u e=>by rw[zaf (zae e hg)];exact e
inductive Sl where
 |un|val (d:D)|own (xs:List D)
abbrev Env:=List Sl
def SlOk(c:Bk)(H G:Hp):Sl->Option (Option V)->Prop
 |.un,_=>True
 |.val d,o=>∃v,o=some (some v)/\Rep c G d v
 |.own xs,o=>∃a vs,o=some (some (.ref a))/\H a=some (.lst vs)/\G a=none/\c.H0 a=none/\a≠c.β/\Reps c G xs vs
structure Rel(c:Bk)(Z:Env)(Y:St)(H G:Hp):Prop where
 len:Z.length=Y.length
 stp:Stp c.β c.H0 c.G0 H G
 slot:∀(i:Nat) s,Z[i]?=some s->SlOk c H G s Y[i]?
 dis:∀(i j:Nat) a xs ys,Z[i]?=some (.own xs)->Z[j]?=some (.own ys)->Y[i]?=some (some (.ref a))->Y[j]?=some (some (.ref a))->i=j
theorem Rel.gh(r:Rel c Z Y H G):Same G H:=r.stp.gh
theorem Rel.bx(r:Rel c Z Y H G):BoxD c.β H G:=r.stp.bx
theorem Rel.refl(r:Rel c Z Y H G):Stp c.β H G H G:=Stp.refl r.gh r.bx
def SlOk.step(t:Stp c.β H G H' G'):∀{s:Sl}{o:Option (Option V)},SlOk c H G s o->SlOk c H' G' s o
 |.un,_,_=>trivial
 |.val d,_,⟨v,h1,h2⟩=>⟨v,h1,h2.mono t.gg⟩
 |.own xs,_,⟨a,vs,h1,h2,h3,h4,h5,h6⟩=>⟨a,vs,h1,t.fr a _ h5 h2,(by
   cases e:G' a with
   |none=>rfl
   |some o=>
    rcases t.nw a (by rw[e];simp)with z|z|⟨o',z,st⟩
    .exact absurd h3 z
    .rw[h2]at z;cases z
    .rw[h2]at z;cases z;exact st.elim),h4,h5,h6.mono t.gg⟩
theorem Rel.step(r:Rel c Z Y H G)(t:Stp c.β H G H' G'):Rel c Z Y H' G':=
 ⟨r.len,r.stp.trans t,λi s e=>(r.slot i s e).step t,r.dis⟩
def Rel.put(r:Rel c Z Y H G)(h:Rep c G d v):Rel c (Z.set i (.val d)) (Y.set i (some v)) H G:=by
 refine⟨by simp[r.len],r.stp,λj s e=>?_,λj k a xs ys e1 e2 e3 e4=>?_⟩
 .by_cases z:i=j
  .subst z;have hi:i<Z.length:=by have:=(YAi.mp e).1;simpa using this
   rw[YAE hi]at e;cases e;exact⟨v,by rw[YAE (by rw[<-r.len];exact hi)],h⟩
  .rw[YAB z]at e ⊢;exact r.slot j s e
 .have nj:i≠j:=λz=>by
   subst z;have hi:i<Z.length:=by have:=(YAi.mp e1).1;simpa using this
   rw[YAE hi]at e1;cases e1
  have nk:i≠k:=λz=>by
   subst z;have hi:i<Z.length:=by have:=(YAi.mp e2).1;simpa using this
   rw[YAE hi]at e2;cases e2
  rw[YAB nj]at e1 e3;rw[YAB nk]at e2 e4;exact r.dis j k a xs ys e1 e2 e3 e4
def Rel.putOwn(r:Rel c Z Y H G)(hl:H l=some (.lst vs))(hg:G l=none)(h0:c.H0 l=none)(hb:l≠c.β)(h:Reps c G xs vs)
  (hn:∀(j:Nat) ys,Z[j]?=some (.own ys)->Y[j]?≠some (some (.ref l))):Rel c (Z.set i (.own xs)) (Y.set i (some (.ref l))) H G:=by
 refine⟨by simp[r.len],r.stp,λj s e=>?_,λj k a xs' ys e1 e2 e3 e4=>?_⟩
 .by_cases z:i=j
  .subst z;have hi:i<Z.length:=by have:=(YAi.mp e).1;simpa using this
   rw[YAE hi]at e;cases e;exact⟨l,vs,by rw[YAE (by rw[<-r.len];exact hi)],hl,hg,h0,hb,h⟩
  .rw[YAB z]at e ⊢;exact r.slot j s e
 .by_cases zj:i=j
  .by_cases zk:i=k
   .exact zj.symm.trans zk
   .subst zj;have hi:i<Z.length:=by have:=(YAi.mp e1).1;simpa using this
    rw[YAE (by rw[<-r.len];exact hi)]at e3;cases e3;rw[YAB zk]at e2 e4;exact absurd e4 (hn k ys e2)
  .by_cases zk:i=k
   .subst zk;have hi:i<Z.length:=by have:=(YAi.mp e2).1;simpa using this
    rw[YAE (by rw[<-r.len];exact hi)]at e4;cases e4;rw[YAB zj]at e1 e3;exact absurd e3 (hn j xs' e1)
   .rw[YAB zj]at e1 e3;rw[YAB zk]at e2 e4;exact r.dis j k a xs' ys e1 e2 e3 e4
def Rel.write(r:Rel c Z Y H G)(hi:Z[i]?=some (.own xs))(hs:Y[i]?=some (some (.ref l)))(h:Reps c G ys ws) :
  Rel c (Z.set i (.own ys)) Y (upd H l (.lst ws)) G:=by
 obtain⟨a,vs,h1,h2,h3,h4,h5,h6⟩:=r.slot i _ hi;rw[hs]at h1;cases h1;have hil:i<Z.length:=(YAi.mp hi).1;refine⟨by simp[r.len],⟨r.stp.gg,λb u e=>?_,λb u n e=>?_,r.stp.nw,?_,r.stp.b0,λcc p q d e=>by
  obtain⟨p',q',d',e'⟩:=r.stp.bc cc p q d e;exact⟨p',q',d',by rw[zaf (Ne.symm h5)];exact e'⟩⟩,λj s e=>?_,λj k b xs' ys' e1 e2 e3 e4=>?_⟩
 .rw[zaf (λz=>by rw[z,h3]at e;cases e)];exact r.gh b u e
 .rw[zaf (λz=>by rw[z,h4]at e;cases e)];exact r.stp.fr b u n e
 .obtain⟨cc,p,q,d,ns,e,z⟩:=r.bx.ex;exact⟨⟨cc,p,q,d,ns,by rw[zaf (Ne.symm h5)];exact e,z⟩,r.bx.still⟩
 .by_cases z:i=j
  .subst z;rw[YAE hil]at e;cases e;exact⟨l,ws,hs,zac,h3,h4,h5,h⟩
  .rw[YAB z]at e;have q:=r.slot j s e;cases s with
   |un=>trivial
   |val d=>exact q
   |own zs=>
    obtain⟨b,us,g1,g2,g3⟩:=q;have nb:b≠l:=λy=>z (r.dis i j l xs zs hi e hs (by rw[g1,y]));exact⟨b,us,g1,by rw[zaf nb];exact g2,g3⟩
 .have f:∀(m:Nat) zs,(Z.set i (.own ys))[m]?=some (.own zs)->∃zs',Z[m]?=some (.own zs'):=λm zs e=>by
   by_cases z:i=m
   .exact⟨xs,z▸hi⟩
   .rw[YAB z]at e;exact⟨zs,e⟩
  obtain⟨_,f1⟩:=f j _ e1;obtain⟨_,f2⟩:=f k _ e2;exact r.dis j k b _ _ f1 f2 e3 e4
def Rel.freeze(r:Rel c Z Y H G)(hi:Z[i]?=some (.own xs)):∃G',Same G G'/\Rel c (Z.set i (.val (.lst true xs))) Y H G':=by
 obtain⟨a,vs,h1,h2,h3,h4,h5,h6⟩:=r.slot i _ hi;have hil:i<Z.length:=(YAi.mp hi).1;have sg:Same G (upd G a (.lst vs)):=zcc h3;refine⟨upd G a (.lst vs),sg,by simp[r.len],r.stp.still h2 h4 h5 h3,λj s e=>?_,λj k b xs' ys' e1 e2 e3 e4=>?_⟩
 .by_cases z:i=j
  .subst z;rw[YAE hil]at e;cases e;exact⟨.ref a,h1,a,vs,rfl,zac,λ_=>h4,h6.mono sg⟩
  .rw[YAB z]at e;have q:=r.slot j s e;cases s with
   |un=>trivial
   |val d=>obtain⟨v,g1,g2⟩:=q;exact⟨v,g1,g2.mono sg⟩
   |own zs=>
    obtain⟨b,us,g1,g2,g3,g4,g5,g6⟩:=q;have nb:b≠a:=λy=>z (r.dis i j a xs zs hi e h1 (by rw[g1,y]));exact⟨b,us,g1,g2,by rw[zaf nb];exact g3,g4,g5,g6.mono sg⟩
 .have f:∀(m:Nat) zs,(Z.set i (.val (.lst true xs)))[m]?=some (.own zs)->Z[m]?=some (.own zs):=λm zs e=>by
   by_cases z:i=m
   .subst z;rw[YAE hil]at e;cases e
   .rw[YAB z]at e;exact e
  exact r.dis j k b _ _ (f j _ e1) (f k _ e2) e3 e4
abbrev WE:=Env->(D->Prop)->Prop
abbrev WL:=Env->(List D->Prop)->Prop
abbrev WT:=Env->(Bool->Prop)->Prop
def zbz(W:WE):Prop:=∀ Z Q Q',(∀d,Q d->Q' d)->W Z Q->W Z Q'
def zdq(W:WL):Prop:=∀ Z Q Q',(∀d,Q d->Q' d)->W Z Q->W Z Q'
def zdX(W:WT):Prop:=∀ Z Q Q',(∀d,Q d->Q' d)->W Z Q->W Z Q'
def tD(c:Bk)(W:WE):TE:=λY H Q=>∃ Z G,Rel c Z Y H G/\W Z λd=>∀v H' G',Stp c.β H G H' G'->Rep c G' d v->Q v H'
def tDs(c:Bk)(W:WL):TA:=λY H Q=>∃ Z G,Rel c Z Y H G/\W Z λds=>∀vs H' G',Stp c.β H G H' G'->Reps c G' ds vs->Q vs H'
def tDf(c:Bk)(W:WL):TE:=λY H Q=>∃ Z G,Rel c Z Y H G/\W Z λds=>∀l vs H' G',Stp c.β H G H' G'->H' l=some (.lst vs)->G' l=none->H l=none->Reps c G' ds vs->Q (.ref l) H'
def tDt(c:Bk)(W:WT):TT:=λY H Q=>∃ Z G,Rel c Z Y H G/\W Z λb=>∀H' G',Stp c.β H G H' G'->Q b H'
structure DE(X:Cx)(c:Bk)(e:Expr)(W:WE):Prop where
 mono:zbz W
 pe:PE X e (tD c W)
structure DF(X:Cx)(c:Bk)(e:Expr)(W:WL):Prop where
 mono:zdq W
 pe:PE X e (tDf c W)
structure DA(X:Cx)(c:Bk)(es:List Expr)(W:WL):Prop where
 mono:zdq W
 pa:PA X es (tDs c W)
structure DT(X:Cx)(c:Bk)(e:Expr)(W:WT):Prop where
 mono:zdX W
 pt:PT X e (tDt c W)
section
variable{X:Cx}
def zaW(h:PE X e t)(k:∀ Y H Q,t' Y H Q->t Y H Q):PE X e t':=λO s Y H Q I q=>h O s Y H Q I (k Y H Q q)
def zfL(h:PT X e t)(k:∀ Y H Q,t' Y H Q->t Y H Q):PT X e t':=λO s Y H Q I q=>h O s Y H Q I (k Y H Q q)
def zpn(h:PA X e t)(k:∀ Y H Q,t' Y H Q->t Y H Q):PA X e t':=λpos O s Y H Q I q=>h pos O s Y H Q I (k Y H Q q)
def Rel.new0(r:Rel c Z Y H G)(h:H l=none):c.H0 l=none:=r.stp.free h
def Rel.neβ(r:Rel c Z Y H G)(h:H l=none):l≠c.β:=λz=>by
 obtain⟨o,e⟩:=r.bx.at;rw[<-z,h]at e;cases e
@[reducible] def valW(W:WL):WE:=λZ Q=>W Z λxs=>Q (.lst true xs)
def DF.de(h:DF X c e W):DE X c e (valW W)where
 mono:=λZ Q Q' k q=>h.mono Z _ _ (λxs z=>k _ z) q
 pe:=zaW h.pe λY H Q ⟨Z,G,r,q⟩=>⟨Z,G,r,h.mono Z _ _ (λxs z l vs H' G' t hl hg h0 hv=>
  z (.ref l) H' (upd G' l (.lst vs)) (t.still hl h0 (r.neβ h0) hg) ⟨l,vs,rfl,zac,λ_=>r.new0 h0,hv.mono (zcc hg)⟩) q⟩
def vW(i:Nat):WE:=λZ Q=>match Z[i]? with|some (.val d)=>Q d|_=>False
@[reducible] def kW(d:D):WE:=λ_ Q=>Q d
def dv(i:Nat)(hN:X.N[i]?=some x:=by rfl)(hv:Vis X.env.scope x:=by first|exact Or.inl rfl|exact Or.inr (Or.inl rfl)|exact Or.inr (Or.inr rfl))
  (hd:(x==("__debug__":Str))=false:=by decide) (hcd:(x==("__classdict__":Str))=false:=by decide):DE X c (.Name x pos) (vW i)where
 mono:=λZ Q Q' k q=>by
  unfold vW at q ⊢;split at q
  .exact k _ q
  .exact q.elim
 pe:=zaW (zdK hN hv hd hcd) λY H Q ⟨Z,G,r,q⟩=>by
  unfold vW at q;split at q
  .rename_i d e
   obtain⟨v,h1,h2⟩:=r.slot i _ e;exact⟨v,h1,q v H G r.refl h2⟩
  .exact q.elim
def zoQ(d:D):zbz (kW d):=λ_ _ _ k q=>k _ q
def zai:DE X c (.Constant (.int i) j pos) (kW (.int i)):=⟨zoQ _,zaW zaO λY H Q ⟨Z,G,r,q⟩=>q _ H G r.refl rfl⟩
def zcv:DE X c (.Constant (.bool i) j pos) (kW (.bl i)):=⟨zoQ _,zaW zrk λY H Q ⟨Z,G,r,q⟩=>q _ H G r.refl rfl⟩
def ziw:DE X c (.Constant .none j pos) (kW .non):=⟨zoQ _,zaW zj7 λY H Q ⟨Z,G,r,q⟩=>q _ H G r.refl rfl⟩
def zbQ:DE X c (.Constant (.str i) j pos) (kW (.str i)):=⟨zoQ _,zaW zpt λY H Q ⟨Z,G,r,q⟩=>q _ H G r.refl rfl⟩
abbrev F2:=D->D->(D->Prop)->Prop
def zbJ(f:F2):Prop:=∀x y Q Q',(∀d,Q d->Q' d)->f x y Q->f x y Q'
@[reducible] def binW(f:F2)(A B:WE):WE:=λZ Q=>A Z λx=>B Z λy=>f x y Q
def OpD(c:Bk)(f:F2)(r:R2):Prop:=∀(H G:Hp)(x y:D)(u v:V)(Q:VK),Same G H->BoxD c.β H G->(∀a,H a=none->c.H0 a=none)->Rep c G x u->Rep c G y v ->
 f x y (λd=>∀v H' G',Stp c.β H G H' G'->Rep c G' d v->Q v H')->r u v H Q
def zfo(fm:zbJ f)(mA:zbz A)(mB:zbz B)(hr:OpD c f r)(Y:St)(H:Hp)(Q:VK)(h:tD c (binW f A B) Y H Q):tOp r (tD c A) (tD c B) Y H Q:=by
 obtain⟨Z,G,R,q⟩:=h;refine⟨Z,G,R,mA Z _ _ (λx q1 u H1 G1 t1 e1=>⟨Z,G1,R.step t1,mB Z _ _ (λy q2 v H2 G2 t2 e2=>?_) q1⟩) q⟩;refine hr H2 G2 x y u v Q t2.gh t2.bx (λa z=>R.new0 (t1.free (t2.free z))) (e1.mono t2.gg) e2 (fm x y _ _ (λd z w H3 G3 t3 e3=>z w H3 G3 ((t1.trans t2).trans t3) e3) q2)
def zeb(fm:zbJ f)(mA:zbz A)(mB:zbz B):zbz (binW f A B):=λZ Q Q' k q=>mA Z _ _ (λx q1=>mB Z _ _ (λy q2=>fm x y _ _ k q2) q1) q
def zmP(fm:zbJ f)(ho:OpR X (binaryOp op) r)(hr:OpD c f r)(hA:DE X c a A)(hB:DE X c b B):DE X c (.BinOp a op b pos) (binW f A B):=
 ⟨zeb fm hA.mono hB.mono,zaW (zb8 ho hA.pe hB.pe) λY H Q h=>zfo fm hA.mono hB.mono hr Y H Q h⟩
def zn2(fm:zbJ f)(ho:OpR X (compareOp op) r)(hr:OpD c f r)(hA:DE X c a A)(hB:DE X c b B)(hm:behindInMarks op b=false):DE X c (.Compare a [op] [b] pos) (binW f A B):=
 ⟨zeb fm hA.mono hB.mono,zaW (zmz ho hA.pe hB.pe hm) λY H Q h=>zfo fm hA.mono hB.mono hr Y H Q h⟩
def blW(A:WE):WT:=λZ Q=>A Z λd=>match d with|.bl b=>Q b|_=>False
def zhr(m:zbz A):zdX (blW A):=λZ Q Q' k q=>m Z _ _ (λd z=>by
 cases d<;>first|exact k _ z|exact z) q
def znK(m:zbz A)(Y:St)(H:Hp)(Q:Bool->Hp->Prop)(h:tDt c (blW A) Y H Q):zqx (tD c A) Y H Q:=by
 obtain⟨Z,G,R,q⟩:=h;refine⟨Z,G,R,m Z _ _ (λd z v H1 G1 t e=>?_) q⟩;cases d with
 |bl b=>exact⟨b,e,z H1 G1 t⟩
 |_=>exact z.elim
def zgL(fm:zbJ f)(ho:OpR X (compareOp op) r)(hr:OpD c f r)(hA:DE X c a A)(hB:DE X c b B)(hm:behindInMarks op b=false):DT X c (.Compare a [op] [b] pos) (blW (binW f A B)):=
 ⟨zhr (zeb fm hA.mono hB.mono),zfL (zcx ho hA.pe hB.pe hm) λY H Q h=>by
  obtain⟨Z,G,R,q⟩:=znK (zeb fm hA.mono hB.mono) Y H Q h;exact zfo fm hA.mono hB.mono hr Y H _ ⟨Z,G,R,q⟩⟩
def addD:F2
 |.int i,.int j,Q=>Q (.int (i+j))
 |.str a,.str b,Q=>a.length+b.length<=100000/\Q (.str (a++b))
 |.lst _ xs,.lst _ ys,Q=>xs.length+ys.length<=100000/\Q (.lst true (xs++ys))
 |.tup xs,.tup ys,Q=>xs.length+ys.length<=100000/\Q (.tup (xs++ys))
 |_,_,_=>False
def subD:F2
 |.int i,.int j,Q=>Q (.int (i-j))
 |_,_,_=>False
def mulD:F2
 |.int i,.int j,Q=>CMul i j/\Q (.int (i*j))
 |.lst _ xs,.int k,Q=>(0<=k/\k<=1000/\xs.length<=1000)/\Q (.lst true (List.replicate k.toNat xs).flatten)
 |_,_,_=>False
def modD:F2
 |.int i,.int j,Q=>0<j/\Q (.int (i % j))
 |_,_,_=>False
def powD:F2
 |.int i,.int j,Q=>CPow i j/\Q (.int (i^j.toNat))
 |_,_,_=>False
def small5(h:n<=100000):n<=sizeLine:=YAQ h (by rw[YAP];decide)
def zsy:zbJ addD:=λx y Q Q' k q=>by
 cases x<;>cases y<;>first|exact k _ q|exact⟨q.1,k _ q.2⟩|exact q
def zsE:zbJ subD:=λx y Q Q' k q=>by
 cases x<;>cases y<;>first|exact k _ q|exact q
def zsF:zbJ mulD:=λx y Q Q' k q=>by
 cases x<;>cases y<;>first|exact⟨q.1,k _ q.2⟩|exact q
def zsz:zbJ modD:=λx y Q Q' k q=>by
 cases x<;>cases y<;>first|exact⟨q.1,k _ q.2⟩|exact q
def zsM:zbJ powD:=λx y Q Q' k q=>by
 cases x<;>cases y<;>first|exact⟨q.1,k _ q.2⟩|exact q
def zq0(K:qq):R2:=λx y H Q=>(rI0 (λi j=>.int (i+j)) x y H Q\/(∃i j,x=.str i/\y=.str j/\i.length+j.length<=sizeLine/\Q (.str (i++j)) H))\/(rCat x y H Q\/zrK K x y H Q)
def zpw{c:Bk}(hK:c.K=X.K):OpR X (binaryOp .Add) (zq0 c.K):=by rw[hK];exact(op_add.or zlw).or (op_cat.or zpJ)
def zqN:OpD c addD (zq0 c.K):=by
 intro H G x y u v Q gh bx h0 rx ry q;cases x with
 |int i=>cases y with
  |int j=>cases rx;cases ry;exact .inl (.inl ⟨i,j,rfl,rfl,q _ H G (Stp.refl gh bx) rfl⟩)
  |_=>exact q.elim
 |str i=>cases y with
  |str j=>cases rx;cases ry;exact .inl (.inr ⟨i,j,rfl,rfl,small5 q.1,q.2 _ H G (Stp.refl gh bx) rfl⟩)
  |_=>exact q.elim
 |lst n xs=>cases y with
  |lst m ys=>
   obtain⟨a,vs,rfl,ha,_,rv⟩:=rx;obtain⟨b,ws,rfl,hb,_,rw'⟩:=ry;refine .inr (.inl ⟨a,b,vs,ws,rfl,rfl,gh _ _ ha,gh _ _ hb,?_,λp hp=>?_⟩)
   .rw[<-rv.length,<-rw'.length];exact small5 q.1
   .have hg:=zas gh hp;exact q.2 (.ref p) _ _ (Stp.new gh bx hp) ⟨p,vs++ws,rfl,zac,λ_=>h0 p hp,(rv.append rw').mono (zcc hg)⟩
  |_=>exact q.elim
 |tup xs=>cases y with
  |tup ys=>
   obtain⟨a,vs,rfl,ha,rv⟩:=rx;obtain⟨b,ws,rfl,hb,rw'⟩:=ry;refine .inr (.inr ⟨a,b,vs,ws,rfl,rfl,zaT gh ha,zaT gh hb,?_,λe=>?_,λ_ e=>?_,λp hp=>?_⟩)
   .rw[<-rv.length,<-rw'.length];exact small5 q.1
   .subst e
    have:xs=[]:=by have:=rv.length;simpa using this
    subst this;exact q.2 (.ref b) H G (Stp.refl gh bx) ⟨b,ws,rfl,hb,rw'⟩
   .subst e
    have:ys=[]:=by have:=rw'.length;simpa using this
    subst this;exact q.2 (.ref a) H G (Stp.refl gh bx) ⟨a,vs,rfl,ha,by simpa using rv⟩
   .have hg:=zas gh hp;exact q.2 (.ref p) _ _ (Stp.new gh bx hp) ⟨p,vs++ws,rfl,SqT.of zac,(rv.append rw').mono (zcc hg)⟩
  |_=>exact q.elim
 |_=>exact q.elim
def zco(hA:DE X c a A)(hB:DE X c b B)(hK:c.K=X.K:=by rfl):DE X c (.BinOp a .Add b pos) (binW addD A B):=zmP zsy (zpw hK) zqN hA hB
def zr1:OpD c subD (rI0 λi j=>.int (i-j)):=by
 intro H G x y u v Q gh bx h0 rx ry q;cases x with
 |int i=>cases y with
  |int j=>cases rx;cases ry;exact⟨i,j,rfl,rfl,q _ H G (Stp.refl gh bx) rfl⟩
  |_=>exact q.elim
 |_=>exact q.elim
def zfj(hA:DE X c a A)(hB:DE X c b B):DE X c (.BinOp a .Sub b pos) (binW subD A B):=zmP zsE zm8 zr1 hA hB
def zsi:R2:=λx y H Q=>rI CMul (λi j=>.int (i*j)) x y H Q\/rRep x y H Q
def zrw:OpD c mulD zsi:=by
 intro H G x y u v Q gh bx h0 rx ry q;cases x with
 |int i=>cases y with
  |int j=>cases rx;cases ry;exact .inl ⟨i,j,rfl,rfl,q.1,q.2 _ H G (Stp.refl gh bx) rfl⟩
  |_=>exact q.elim
 |lst n xs=>cases y with
  |int k=>
   obtain⟨a,vs,rfl,ha,_,rv⟩:=rx;cases ry;obtain⟨⟨k0,k1,hz⟩,q⟩:=q;refine .inr ⟨a,k,vs,rfl,rfl,gh _ _ ha,by omega,by omega,?_,λp hp=>?_⟩
   .rw[<-rv.length,YAP];have h1:k.toNat<=1000:=by omega
    have:=Nat.mul_le_mul hz h1
    omega
   .have hg:=zas gh hp
    have:∀m:Nat,Reps c G (List.replicate m xs).flatten (List.replicate m vs).flatten:=λm=>by
     induction m with
     |zero=>rfl
     |succ m ih=>rw[YAT,YAT,YBm,YBm];exact rv.append ih
    exact q (.ref p) _ _ (Stp.new gh bx hp) ⟨p,_,rfl,zac,λ_=>h0 p hp,(this _).mono (zcc hg)⟩
  |_=>exact q.elim
 |_=>exact q.elim
def zn5(hA:DE X c a A)(hB:DE X c b B):DE X c (.BinOp a .Mult b pos) (binW mulD A B):=zmP zsF (op_mul.or zlV) zrw hA hB
def zrY:OpD c modD (rI (λ_ j=>0<j) λi j=>.int (i % j)):=by
 intro H G x y u v Q gh bx h0 rx ry q;cases x with
 |int i=>cases y with
  |int j=>cases rx;cases ry;exact⟨i,j,rfl,rfl,q.1,q.2 _ H G (Stp.refl gh bx) rfl⟩
  |_=>exact q.elim
 |_=>exact q.elim
def zqT(hA:DE X c a A)(hB:DE X c b B):DE X c (.BinOp a .Mod b pos) (binW modD A B):=zmP zsz zgY zrY hA hB
def zrD:OpD c powD (rI CPow λi j=>.int (i^j.toNat)):=by
 intro H G x y u v Q gh bx h0 rx ry q;cases x with
 |int i=>cases y with
  |int j=>cases rx;cases ry;exact⟨i,j,rfl,rfl,q.1,q.2 _ H G (Stp.refl gh bx) rfl⟩
  |_=>exact q.elim
 |_=>exact q.elim
def zsO(hA:DE X c a A)(hB:DE X c b B):DE X c (.BinOp a .Pow b pos) (binW powD A B):=zmP zsM znv zrD hA hB
def negD:D->(D->Prop)->Prop
 |.int i,Q=>Q (.int (-i))
 |_,_=>False
@[reducible] def unW(f:D->(D->Prop)->Prop)(A:WE):WE:=λZ Q=>A Z λx=>f x Q
def zqr(hA:DE X c a A):DE X c (.UnaryOp .USub a pos) (unW negD A)where
 mono:=λZ Q Q' k q=>hA.mono Z _ _ (λx z=>by cases x<;>first|exact k _ z|exact z) q
 pe:=zaW (zp9 zlK hA.pe) λY H Q ⟨Z,G,r,q⟩=>⟨Z,G,r,hA.mono Z _ _ (λx z v H' G' t e=>by
  cases x with
  |int i=>exact⟨i,e,z _ H' G' t rfl⟩
  |_=>exact z.elim) q⟩
def cmpD(p:Int->Int->Bool):F2
 |.int i,.int j,Q=>Q (.bl (p i j))
 |_,_,_=>False
def zhk(p:Int->Int->Bool):zbJ (cmpD p):=λx y Q Q' k q=>by
 cases x<;>cases y<;>first|exact k _ q|exact q
def zia(p:Int->Int->Bool):OpD c (cmpD p) (rI0 λi j=>.bl (p i j)):=by
 intro H G x y u v Q gh bx h0 rx ry q;cases x with
 |int i=>cases y with
  |int j=>cases rx;cases ry;exact⟨i,j,rfl,rfl,q _ H G (Stp.refl gh bx) rfl⟩
  |_=>exact q.elim
 |_=>exact q.elim
@[reducible] def ltD:F2:=cmpD λi j=>decide (i<j)
@[reducible] def leD:F2:=cmpD λi j=>decide (i<=j)
@[reducible] def gtD:F2:=cmpD λi j=>decide (j<i)
def d_gt(hA:DE X c a A)(hB:DE X c b B):DE X c (.Compare a [.Gt] [b] pos) (binW gtD A B):=zn2 (zhk _) zqb (zia _) hA hB (zcj _)
def t_lt(hA:DE X c a A)(hB:DE X c b B):DT X c (.Compare a [.Lt] [b] pos) (blW (binW ltD A B)):=zgL (zhk _) znY (zia _) hA hB (zcj _)
def t_gt(hA:DE X c a A)(hB:DE X c b B):DT X c (.Compare a [.Gt] [b] pos) (blW (binW gtD A B)):=zgL (zhk _) zqb (zia _) hA hB (zcj _)
def isN:D->Bool
 |.non=>true
 |_=>false
@[reducible] def isNW(A:WE):WE:=λZ Q=>A Z λx=>Q (.bl (isN x))
@[reducible] def zlh(A:WE):WE:=λZ Q=>A Z λx=>Q (.bl (!isN x))
def zjC(h:Rep c G d v):decide (v=V.non)=isN d:=by
 cases d with
 |non=>have:v=V.non:=h;subst this;rfl
 |bl b=>have:v=V.bl b:=h;subst this;rfl
 |int b=>have:v=V.int b:=h;subst this;rfl
 |str b=>have:v=V.str b:=h;subst this;rfl
 |box=>have:v=V.ref c.β:=h;subst this;rfl
 |tup xs=>obtain⟨a,vs,rfl,_⟩:=h;rfl
 |lst n xs=>obtain⟨a,vs,rfl,_⟩:=h;rfl
def zkl(m:zbz A):zbz (isNW A):=λZ Q Q' k q=>m Z _ _ (λx z=>k _ z) q
def znE(m:zbz A):zbz (zlh A):=λZ Q Q' k q=>m Z _ _ (λx z=>k _ z) q
def zrx(hA:DE X c a A):DE X c (.Compare a [.Is] [.Constant .none j pos'] pos) (isNW A):=
 ⟨zkl hA.mono,zaW (zr2 (zpq hA.pe)) λY H Q ⟨Z,G,r,q⟩=>⟨Z,G,r,hA.mono Z _ _ (λx z v H' G' t e=>by show Q (V.bl (decide (v=V.non))) H';rw[zjC e];exact z _ H' G' t rfl) q⟩⟩
def zou(hA:DE X c a A):DT X c (.Compare a [.Is] [.Constant .none j pos'] pos) (blW (isNW A)):=
 ⟨zhr (zkl hA.mono),zfL (zik (zpq hA.pe)) λY H Q ⟨Z,G,r,q⟩=>⟨Z,G,r,hA.mono Z _ _ (λx z v H' G' t e=>⟨_,rfl,by rw[zjC e];exact z H' G' t⟩) q⟩⟩
def zkQ(hA:DE X c a A):DT X c (.Compare a [.IsNot] [.Constant .none j pos'] pos) (blW (zlh A)):=
 ⟨zhr (znE hA.mono),zfL (zik (zql hA.pe)) λY H Q ⟨Z,G,r,q⟩=>⟨Z,G,r,hA.mono Z _ _ (λx z v H' G' t e=>⟨_,rfl,by rw[zjC e];exact z H' G' t⟩) q⟩⟩
end
mutual
def toPy:D->PyData
 |.non=>.none
 |.bl b=>.bool b
 |.int i=>.int i
 |.str x=>.str x
 |.box=>.none
 |.tup xs=>.tuple (zb3 xs)
 |.lst _ xs=>.list (zb3 xs)
def zb3:List D->List PyData
 |[]=>[]
 |x::xs=>toPy x::zb3 xs
end
mutual
def layD:D->Bool
 |.non=>true
 |.bl _=>true
 |.int _=>true
 |.str x=>PyData.canLay0 (.str x)
 |.box=>false
 |.tup xs=>zcH xs
 |.lst _ xs=>zcH xs
def zcH:List D->Bool
 |[]=>true
 |x::xs=>layD x&&zcH xs
end
mutual
theorem zcY:∀d:D,layD d=true->(toPy d).canLay0=true
 |.non,_=>by unfold toPy PyData.canLay0;rfl
 |.bl _,_=>by unfold toPy PyData.canLay0;rfl
 |.int _,_=>by unfold toPy PyData.canLay0;rfl
 |.str _,h=>by unfold toPy;unfold layD at h;exact h
 |.tup xs,h=>by unfold toPy PyData.canLay0;unfold layD at h;exact zcX xs h
 |.lst _ xs,h=>by unfold toPy PyData.canLay0;unfold layD at h;exact zcX xs h
theorem zcX:∀ds:List D,zcH ds=true->PyData.canLayAll0 (zb3 ds)=true
 |[],_=>by unfold zb3 PyData.canLayAll0;rfl
 |x::xs,h=>by
  unfold zb3 PyData.canLayAll0;unfold zcH at h
  have:=(YAI _ _▸h:layD x=true/\zcH xs=true)
  rw[zcY x this.1,zcX xs this.2];rfl
end
section
variable{X:Cx}
mutual
theorem Rep.reads(hK:c.K=X.K)(I:Inv X O Y H s)(gh:Same G H):∀(d:D){v:V}{u:Value},Rep c G d v->RelV v u->layD d=true->∃as,Reads s.heap u (toPy d) as
 |.non,v,u,h,r,_=>by have:v=V.non:=h;subst this;cases r;exact⟨_,.none⟩
 |.bl b,v,u,h,r,_=>by have:v=V.bl b:=h;subst this;cases r;exact⟨_,.bool b⟩
 |.int i,v,u,h,r,_=>by have:v=V.int i:=h;subst this;obtain⟨t,rfl⟩:=r;exact⟨_,.int i t⟩
 |.str i,v,u,h,r,_=>by have:v=V.str i:=h;subst this;obtain⟨t,rfl⟩:=r;exact⟨_,.str i t⟩
 |.box,v,u,h,r,l=>by cases l
 |.tup xs,v,u,⟨a,vs,h1,h2,h3⟩,r,l=>by
  subst h1;cases r;obtain⟨its,rv,p,_⟩:=I.tuple (hK▸zaT gh h2);obtain⟨as,q⟩:=Reps.reads hK I gh xs h3 rv l;obtain⟨o,ho,hc,n,hd⟩:=p;unfold toPy;exact⟨_,.tuple ho hc hd (by simpa using q)⟩
 |.lst _ xs,v,u,⟨a,vs,h1,h2,_,h3⟩,r,l=>by
  subst h1;cases r;obtain⟨_,its,n,rv,ho⟩:=I.hok a _ (gh _ _ h2);obtain⟨as,q⟩:=Reps.reads hK I gh xs h3 rv l;unfold toPy;exact⟨_,.list ho rfl rfl (by simpa using q)⟩
theorem Reps.reads(hK:c.K=X.K)(I:Inv X O Y H s)(gh:Same G H):∀(ds:List D){vs:List V}{us:List Value},Reps c G ds vs->Vals vs us->zcH ds=true->∃as,ReadsAll s.heap us (zb3 ds) as
 |[],vs,us,h,r,_=>by have:vs=[]:=h;subst this;cases r;exact⟨_,.nil⟩
 |x::xs,vs,us,⟨v,ws,h1,h2,h3⟩,r,l=>by
  subst h1;cases r with
  |cons r1 r2=>
   unfold zcH at l;have l':=(YAI _ _▸l:layD x=true/\zcH xs=true);obtain⟨as,q1⟩:=Rep.reads hK I gh x h2 r1 l'.1;obtain⟨bs,q2⟩:=Reps.reads hK I gh xs h3 r2 l'.2;exact⟨_,.cons q1 q2⟩
end
def eqB(x y:D):Bool:=PyData.eqv (toPy x) (toPy y)
def eqOk(x y:D):Prop:=layD x=true/\layD y=true/\min (toPy x).depth (toPy y).depth<=50
@[reducible] def eqD:F2:=λx y Q=>eqOk x y/\Q (.bl (eqB x y))
@[reducible] def neD:F2:=λx y Q=>eqOk x y/\Q (.bl (!eqB x y))
def rEqD(c:Bk)(neg:Bool):R2:=λu v H Q=>∃G x y,Same G H/\Rep c G x u/\Rep c G y v/\eqOk x y/\Q (.bl (if neg then !eqB x y else eqB x y)) H
def zpo(hK:c.K=X.K)(hu:X.A.units+64<cLine):OpR X (compareOp .Eq) (rEqD c false):=by
 intro O s Y H u v a b Q I ra rb ⟨G,x,y,gh,hx,hy,⟨lx,ly,ld⟩,q⟩;obtain⟨as,qa⟩:=hx.reads hK I gh x ra lx;obtain⟨bs,qb⟩:=hy.reads hK I gh y rb ly;exact SeqAt.compareEq_reads qa qb (zcY x lx) (zcY y ly) (by omega) ⟨.bl _,H,I,rfl,q⟩
def zo4(hK:c.K=X.K)(hu:X.A.units+64<cLine):OpR X (compareOp .NotEq) (rEqD c true):=by
 intro O s Y H u v a b Q I ra rb ⟨G,x,y,gh,hx,hy,⟨lx,ly,ld⟩,q⟩;obtain⟨as,qa⟩:=hx.reads hK I gh x ra lx;obtain⟨bs,qb⟩:=hy.reads hK I gh y rb ly;exact SeqAt.compareNe_reads qa qb (zcY x lx) (zcY y ly) (by omega) ⟨.bl _,H,I,rfl,q⟩
def m_eq:zbJ eqD:=λx y Q Q' k q=>⟨q.1,k _ q.2⟩
def m_ne:zbJ neD:=λx y Q Q' k q=>⟨q.1,k _ q.2⟩
def zrr:OpD c eqD (rEqD c false):=λH G x y u v Q gh bx h0 rx ry q=>⟨G,x,y,gh,rx,ry,q.1,q.2 _ H G (Stp.refl gh bx) rfl⟩
def zrP:OpD c neD (rEqD c true):=λH G x y u v Q gh bx h0 rx ry q=>⟨G,x,y,gh,rx,ry,q.1,q.2 _ H G (Stp.refl gh bx) rfl⟩
def inOk(x:D)(ys:List D):Prop:=layD x=true/\zcH ys=true/\min (PyData.depthAll (zb3 ys)) (toPy x).depth<=50
def inB(x:D)(ys:List D):Bool:=(zb3 ys).any λy=>PyData.eqv y (toPy x)
def inD(neg:Bool):F2
 |x,.lst _ ys,Q=>inOk x ys/\Q (.bl (if neg then !inB x ys else inB x ys))
 |x,.tup ys,Q=>inOk x ys/\Q (.bl (if neg then !inB x ys else inB x ys))
 |_,_,_=>False
def rInD(c:Bk)(neg:Bool):R2:=λu v H Q=>∃G x y,Same G H/\Rep c G x u/\Rep c G y v/\inD neg x y λd=>∃b,d=.bl b/\Q (.bl b) H
def zpk(hK:c.K=X.K)(hu:X.A.units+64<cLine):OpR X (compareOp .In) (rInD c false):=by
 intro O s Y H u v a b Q I ra rb ⟨G,x,y,gh,hx,hy,q⟩;cases y with
 |lst n ys=>
  obtain⟨⟨lx,ly,ld⟩,_,e,q⟩:=q;cases e;obtain⟨as,qa⟩:=hx.reads hK I gh x ra lx;obtain⟨bs,qb⟩:=hy.reads hK I gh (.lst n ys) rb (by unfold layD;exact ly);unfold toPy at qb;exact SeqAt.in_list_reads qb qa (zcX ys ly) (zcY x lx) (by omega) ⟨.bl _,H,I,rfl,q⟩
 |tup ys=>
  obtain⟨⟨lx,ly,ld⟩,_,e,q⟩:=q;cases e;obtain⟨as,qa⟩:=hx.reads hK I gh x ra lx;obtain⟨bs,qb⟩:=hy.reads hK I gh (.tup ys) rb (by unfold layD;exact ly);unfold toPy at qb;exact SeqAt.in_tuple_reads qb qa (zcX ys ly) (zcY x lx) (by omega) ⟨.bl _,H,I,rfl,q⟩
 |_=>exact q.elim
def zl3(hK:c.K=X.K)(hu:X.A.units+64<cLine):OpR X (compareOp .NotIn) (rInD c true):=by
 intro O s Y H u v a b Q I ra rb ⟨G,x,y,gh,hx,hy,q⟩;cases y with
 |lst n ys=>
  obtain⟨⟨lx,ly,ld⟩,_,e,q⟩:=q;cases e;obtain⟨as,qa⟩:=hx.reads hK I gh x ra lx;obtain⟨bs,qb⟩:=hy.reads hK I gh (.lst n ys) rb (by unfold layD;exact ly);unfold toPy at qb;exact SeqAt.notIn_list_reads qb qa (zcX ys ly) (zcY x lx) (by omega) ⟨.bl _,H,I,rfl,q⟩
 |tup ys=>
  obtain⟨⟨lx,ly,ld⟩,_,e,q⟩:=q;cases e;obtain⟨as,qa⟩:=hx.reads hK I gh x ra lx;obtain⟨bs,qb⟩:=hy.reads hK I gh (.tup ys) rb (by unfold layD;exact ly);unfold toPy at qb;exact SeqAt.notIn_tuple_reads qb qa (zcX ys ly) (zcY x lx) (by omega) ⟨.bl _,H,I,rfl,q⟩
 |_=>exact q.elim
def m_in(neg:Bool):zbJ (inD neg):=λx y Q Q' k q=>by
 cases y<;>first|exact⟨q.1,k _ q.2⟩|exact q
def zqn(neg:Bool):OpD c (inD neg) (rInD c neg):=λH G x y u v Q gh bx h0 rx ry q=>⟨G,x,y,gh,rx,ry,by
 cases y with
 |lst n ys=>exact⟨q.1,_,rfl,q.2 _ H G (Stp.refl gh bx) rfl⟩
 |tup ys=>exact⟨q.1,_,rfl,q.2 _ H G (Stp.refl gh bx) rfl⟩
 |_=>exact q.elim⟩
section
variable{c:Bk}{a b:Expr}{A B:WE}{pos:Pos}
def d_eq(hA:DE X c a A)(hB:DE X c b B)(hK:c.K=X.K:=by rfl)(hu:X.A.units+64<cLine:=by decreasing_trivial):DE X c (.Compare a [.Eq] [b] pos) (binW eqD A B):=zn2 m_eq (zpo hK hu) zrr hA hB (zcj _)
def d_ne(hA:DE X c a A)(hB:DE X c b B)(hK:c.K=X.K:=by rfl)(hu:X.A.units+64<cLine:=by decreasing_trivial):DE X c (.Compare a [.NotEq] [b] pos) (binW neD A B):=zn2 m_ne (zo4 hK hu) zrP hA hB (zcj _)
def t_eq(hA:DE X c a A)(hB:DE X c b B)(hK:c.K=X.K:=by rfl)(hu:X.A.units+64<cLine:=by decreasing_trivial):DT X c (.Compare a [.Eq] [b] pos) (blW (binW eqD A B)):=zgL m_eq (zpo hK hu) zrr hA hB (zcj _)
def t_ne(hA:DE X c a A)(hB:DE X c b B)(hK:c.K=X.K:=by rfl)(hu:X.A.units+64<cLine:=by decreasing_trivial):DT X c (.Compare a [.NotEq] [b] pos) (blW (binW neD A B)):=zgL m_ne (zo4 hK hu) zrP hA hB (zcj _)
def d_in(hA:DE X c a A)(hB:DE X c b B)(hm:behindInMarks .In b=false:=by with_unfolding_all rfl)(hK:c.K=X.K:=by rfl)(hu:X.A.units+64<cLine:=by decreasing_trivial):DE X c (.Compare a [.In] [b] pos) (binW (inD false) A B):=zn2 (m_in _) (zpk hK hu) (zqn _) hA hB hm
def t_in(hA:DE X c a A)(hB:DE X c b B)(hm:behindInMarks .In b=false:=by with_unfolding_all rfl)(hK:c.K=X.K:=by rfl)(hu:X.A.units+64<cLine:=by decreasing_trivial):DT X c (.Compare a [.In] [b] pos) (blW (binW (inD false) A B)):=zgL (m_in _) (zpk hK hu) (zqn _) hA hB hm
def zg5(hA:DE X c a A)(hB:DE X c b B)(hm:behindInMarks .NotIn b=false:=by with_unfolding_all rfl)(hK:c.K=X.K:=by rfl)(hu:X.A.units+64<cLine:=by decreasing_trivial):DT X c (.Compare a [.NotIn] [b] pos) (blW (binW (inD true) A B)):=zgL (m_in _) (zl3 hK hu) (zqn _) hA hB hm
def truB:D->Option Bool
 |.non=>some false
 |.bl b=>some b
 |.int i=>some (i != 0)
 |.lst _ xs=>some (!xs.isEmpty)
 |.tup xs=>some (!xs.isEmpty)
 |_=>none
def truD(d:D)(Q:Bool->Prop):Prop:=match truB d with|some b=>Q b|none=>False
@[reducible] def truW(A:WE):WT:=λZ Q=>A Z λd=>truD d Q
def zqI(gh:Same G H)(h:Rep c G d v)(e:truB d=some k):TruV c.K v H k:=by
 cases d with
 |non=>cases h;cases e;rfl
 |bl b=>cases h;cases e;rfl
 |int i=>cases h;cases e;rfl
 |lst n xs=>
  obtain⟨a,vs,rfl,h1,_,h2⟩:=h;cases e;refine .inl ⟨vs,.inl (.inl (gh _ _ h1)),?_⟩
  have:=h2.length
  cases xs<;>cases vs<;>first|rfl|simp at this
 |tup xs=>
  obtain⟨a,vs,rfl,h1,h2⟩:=h;cases e;refine .inr (.inl ⟨vs,zaT gh h1,?_⟩)
  have:=h2.length
  cases xs<;>cases vs<;>first|rfl|simp at this
 |str x=>cases e
 |box=>cases e
def zmC(d:D)(k:∀b,Q b->Q' b)(q:truD d Q):truD d Q':=by
 unfold truD at q ⊢;split at q
 .exact k _ q
 .exact q.elim
def zck(hA:DE X c a A)(he:∀whole,isTrue a X.env whole=(do let v <-whole;standAt a.pos;holding [v] (truthy v)):=by intro _;rfl)(hK:c.K=X.K:=by rfl):DT X c a (truW A)where
 mono:=λZ Q Q' k q=>hA.mono Z _ _ (λd z=>zmC d k z) q
 pt:=zfL (zko hA.pe he) λY H Q ⟨Z,G,r,q⟩=>⟨Z,G,r,hA.mono Z _ _ (λd z v H' G' t e=>by
  unfold truD at z;split at z
  .rename_i k hk
   exact⟨k,hK▸zqI t.gh e hk,z H' G' t⟩
  .exact z.elim) q⟩
@[reducible] def notT(A:WT):WT:=λZ Q=>A Z λb=>Q (!b)
def zcp{A:WT}(hA:DT X c a A):DT X c (.UnaryOp .Not a pos) (notT A)where
 mono:=λZ Q Q' k q=>hA.mono Z _ _ (λd z=>k _ z) q
 pt:=zfL (zq9 hA.pt) λY H Q ⟨Z,G,r,q⟩=>⟨Z,G,r,q⟩
@[reducible] def andT(A B:WT):WT:=λZ Q=>A Z λb=>if b=true then B Z Q else Q false
@[reducible] def orT(A B:WT):WT:=λZ Q=>A Z λb=>if b=true then Q true else B Z Q
structure DW(X:Cx)(c:Bk)(e:Expr)(W:WT):Prop where
 mono:zdX W
 pw:PW X e (tDt c W)
def DW.dt(h:DW X c a W):DT X c a W:=⟨h.mono,h.pw.pt⟩
def zpg(h:PW X e t)(k:∀ Y H Q,t' Y H Q->t Y H Q):PW X e t':=λwh O s Y H Q I q=>h wh O s Y H Q I (k Y H Q q)
def zmD{A:WT}(hA:DT X c a A):DW X c (.BoolOp .And [a] pos) A:=⟨hA.mono,zjy hA.pt⟩
def zcQ{A:WT}(hA:DT X c a A):DW X c (.BoolOp .Or [a] pos) A:=⟨hA.mono,zrT hA.pt⟩
def zor{A B:WT}{rest:List Expr}(hA:DT X c a A)(hB:DW X c (.BoolOp .And (b::rest) pos) B):DW X c (.BoolOp .And (a::b::rest) pos) (andT A B)where
 mono:=λZ Q Q' k q=>hA.mono Z _ _ (λd z=>by
  cases d
  .exact k _ z
  .exact hB.mono Z _ _ k z) q
 pw:=zpg (znx hA.pt hB.pw) λY H Q ⟨Z,G,r,q⟩=>⟨Z,G,r,hA.mono Z _ _ (λd z H' G' t=>by
  cases d
  .exact z H' G' t
  .exact⟨Z,G',r.step t,hB.mono Z _ _ (λb' z' H2 G2 t2=>z' H2 G2 (t.trans t2)) z⟩) q⟩
def w_or{A B:WT}{rest:List Expr}(hA:DT X c a A)(hB:DW X c (.BoolOp .Or (b::rest) pos) B):DW X c (.BoolOp .Or (a::b::rest) pos) (orT A B)where
 mono:=λZ Q Q' k q=>hA.mono Z _ _ (λd z=>by
  cases d
  .exact hB.mono Z _ _ k z
  .exact k _ z) q
 pw:=zpg (zsU hA.pt hB.pw) λY H Q ⟨Z,G,r,q⟩=>⟨Z,G,r,hA.mono Z _ _ (λd z H' G' t=>by
  cases d
  .exact⟨Z,G',r.step t,hB.mono Z _ _ (λb' z' H2 G2 t2=>z' H2 G2 (t.trans t2)) z⟩
  .exact z H' G' t) q⟩
def blD(d:D)(Q:Bool->Prop):Prop:=match d with|.bl b=>Q b|_=>False
def zhE(d:D)(k:∀b,Q b->Q' b)(q:blD d Q):blD d Q':=by
 cases d<;>first|exact k _ q|exact q
@[reducible] def andW(A B:WE):WE:=λZ Q=>A Z λx=>blD x λk=>if k=true then B Z Q else Q (.bl false)
@[reducible] def notW(A:WE):WE:=λZ Q=>A Z λx=>blD x λk=>Q (.bl (!k))
def zhm(hA:DE X c a A):DE X c (.BoolOp op [a] pos) A:=⟨hA.mono,zri hA.pe⟩
def zg9{rest:List Expr}(hA:DE X c a A)(hB:DE X c (.BoolOp .And (b::rest) pos) B):DE X c (.BoolOp .And (a::b::rest) pos) (andW A B)where
 mono:=λZ Q Q' k q=>hA.mono Z _ _ (λd z=>zhE d (λb z=>by
  cases b
  .exact k _ z
  .exact hB.mono Z _ _ k z) z) q
 pe:=zaW (zq4 hA.pe hB.pe) λY H Q ⟨Z,G,r,q⟩=>⟨Z,G,r,hA.mono Z _ _ (λd z v H' G' t e=>by
  cases d with
  |bl k=>
   refine⟨k,e,?_⟩;cases k
   .exact z _ H' G' t rfl
   .exact⟨Z,G',r.step t,hB.mono Z _ _ (λb' z' v2 H2 G2 t2=>z' v2 H2 G2 (t.trans t2)) z⟩
  |_=>exact z.elim) q⟩
def zqK(hA:DE X c a A):DE X c (.UnaryOp .Not a pos) (notW A)where
 mono:=λZ Q Q' k q=>hA.mono Z _ _ (λd z=>zhE d (λb z=>k _ z) z) q
 pe:=zaW (zrX hA.pe) λY H Q ⟨Z,G,r,q⟩=>⟨Z,G,r,hA.mono Z _ _ (λd z v H' G' t e=>by
  cases d with
  |bl k=>exact⟨k,e,z _ H' G' t rfl⟩
  |_=>exact z.elim) q⟩
@[reducible] def ifW(C:WT)(A B:WE):WE:=λZ Q=>C Z λk=>if k=true then A Z Q else B Z Q
def d_if(hC:DT X c ce C)(hA:DE X c a A)(hB:DE X c b B):DE X c (.IfExp ce a b pos) (ifW C A B)where
 mono:=λZ Q Q' k q=>hC.mono Z _ _ (λd z=>by
  cases d
  .exact hB.mono Z _ _ k z
  .exact hA.mono Z _ _ k z) q
 pe:=zaW (zog hC.pt hA.pe hB.pe) λY H Q ⟨Z,G,r,q⟩=>⟨Z,G,r,hC.mono Z _ _ (λd z H' G' t=>by
  cases d
  .exact⟨Z,G',r.step t,hB.mono Z _ _ (λb' z' v2 H2 G2 t2=>z' v2 H2 G2 (t.trans t2)) z⟩
  .exact⟨Z,G',r.step t,hA.mono Z _ _ (λb' z' v2 H2 G2 t2=>z' v2 H2 G2 (t.trans t2)) z⟩) q⟩
@[reducible] def ziH(f g:F2)(A B C:WE):WE:=λZ Q=>A Z λx=>B Z λy=>f x y λz=>blD z λk=>if k=true then C Z λw=>g y w Q else Q (.bl false)
end
end
section
variable{X:Cx}{c:Bk}{a b e:Expr}{A B:WE}{pos p:Pos}{es:List Expr}
@[reducible] def nilA:WL:=λ_ Q=>Q []
@[reducible] def zab(A:WE)(R:WL):WL:=λZ Q=>A Z λd=>R Z λds=>Q (d::ds)
def zaj:DA X c [] nilA:=⟨λ_ _ _ k q=>k _ q,zpn zav λY H Q ⟨Z,G,r,q⟩=>q [] H G r.refl rfl⟩
def zaa(hA:DE X c e A)(hR:DA X c es R)(hs:starEach (e::es) X.env=(false,eval e X.env)::starEach es X.env:=by rfl):DA X c (e::es) (zab A R)where
 mono:=λZ Q Q' k q=>hA.mono Z _ _ (λd z=>hR.mono Z _ _ (λds y=>k _ y) z) q
 pa:=zpn (zah hA.pe hR.pa hs) λY H Q ⟨Z,G,r,q⟩=>⟨Z,G,r,hA.mono Z _ _ (λd z v H1 G1 t1 e1=>⟨Z,G1,r.step t1,hR.mono Z _ _ (λds y vs H2 G2 t2 e2=>
  y (v::vs) H2 G2 (t1.trans t2) ⟨v,vs,rfl,e1.mono t2.gg,e2⟩) z⟩) q⟩
@[reducible] def tupW(R:WL):WE:=λZ Q=>R Z λds=>ds.length<=100000/\Q (.tup ds)
def zbI(hR:DA X c es R):DE X c (.Tuple es x1 pos) (tupW R)where
 mono:=λZ Q Q' k q=>hR.mono Z _ _ (λds z=>⟨z.1,k _ z.2⟩) q
 pe:=zaW (zd5 hR.pa) λY H Q ⟨Z,G,r,q⟩=>⟨Z,G,r,hR.mono Z _ _ (λds z vs H' G' t e=>⟨by rw[<-e.length];exact small5 z.1,λp hp=>
  z.2 (.ref p) _ _ (t.trans (Stp.new t.gh t.bx hp)) ⟨p,vs,rfl,SqT.of zac,e.mono (zcc (zas t.gh hp))⟩⟩) q⟩
@[reducible] def lstW(R:WL):WL:=λZ Q=>R Z λds=>ds.length<=100000/\Q ds
def zcf(hR:DA X c es R):DF X c (.List es pos) (lstW R)where
 mono:=λZ Q Q' k q=>hR.mono Z _ _ (λds z=>⟨z.1,k _ z.2⟩) q
 pe:=zaW (zd1 hR.pa) λY H Q ⟨Z,G,r,q⟩=>⟨Z,G,r,hR.mono Z _ _ (λds z vs H' G' t e=>⟨by rw[<-e.length];exact small5 z.1,λp hp=>
  z.2 p vs _ _ (t.trans (Stp.own t.gh t.bx hp)) zac (zas t.gh hp) (t.free hp) e⟩) q⟩
def zjB(h:Reps c G ds vs)(e:atI ds i=some d):∃v,atI vs i=some v/\Rep c G d v:=by
 unfold atI at e ⊢;rw[h.length]at e;cases z:ixN vs.length i with
 |none=>rw[z]at e;cases e
 |some j=>rw[z]at e;exact h.get e
def itD(xs:List D)(y:D)(Q:D->Prop):Prop:=match y with|.int i=>(match atI xs i with|some d=>Q d|none=>False)|_=>False
def ixD:F2
 |.lst _ xs,y,Q=>itD xs y Q
 |.tup xs,y,Q=>itD xs y Q
 |_,_,_=>False
def zkJ(k:∀d,Q d->Q' d)(q:itD xs y Q):itD xs y Q':=by
 cases y with
 |int i=>
  unfold itD at q ⊢;simp only at q ⊢;split at q
  .exact k _ q
  .exact q.elim
 |_=>exact q
def m_ix:zbJ ixD:=λx y Q Q' k q=>by
 cases x<;>first|exact zkJ k q|exact q
def zro:OpD c ixD (rIx c.K):=by
 intro H G x y u v Q gh bx h0 rx ry q;cases x with
 |lst n xs=>
  obtain⟨a,vs,rfl,ha,_,rv⟩:=rx;cases y with
  |int i=>
   cases ry;have q:(match atI xs i with|some d=>_|none=>False):=q;split at q
   .rename_i d e
    obtain⟨w,e',rw'⟩:=zjB rv e;exact .inl ⟨a,vs,i,w,rfl,rfl,SqL.of (gh _ _ ha),e',q w H G (Stp.refl gh bx) rw'⟩
   .exact q.elim
  |_=>exact q.elim
 |tup xs=>
  obtain⟨a,vs,rfl,ha,rv⟩:=rx;cases y with
  |int i=>
   cases ry;have q:(match atI xs i with|some d=>_|none=>False):=q;split at q
   .rename_i d e
    obtain⟨w,e',rw'⟩:=zjB rv e;exact .inr (.inl ⟨a,vs,i,w,rfl,rfl,zaT gh ha,e',q w H G (Stp.refl gh bx) rw'⟩)
   .exact q.elim
  |_=>exact q.elim
 |_=>exact q.elim
def d_ix(hA:DE X c a A)(hB:DE X c b B)(hs:zg2 b:=by intro _ _;rfl)(hK:c.K=X.K:=by rfl):DE X c (.Subscript a b pos) (binW ixD A B):=
 ⟨zeb m_ix hA.mono hB.mono,zaW (zcW (hK▸zo7) hA.pe hB.pe hs) λY H Q h=>zfo m_ix hA.mono hB.mono zro Y H Q h⟩
def ixvW(i:Nat)(B:WE):WE:=λZ Q=>match Z[i]? with
 |some (.val d)=>B Z λy=>ixD d y Q
 |some (.own xs)=>B Z λy=>itD xs y Q
 |_=>False
def zaK(i:Nat)(hB:DE X c b B)(hs:zg2 b:=by intro _ _;rfl)(hN:X.N[i]?=some x:=by rfl)(hv:Vis X.env.scope x:=by first|exact Or.inl rfl|exact Or.inr (Or.inl rfl)|exact Or.inr (Or.inr rfl))
  (hd:(x==("__debug__":Str))=false:=by decide) (hcd:(x==("__classdict__":Str))=false:=by decide) (hK:c.K=X.K:=by rfl):DE X c (.Subscript (.Name x p) b pos) (ixvW i B)where
 mono:=λZ Q Q' k q=>by
  unfold ixvW at q ⊢;split at q
  .exact hB.mono Z _ _ (λy z=>m_ix _ y _ _ k z) q
  .exact hB.mono Z _ _ (λy z=>zkJ k z) q
  .exact q.elim
 pe:=zaW (zcW (hK▸zo7 (X:=X)) (zdK hN hv hd hcd) hB.pe hs) λY H Q ⟨Z,G,r,q⟩=>by
  unfold ixvW at q;split at q
  .rename_i d e
   obtain⟨v,h1,h2⟩:=r.slot i _ e;refine⟨v,h1,Z,G,r,hB.mono Z _ _ (λy z w H1 G1 t1 e1=>?_) q⟩;exact zro H1 G1 d y v w Q t1.gh t1.bx (λa z=>r.new0 (t1.free z)) (h2.mono t1.gg) e1 (m_ix d y _ _ (λd' z' w' H2 G2 t2 e2=>z' w' H2 G2 (t1.trans t2) e2) z)
  .rename_i xs e
   obtain⟨a,vs,h1,h2,h3,h4,h5,h6⟩:=r.slot i _ e;refine⟨.ref a,h1,Z,G,r,hB.mono Z _ _ (λy z w H1 G1 t1 e1=>?_) q⟩;cases y with
   |int k=>
    cases e1;have z:(match atI xs k with|some d=>_|none=>False):=z;split at z
    .rename_i d' e'
     obtain⟨w',f,rw'⟩:=zjB h6 e';exact .inl ⟨a,vs,k,w',rfl,rfl,SqL.of (t1.fr a _ h5 h2),f,z w' H1 G1 t1 (rw'.mono t1.gg)⟩
    .exact z.elim
   |_=>exact z.elim
  .exact q.elim
def cutD{α:Type}(xs:List α)(lo hi:Option Int):List α:=(xs.drop (HT.sIx xs.length 0 lo)).take (HT.sIx xs.length xs.length hi-HT.sIx xs.length 0 lo)
def Reps.cut(h:Reps c G ds vs)(lo hi:Option Int):Reps c G (cutD ds lo hi) (cutV vs lo hi):=by
 unfold cutD cutV;rw[h.length];exact(h.drop _).take _
abbrev WO:=Env->(Option Int->Prop)->Prop
structure DO(X:Cx)(c:Bk)(e:Option Expr)(W:WO):Prop where
 mono:∀ Z Q Q',(∀d,Q d->Q' d)->W Z Q->W Z Q'
 po:PO X e λY H Q=>∃ Z G,Rel c Z Y H G/\W Z λo=>∀H' G',Stp c.β H G H' G'->Q o H'
@[reducible] def noO:WO:=λ_ Q=>Q none
def zlB(A:WE):WO:=λZ Q=>A Z λd=>match d with|.int i=>Q (some i)|_=>False
def zjq:DO X c none noO:=⟨λ_ _ _ k q=>k _ q,λO s Y H Q I ⟨Z,G,r,q⟩=>zhI O s Y H Q I (q H G r.refl)⟩
def zil(hA:DE X c a A):DO X c (some a) (zlB A)where
 mono:=λZ Q Q' k q=>hA.mono Z _ _ (λd z=>by cases d<;>first|exact k _ z|exact z) q
 po:=λO s Y H Q I ⟨Z,G,r,q⟩=>zg6 hA.pe O s Y H Q I ⟨Z,G,r,hA.mono Z _ _ (λd z v H' G' t e=>by
  cases d with
  |int i=>exact⟨i,e,z H' G' t⟩
  |_=>exact z.elim) q⟩
def slD(x:D)(lo hi:Option Int)(Q:D->Prop):Prop:=match x with
 |.lst _ xs=>Q (.lst true (cutD xs lo hi))
 |.tup xs=>Q (.tup (cutD xs lo hi))
 |_=>False
@[reducible] def slW(A:WE)(L U:WO):WE:=λZ Q=>A Z λx=>L Z λl=>U Z λu=>slD x l u Q
def zoP(k:∀d,Q d->Q' d)(q:slD x lo hi Q):slD x lo hi Q':=by
 cases x<;>first|exact k _ q|exact q
def d_sl(hA:DE X c a A)(hL:DO X c lo L)(hU:DO X c hi U)(hK:c.K=X.K:=by rfl):DE X c (.Subscript a (.Slice lo hi none p2) pos) (slW A L U)where
 mono:=λZ Q Q' k q=>hA.mono Z _ _ (λd z=>hL.mono Z _ _ (λl y=>hU.mono Z _ _ (λu x=>zoP k x) y) z) q
 pe:=zaW (zfs (sl_list.or zpx) hA.pe hL.po hU.po) λY H Q ⟨Z,G,r,q⟩=>⟨Z,G,r,hA.mono Z _ _ (λd z v H1 G1 t1 e1=>⟨Z,G1,r.step t1,hL.mono Z _ _ (λl y H2 G2 t2=>⟨Z,G2,(r.step t1).step t2,hU.mono Z _ _ (λu x H3 G3 t3=>by
  have t:=(t1.trans t2).trans t3;have e3:=(e1.mono t2.gg).mono t3.gg;cases d with
  |lst n xs=>
   obtain⟨p,vs,rfl,hp,_,rv⟩:=e3;exact .inl ⟨p,vs,rfl,SqL.of (t3.gh _ _ hp),λl hl=>x (.ref l) _ _ (t.trans (Stp.new t3.gh t3.bx hl)) ⟨l,_,rfl,zac,λ_=>r.new0 (t.free hl),(rv.cut _ _).mono (zcc (zas t3.gh hl))⟩⟩
  |tup xs=>
   obtain⟨p,vs,rfl,hp,rv⟩:=e3;exact .inr ⟨p,vs,rfl,hK▸zaT t3.gh hp,λe=>x (.ref p) H3 G3 t ⟨p,vs,rfl,hp,by have:=rv.cut l u;rw[e]at this;exact this⟩,λl hl=>x (.ref l) _ _ (t.trans (Stp.new t3.gh t3.bx hl)) ⟨l,_,rfl,SqT.of zac,(rv.cut _ _).mono (zcc (zas t3.gh hl))⟩⟩
  |_=>exact x.elim) y⟩) z⟩) q⟩
def zgR(fm:zbJ f)(gm:zbJ g)(mA:zbz A)(mB:zbz B)(mC:zbz C):zbz (ziH f g A B C):=λZ Q Q' k q=>mA Z _ _ (λx q1=>mB Z _ _ (λy q2=>fm x y _ _ (λz q3=>zhE z (λb q4=>by
 cases b
 .exact k _ q4
 .exact mC Z _ _ (λw q5=>gm y w _ _ k q5) q4) q3) q2) q1) q
def zls(fm:zbJ f)(gm:zbJ g)(mA:zbz A)(mB:zbz B)(mC:zbz C)(hr:OpD c f r)(hr':OpD c g r')(Y:St)(H:Hp)(Q:VK)(h:tD c (ziH f g A B C) Y H Q):zo3 r r' (tD c A) (tD c B) (tD c C) Y H Q:=by
 obtain⟨Z,G,R,q⟩:=h;refine⟨Z,G,R,mA Z _ _ (λx q1 u H1 G1 t1 e1=>⟨Z,G1,R.step t1,mB Z _ _ (λy q2 v H2 G2 t2 e2=>?_) q1⟩) q⟩;refine hr H2 G2 x y u v _ t2.gh t2.bx (λa z=>R.new0 (t1.free (t2.free z))) (e1.mono t2.gg) e2 (fm x y _ _ (λz q3 w H3 G3 t3 e3=>?_) q2);cases z with
 |bl k=>
  refine⟨k,e3,?_⟩;cases k
  .exact q3 _ H3 G3 ((t1.trans t2).trans t3) rfl
  .refine⟨Z,G3,((R.step t1).step t2).step t3,mC Z _ _ (λw' q5 v' H4 G4 t4 e4=>?_) q3⟩;exact hr' H4 G4 y w' v v' Q t4.gh t4.bx (λa z=>R.new0 (t1.free (t2.free (t3.free (t4.free z))))) ((e2.mono t3.gg).mono t4.gg) e4 (gm y w' _ _ (λd z w2 H5 G5 t5 e5=>z w2 H5 G5 ((((t1.trans t2).trans t3).trans t4).trans t5) e5) q5)
 |_=>exact q3.elim
def zpe(hA:DE X c a A)(hB:DE X c b B)(hC:DE X c ce C)(hm:lastMarks [.LtE,.Lt] [b,ce]=false:=by with_unfolding_all rfl):DT X c (.Compare a [.LtE,.Lt] [b,ce] pos) (blW (ziH leD ltD A B C)):=
 ⟨zhr (zgR (zhk _) (zhk _) hA.mono hB.mono hC.mono),zfL (zoh zss znY hA.pe hB.pe hC.pe hm) λY H Q h=>by
  obtain⟨Z,G,R,q⟩:=znK (zgR (zhk _) (zhk _) hA.mono hB.mono hC.mono) Y H Q h;exact zls (zhk _) (zhk _) hA.mono hB.mono hC.mono (zia _) (zia _) Y H _ ⟨Z,G,R,q⟩⟩
end
end Fd
namespace Fd
open PySem L2
def insU(x:Int):List Int->List Int
 |[]=>[x]
 |y::ys=>if x<y then x::y::ys else if x=y then y::ys else y::insU x ys
def zbw:List Int->List Int
 |[]=>[]
 |x::xs=>insU x (zbw xs)
theorem zhD(x:Int):∀(ys:List Int)(k:Int),k∈insU x ys↔k=x\/k∈ys
 |[],k=>by simp[insU]
 |y::ys,k=>by
  unfold insU;split
  .simp
  .split
   .rename_i h;subst h;simp
   .rw[YAk,zhD x ys k,YAk];constructor
    .rintro(h|h|h)
     .exact .inr (.inl h)
     .exact .inl h
     .exact .inr (.inr h)
    .rintro(h|h|h)
     .exact .inr (.inl h)
     .exact .inl h
     .exact .inr (.inr h)
theorem zmp(x:Int):∀(ys:List Int),ys.Pairwise (·<·)->(insU x ys).Pairwise (·<·)
 |[],_=>by simp[insU]
 |y::ys,h=>by
  unfold insU;have h':=YA7.mp h;split
  .rename_i hxy
   refine YA7.mpr ⟨λk hk=>?_,h⟩;rcases YAk.mp hk with e|e
   .rw[e];exact hxy
   .exact YDL hxy (h'.1 k e)
  .split
   .exact h
   .rename_i h1 h2
    refine YA7.mpr ⟨λk hk=>?_,zmp x ys h'.2⟩;rcases(zhD x ys k).mp hk with e|e
    .rw[e];omega
    .exact h'.1 k e
theorem za6:∀(xs:List Int)(k:Int),k∈zbw xs↔k∈xs
 |[],_=>Iff.rfl
 |x::xs,k=>by unfold zbw;rw[zhD,za6 xs k,YAk]
theorem zbl:∀xs:List Int,(zbw xs).Pairwise (·<·)
 |[]=>.nil
 |x::xs=>by unfold zbw;exact zmp x _ (zbl xs)
theorem zm9:∀{xs ys:List Int},xs.Pairwise (·<·)->ys.Pairwise (·<·)->(∀k,k∈xs↔k∈ys)->xs=ys
 |[],[],_,_,_=>rfl
 |[],y::ys,_,_,h=>absurd ((h y).mpr YAh) (by simp)
 |x::xs,[],_,_,h=>absurd ((h x).mp YAh) (by simp)
 |x::xs,y::ys,hx,hy,h=>by
  have hx':=YA7.mp hx;have hy':=YA7.mp hy;have e:x=y:=by
   rcases YAk.mp ((h x).mp YAh)with e|e
   .exact e
   .rcases YAk.mp ((h y).mpr YAh)with e'|e'
    .exact e'.symm
    .have:=hy'.1 x e;have:=hx'.1 y e';omega
  subst e;congr 1;refine zm9 hx'.2 hy'.2 λk=>⟨λhk=>?_,λhk=>?_⟩
  .rcases YAk.mp ((h k).mp (YAj _ hk))with e|e
   .have:=hx'.1 k hk;omega
   .exact e
  .rcases YAk.mp ((h k).mpr (YAj _ hk))with e|e
   .have:=hy'.1 k hk;omega
   .exact e
def zqs(h:ns.Pairwise (·<·))(m:∀k,k∈ns↔k∈xs):ns=zbw xs:=zm9 h (zbl xs) λk=>(m k).trans (za6 xs k).symm
def zb7{xs:List Int}(h:xs.Pairwise (·<·)):xs.Nodup:=h.imp λh=>YDJ h
def zi8(xs:List Int):SetLen xs (zbw xs).length:=⟨zbw xs,zb7 (zbl xs),za6 xs,rfl⟩
section
variable{X:Cx}{c:Bk}{a b e:Expr}{A B:WE}{pos p p':Pos}{es:List Expr}
abbrev FL:=List D->(D->Prop)->Prop
def zcN(f:FL):Prop:=∀ds Q Q',(∀d,Q d->Q' d)->f ds Q->f ds Q'
@[reducible] def cbW(f:FL)(R:WL):WE:=λZ Q=>R Z λds=>f ds Q
def zfe(c:Bk)(f:FL)(r:List V->Hp->VK->Prop):Prop:=∀(H G:Hp)(ds:List D)(vs:List V)(Q:VK),Same G H->BoxD c.β H G->(∀a,H a=none->c.H0 a=none)->Reps c G ds vs ->
 f ds (λd=>∀v H' G',Stp c.β H G H' G'->Rep c G' d v->Q v H')->r vs H Q
def zmY(fm:zcN f)(mR:zdq R)(hr:zfe c f r)(Y:St)(H:Hp)(Q:VK)(h:tD c (cbW f R) Y H Q):tCB r (tDs c R) Y H Q:=by
 obtain⟨Z,G,r',q⟩:=h;exact⟨Z,G,r',mR Z _ _ (λds z vs H' G' t e=>hr H' G' ds vs Q t.gh t.bx (λa z=>r'.new0 (t.free z)) e (fm ds _ _ (λd y v H2 G2 t2 e2=>y v H2 G2 (t.trans t2) e2) z)) q⟩
def zeG{f:FL}{R:WL}{r:List V->Hp->VK->Prop}{id:String}{x:Str}(fm:zcN f)(hc:CallR X (.builtin id) r)(hr:zfe c f r)(hm:X.mg x=none)(hv:bootBuiltins x=some (.builtin id))(hR:DA X c (e::es) R)(hg:Gl X x:=by rfl)(hn:x≠"__name__":=by decide)(hdb:(x==("__debug__":Str))=false:=by decide)
  (he:starEach (e::es) X.env=(false,eval e X.env)::starEach es X.env:=by rfl) (hpl:(backTo pos (starEach es X.env)).any (·.1)=false:=by rfl):DE X c (.Call (.Name x p) (e::es) [] pos) (cbW f R):=
 ⟨λZ Q Q' k q=>hR.mono Z _ _ (λds z=>fm ds _ _ k z) q,zaW (zbA hc hg hm hv hR.pa hn hdb he hpl) (zmY fm hR.mono hr)⟩
def zki(fm:zcN f)(hc:CallR X (.type T) r)(hr:zfe c f r)(hm:X.mg x=none)(hv:bootBuiltins x=some (.type T))(hR:DA X c (e::es) R)(hg:Gl X x:=by rfl)(hn:x≠"__name__":=by decide)(hdb:(x==("__debug__":Str))=false:=by decide)
  (he:starEach (e::es) X.env=(false,eval e X.env)::starEach es X.env:=by rfl) (hpl:(backTo pos (starEach es X.env)).any (·.1)=false:=by rfl):DE X c (.Call (.Name x p) (e::es) [] pos) (cbW f R):=
 ⟨λZ Q Q' k q=>hR.mono Z _ _ (λds z=>fm ds _ _ k z) q,zaW (zcE hc hg hm hv hR.pa hn hdb he hpl) (zmY fm hR.mono hr)⟩
def zfZ(h:Reps c G [d] vs):∃v,vs=[v]/\Rep c G d v:=by
 obtain⟨v,ws,rfl,h1,h2⟩:=h;cases h2;exact⟨v,rfl,h1⟩
def zpW(h:Reps c G [d,f] vs):∃v w,vs=[v,w]/\Rep c G d v/\Rep c G f w:=by
 obtain⟨v,ws,rfl,h1,w,ws',rfl,h2,h3⟩:=h;cases h3;exact⟨v,w,rfl,h1,h2⟩
def lenF:FL
 |[.lst _ xs],Q=>Q (.int xs.length)
 |[.tup xs],Q=>Q (.int xs.length)
 |_,_=>False
def zsf:zcN lenF:=λds Q Q' k q=>by
 unfold lenF at q ⊢;split at q<;>first|exact k _ q|exact q.elim
def zrl:zfe c lenF (λxs H Q=>∃p ys,xs=[.ref p]/\(SqL c.K H p ys\/SqT c.K H p ys)/\Q (.int ys.length) H):=by
 intro H G ds vs Q gh bx h0 rv q;unfold lenF at q;split at q
 .obtain⟨v,rfl,a,ws,rfl,ha,_,hw⟩:=zfZ rv;exact⟨a,ws,rfl,.inl (SqL.of (gh _ _ ha)),by rw[<-hw.length];exact q _ H G (Stp.refl gh bx) rfl⟩
 .obtain⟨v,rfl,a,ws,rfl,ha,hw⟩:=zfZ rv;exact⟨a,ws,rfl,.inr (zaT gh ha),by rw[<-hw.length];exact q _ H G (Stp.refl gh bx) rfl⟩
 .exact q.elim
def zcy(i:Nat):WE:=λZ Q=>match Z[i]? with
 |some (.val d)=>lenF [d] Q
 |some (.own xs)=>Q (.int xs.length)
 |_=>False
def zbP(i:Nat)(hg:Gl X "len":=by rfl)(hN:X.N[i]?=some x:=by rfl)(hv:Vis X.env.scope x:=by first|exact Or.inl rfl|exact Or.inr (Or.inl rfl)|exact Or.inr (Or.inr rfl))(hd:(x==("__debug__":Str))=false:=by decide)(hcd:(x==("__classdict__":Str))=false:=by decide)(hK:c.K=X.K:=by rfl)(hm:X.mg "len"=none:=by decreasing_trivial):DE X c (.Call (.Name "len" p) [.Name x p'] [] pos) (zcy i)where
 mono:=λZ Q Q' k q=>by
  unfold zcy at q ⊢;split at q
  .exact zsf _ _ _ k q
  .exact k _ q
  .exact q.elim
 pe:=zaW (zbA zcq hg hm YCI (zah (zdK hN hv hd hcd) zav)) λY H Q ⟨Z,G,r,q⟩=>by
  unfold zcy at q;split at q
  .rename_i d e
   obtain⟨v,h1,h2⟩:=r.slot i _ e;exact⟨v,h1,hK▸zrl H G [d] [v] Q r.gh r.bx (λa z=>r.new0 z) (.one h2) q⟩
  .rename_i xs e
   obtain⟨a,vs,h1,h2,h3,h4,h5,h6⟩:=r.slot i _ e;exact⟨.ref a,h1,a,vs,rfl,.inl (SqL.of h2),by rw[<-h6.length];exact q _ H G r.refl rfl⟩
  .exact q.elim
def seqD(d:D)(Q:List D->Prop):Prop:=match d with|.lst _ xs=>Q xs|.tup xs=>Q xs|_=>False
def zeq(k:∀xs,Q xs->Q' xs)(q:seqD d Q):seqD d Q':=by
 cases d<;>first|exact k _ q|exact q
@[reducible] def ziW(A:WE):WL:=λZ Q=>A Z λd=>seqD d Q
def zgW(hA:DE X c e A)(hg:Gl X "list":=by rfl)(he:starEach [e] X.env=(false,eval e X.env)::starEach [] X.env:=by rfl)(hK:c.K=X.K:=by rfl)(hm:X.mg "list"=none:=by decreasing_trivial):DF X c (.Call (.Name "list" p) [e] [] pos) (ziW A)where
 mono:=λZ Q Q' k q=>hA.mono Z _ _ (λd z=>zeq k z) q
 pe:=zaW (zcE ze7 hg hm YCm (zah hA.pe zav he) (by decide) (by decide) he rfl) λY H Q ⟨Z,G,r,q⟩=>⟨Z,G,r,hA.mono Z _ _ (λd z v H' G' t e=>by
  cases d with
  |lst n xs=>
   obtain⟨a,vs,rfl,ha,_,rv⟩:=e;exact⟨a,vs,rfl,.inl (SqL.of (t.gh _ _ ha)),λl hl=>z l vs _ _ (t.trans (Stp.own t.gh t.bx hl)) zac (zas t.gh hl) (t.free hl) rv⟩
  |tup xs=>
   obtain⟨a,vs,rfl,ha,rv⟩:=e;exact⟨a,vs,rfl,.inr (hK▸zaT t.gh ha),λl hl=>z l vs _ _ (t.trans (Stp.own t.gh t.bx hl)) zac (zas t.gh hl) (t.free hl) rv⟩
  |_=>exact z.elim) q⟩
def mulL(A B:WE):WL:=λZ Q=>A Z λx=>B Z λy=>match x,y with|.lst _ xs,.int k=>(0<=k/\k<=1000/\xs.length<=1000)/\Q (List.replicate k.toNat xs).flatten|_,_=>False
def zsB(hA:DE X c a A)(hB:DE X c b B):DF X c (.BinOp a .Mult b pos) (mulL A B)where
 mono:=λZ Q Q' k q=>hA.mono Z _ _ (λx z=>hB.mono Z _ _ (λy w=>by cases x<;>cases y<;>first|exact⟨w.1,k _ w.2⟩|exact w) z) q
 pe:=zaW (zb8 zlV hA.pe hB.pe) λY H Q ⟨Z,G,r,q⟩=>⟨Z,G,r,hA.mono Z _ _ (λx z u H1 G1 t1 e1=>⟨Z,G1,r.step t1,hB.mono Z _ _ (λy w v H2 G2 t2 e2=>by
  cases x with
  |lst n xs=>cases y with
   |int k=>
    obtain⟨⟨k0,k1,hz⟩,w⟩:=w;obtain⟨l,vs,rfl,ha,_,rv⟩:=e1.mono t2.gg;refine⟨l,k,vs,rfl,e2,t2.gh _ _ ha,by omega,by omega,?_,λp hp=>?_⟩
    .rw[<-rv.length,YAP];have h1:k.toNat<=1000:=by omega
     have:=Nat.mul_le_mul hz h1
     omega
    .have:∀m:Nat,Reps c G2 (List.replicate m xs).flatten (List.replicate m vs).flatten:=λm=>by
      induction m with
      |zero=>rfl
      |succ m ih=>rw[YAT,YAT,YBm,YBm];exact rv.append ih
     exact w p _ _ _ ((t1.trans t2).trans (Stp.own t2.gh t2.bx hp)) zac (zas t2.gh hp) ((t1.trans t2).free hp) (this _)
   |_=>exact w.elim
  |_=>exact w.elim) z⟩) q⟩
def zkY(A:WE):WL:=λZ Q=>A Z λd=>match d with|.int n=>(0<=n/\n<=1000)/\Q ((List.range n.toNat).map λ(k:Nat)=>D.int (k:Int))|_=>False
def zl0(hA:DE X c e A)(hg:Gl X "list":=by rfl)(hg2:Gl X "range":=by rfl)(he:starEach [e] X.env=(false,eval e X.env)::starEach [] X.env:=by rfl)(hcalm:X.calm=true:=by rfl)(hm:X.mg "list"=none:=by decreasing_trivial)(hm2:X.mg "range"=none:=by decreasing_trivial) :
  DF X c (.Call (.Name "list" p) [.Call (.Name "range" p') [e] [] pos2] [] pos) (zkY A)where
 mono:=λZ Q Q' k q=>hA.mono Z _ _ (λd z=>by cases d<;>first|exact⟨z.1,k _ z.2⟩|exact z) q
 pe:=zaW (zcE (zh4 hcalm) hg hm YCm (zah (zcE zmX hg2 hm2 PyProof.Rows.boot_range (zah hA.pe zav he) (by decide) (by decide) he rfl) zav) (by decide) (by decide) rfl rfl) λY H Q ⟨Z,G,r,q⟩=>⟨Z,G,r,hA.mono Z _ _ (λd z v H' G' t e=>by
  cases d with
  |int n=>
   refine⟨n,by cases e;rfl,λp hp=>⟨p,n,rfl,zac,z.1.1,z.1.2,λl hl=>?_⟩⟩;have t2:=t.trans (Stp.own t.gh t.bx (o:=.rng 0 n) hp);refine z.2 l _ _ _ (t2.trans (Stp.own t2.gh t2.bx hl)) zac (zas t2.gh hl) (t2.free hl) ?_
   have:=(reps_ints (c:=c) (G:=G') (ns:=(List.range n.toNat).map Int.ofNat)).mpr rfl
   rw[YAM]at this;exact this
  |_=>exact z.elim) q⟩
def ze6:FL
 |[.lst _ xs],Q=>Q (.tup xs)
 |[.tup xs],Q=>Q (.tup xs)
 |_,_=>False
def zqB:zcN ze6:=λds Q Q' k q=>by
 unfold ze6 at q ⊢;split at q<;>first|exact k _ q|exact q.elim
def zoo:zfe c ze6 (λxs H Q=>∃p ys,xs=[.ref p]/\((SqL c.K H p ys/\∀l,H l=none->Q (.ref l) (upd H l (.tup ys)))\/(SqT c.K H p ys/\Q (.ref p) H))):=by
 intro H G ds vs Q gh bx h0 rv q;unfold ze6 at q;split at q
 .obtain⟨v,rfl,a,ws,rfl,ha,_,hw⟩:=zfZ rv;exact⟨a,ws,rfl,.inl ⟨SqL.of (gh _ _ ha),λl hl=>q (.ref l) _ _ (Stp.new gh bx hl) ⟨l,ws,rfl,SqT.of zac,hw.mono (zcc (zas gh hl))⟩⟩⟩
 .obtain⟨v,rfl,a,ws,rfl,ha,hw⟩:=zfZ rv;exact⟨a,ws,rfl,.inr ⟨zaT gh ha,q (.ref a) H G (Stp.refl gh bx) ⟨a,ws,rfl,ha,hw⟩⟩⟩
 .exact q.elim
def zma(hR:DA X c [e] R)(hg:Gl X "tuple":=by rfl)(he:starEach [e] X.env=(false,eval e X.env)::starEach [] X.env:=by rfl)(hK:c.K=X.K:=by rfl)(hm:X.mg "tuple"=none:=by decreasing_trivial):DE X c (.Call (.Name "tuple" p) [e] [] pos) (cbW ze6 R):=
 zki zqB zh2 (hK▸zoo) hm PyProof.Rows.boot_tuple hR hg (by decide) (by decide) he rfl
def intF:FL
 |[.int i],Q=>Q (.int i)
 |[.bl k],Q=>Q (.int (if k then 1 else 0))
 |_,_=>False
def zsR:zcN intF:=λds Q Q' k q=>by
 unfold intF at q ⊢;split at q<;>first|exact k _ q|exact q.elim
def zqY:zfe c intF (λxs H Q=>(∃i,xs=[.int i]/\Q (.int i) H)\/∃k,xs=[.bl k]/\Q (.int (if k then 1 else 0)) H):=by
 intro H G ds vs Q gh bx h0 rv q;unfold intF at q;split at q
 .obtain⟨v,rfl,h⟩:=zfZ rv;cases h;exact .inl ⟨_,rfl,q _ H G (Stp.refl gh bx) rfl⟩
 .obtain⟨v,rfl,h⟩:=zfZ rv;cases h;exact .inr ⟨_,rfl,q _ H G (Stp.refl gh bx) rfl⟩
 .exact q.elim
def zqM(hR:DA X c [e] R)(hg:Gl X "int":=by rfl)(he:starEach [e] X.env=(false,eval e X.env)::starEach [] X.env:=by rfl)(hm:X.mg "int"=none:=by decreasing_trivial):DE X c (.Call (.Name "int" p) [e] [] pos) (cbW intF R):=
 zki zsR zl5 zqY hm PyProof.Rows.boot_int hR hg (by decide) (by decide) he rfl
def minF:FL
 |[.int i,.int j],Q=>Q (.int (if j<i then j else i))
 |_,_=>False
def zsJ:zcN minF:=λds Q Q' k q=>by
 unfold minF at q ⊢;split at q<;>first|exact k _ q|exact q.elim
def zrb:zfe c minF (λxs H Q=>∃i j,xs=[.int i,.int j]/\Q (.int (if j<i then j else i)) H):=by
 intro H G ds vs Q gh bx h0 rv q;unfold minF at q;split at q
 .obtain⟨v,w,rfl,h1,h2⟩:=zpW rv;cases h1;cases h2;exact⟨_,_,rfl,q _ H G (Stp.refl gh bx) rfl⟩
 .exact q.elim
def zrh(hR:DA X c [a,b] R)(hg:Gl X "min":=by rfl)(he:starEach [a,b] X.env=(false,eval a X.env)::starEach [b] X.env:=by rfl)(hpl:(backTo pos (starEach [b] X.env)).any (·.1)=false:=by rfl)(hcalm:X.calm=true:=by rfl)(hm:X.mg "min"=none:=by decreasing_trivial):DE X c (.Call (.Name "min" p) [a,b] [] pos) (cbW minF R):=
 zeG zsJ (zii hcalm) zrb hm YCL hR hg (by decide) (by decide) he hpl
def allF:FL
 |[.lst _ xs],Q=>∃bs:List Bool,xs=bs.map D.bl/\Q (.bl (bs.all id))
 |_,_=>False
def anyF:FL
 |[.lst _ xs],Q=>∃bs:List Bool,xs=bs.map D.bl/\Q (.bl (bs.any id))
 |_,_=>False
def zsD:zcN allF:=λds Q Q' k q=>by
 unfold allF at q ⊢;split at q
 .obtain⟨bs,e,q⟩:=q;exact⟨bs,e,k _ q⟩
 .exact q.elim
def zsx:zcN anyF:=λds Q Q' k q=>by
 unfold anyF at q ⊢;split at q
 .obtain⟨bs,e,q⟩:=q;exact⟨bs,e,k _ q⟩
 .exact q.elim
def zrQ:zfe c allF (λvs H Q=>∃(p:Addr)(bs:List Bool),vs=[.ref p]/\SqL c.K H p (bs.map V.bl)/\Q (.bl (bs.all id)) H):=by
 intro H G ds vs Q gh bx h0 rv q;unfold allF at q;split at q
 .obtain⟨bs,rfl,q⟩:=q;obtain⟨v,rfl,a,ws,rfl,ha,_,hw⟩:=zfZ rv;rw[reps_bools.mp hw]at ha;exact⟨a,bs,rfl,SqL.of (gh _ _ ha),q _ H G (Stp.refl gh bx) rfl⟩
 .exact q.elim
def zrU:zfe c anyF (λvs H Q=>∃(p:Addr)(bs:List Bool),vs=[.ref p]/\SqL c.K H p (bs.map V.bl)/\Q (.bl (bs.any id)) H):=by
 intro H G ds vs Q gh bx h0 rv q;unfold anyF at q;split at q
 .obtain⟨bs,rfl,q⟩:=q;obtain⟨v,rfl,a,ws,rfl,ha,_,hw⟩:=zfZ rv;rw[reps_bools.mp hw]at ha;exact⟨a,bs,rfl,SqL.of (gh _ _ ha),q _ H G (Stp.refl gh bx) rfl⟩
 .exact q.elim
def zf8(hR:DA X c [e] R)(hg:Gl X "all":=by rfl)(he:starEach [e] X.env=(false,eval e X.env)::starEach [] X.env:=by rfl)(hK:c.K=X.K:=by rfl)(hcalm:X.calm=true:=by rfl)(hm:X.mg "all"=none:=by decreasing_trivial):DE X c (.Call (.Name "all" p) [e] [] pos) (cbW allF R):=
 zeG zsD (zij hcalm) (hK▸zrQ) hm PyProof.Rows.boot_all hR hg (by decide) (by decide) he rfl
def zsd(hR:DA X c [e] R)(hg:Gl X "any":=by rfl)(he:starEach [e] X.env=(false,eval e X.env)::starEach [] X.env:=by rfl)(hK:c.K=X.K:=by rfl)(hcalm:X.calm=true:=by rfl)(hm:X.mg "any"=none:=by decreasing_trivial):DE X c (.Call (.Name "any" p) [e] [] pos) (cbW anyF R):=
 zeG zsx (znt hcalm) (hK▸zrU) hm PyProof.Rows.boot_any hR hg (by decide) (by decide) he rfl
def setD(d:D)(Q:List Int->Prop):Prop:=seqD d λxs=>∃ns:List Int,xs=ns.map D.int/\ns.length<64/\Q ns
def zd4(k:∀xs,Q xs->Q' xs)(q:setD d Q):setD d Q':=zeq (λxs ⟨ns,e,h,q⟩=>⟨ns,e,h,k _ q⟩) q
@[reducible] def zfq(A:WE):WL:=λZ Q=>A Z λd=>setD d λns=>Q ((zbw ns).map D.int)
@[reducible] def znz(A:WE):WE:=λZ Q=>A Z λd=>setD d λns=>Q (.int (zbw ns).length)
def zmh:(100:Nat)<scanBound:=by decide +kernel
def zsl(c:Bk)(w:World)(A:WE):TE:=λY H Q=>∃ Z G,Rel c Z Y H G/\A Z λd=>setD d λns=>∀l H' G',Stp c.β H G H' G'->H' l=none->Q (.ref l) (upd H' l (SetO w l ns))
def zlT(hm2:X.mg "set"=none)(hA:DE X c e A)(hg2:Gl X "set")(he:starEach [e] X.env=(false,eval e X.env)::starEach [] X.env)(hcalm:X.calm=true)(hK:c.K=X.K):PE X (.Call (.Name "set" p) [e] [] pos) (zsl c X.w A):=
 zaW (zcE ((zjt hcalm).or (zh8 hcalm)) hg2 hm2 PyProof.Rows.boot_set (zah hA.pe zav he) (by decide) (by decide) he rfl) λY H Q ⟨Z,G,r,q⟩=>⟨Z,G,r,hA.mono Z _ _ (λd z v H' G' t e=>by
  have hsc:=zmh;cases d with
  |lst n xs=>
   obtain⟨ns,rfl,hl,q⟩:=z;obtain⟨a,ws,rfl,ha,_,hw⟩:=e;rw[reps_ints.mp hw]at ha;exact .inl ⟨a,ns,rfl,SqL.of (t.gh _ _ ha),by omega,λl hl=>q l H' G' t hl⟩
  |tup xs=>
   obtain⟨ns,rfl,hl,q⟩:=z;obtain⟨a,ws,rfl,ha,hw⟩:=e;rw[reps_ints.mp hw]at ha;exact .inr ⟨a,ns,rfl,hK▸zaT t.gh ha,by omega,λl hl=>q l H' G' t hl⟩
  |_=>exact z.elim) q⟩
def znQ(q:setD d Q):setD d λns=>ns.length<64/\Q ns:=zeq (λxs ⟨ns,e1,e2,q⟩=>⟨ns,e1,e2,e2,q⟩) q
def zf9(hA:DE X c e A)(hg:Gl X "sorted":=by rfl)(hg2:Gl X "set":=by rfl)(he:starEach [e] X.env=(false,eval e X.env)::starEach [] X.env:=by rfl)(hcalm:X.calm=true:=by rfl)(hK:c.K=X.K:=by rfl)(hm:X.mg "sorted"=none:=by decreasing_trivial)(hm2:X.mg "set"=none:=by decreasing_trivial) :
  DF X c (.Call (.Name "sorted" p) [.Call (.Name "set" p') [e] [] pos'] [] pos) (zfq A)where
 mono:=λZ Q Q' k q=>hA.mono Z _ _ (λd z=>zd4 (λns y=>k _ y) z) q
 pe:=zaW (zbA (zdb hcalm) hg hm YCb (zah (zlT hm2 hA hg2 he hcalm hK) zav) (by decide) (by decide) rfl rfl) λY H Q ⟨Z,G,r,q⟩=>⟨Z,G,r,hA.mono Z _ _ (λd z=>zd4 (λns z l H' G' t hl=>by
  have t2:=t.trans (Stp.own t.gh t.bx (o:=SetO X.w l ns) hl);refine⟨l,ns,rfl,zac,z.1,λl3 ms hl3 up mem=>?_⟩;rw[zqs up mem];exact z.2 l3 _ _ _ (t2.trans (Stp.own t2.gh t2.bx hl3)) zac (zas t2.gh hl3) (t2.free hl3) (reps_ints.mpr rfl)) (znQ z)) q⟩
def zoK(hA:DE X c e A)(hg:Gl X "len":=by rfl)(hg2:Gl X "set":=by rfl)(he:starEach [e] X.env=(false,eval e X.env)::starEach [] X.env:=by rfl)(hcalm:X.calm=true:=by rfl)(hK:c.K=X.K:=by rfl)(hm:X.mg "len"=none:=by decreasing_trivial)(hm2:X.mg "set"=none:=by decreasing_trivial) :
  DE X c (.Call (.Name "len" p) [.Call (.Name "set" p') [e] [] pos'] [] pos) (znz A)where
 mono:=λZ Q Q' k q=>hA.mono Z _ _ (λd z=>zd4 (λns y=>k _ y) z) q
 pe:=zaW (zbA zhg hg hm YCI (zah (zlT hm2 hA hg2 he hcalm hK) zav) (by decide) (by decide) rfl rfl) λY H Q ⟨Z,G,r,q⟩=>⟨Z,G,r,hA.mono Z _ _ (λd z=>zd4 (λns z l H' G' t hl=>by
  have t2:=t.trans (Stp.own t.gh t.bx (o:=SetO X.w l ns) hl);refine⟨l,ns,rfl,zac,λn hn=>?_⟩;rw[hn.uniq (zi8 ns)];exact z _ _ _ t2 rfl) z) q⟩
def isiB(T:String):D->Option Bool
 |.non=>some false
 |.bl _=>some (T=="bool" || T=="int")
 |.int _=>some (T=="int")
 |.str _=>some (T=="str")
 |.tup _=>some (T=="tuple")
 |.lst _ _=>some (T=="list")
 |.box=>none
def isiW(T:String)(A:WE):WE:=λZ Q=>A Z λd=>match isiB T d with|some b=>Q (.bl b)|none=>False
def zpN(hT:T="list" \/ T="tuple" \/ T="int" \/ T="bool" \/ T="str")(gh:Same G H)(h:Rep c G d v)(e:isiB T d=some k):IsI c.K H v T k:=by
 cases d with
 |non=>cases h;rcases hT with rfl|rfl|rfl|rfl|rfl<;>cases e<;>constructor
 |bl b=>cases h;rcases hT with rfl|rfl|rfl|rfl|rfl<;>cases e<;>constructor
 |int b=>cases h;rcases hT with rfl|rfl|rfl|rfl|rfl<;>cases e<;>constructor
 |str b=>cases h;rcases hT with rfl|rfl|rfl|rfl|rfl<;>cases e<;>constructor
 |tup xs=>
  obtain⟨a,vs,rfl,h1,_⟩:=h;have q:=zaT gh h1;rcases hT with rfl|rfl|rfl|rfl|rfl<;>cases e
  .exact .tuple_list _ _ q
  .exact .tuple_tuple _ _ q
  .exact .tuple_int _ _ q
  .exact .tuple_bool _ _ q
  .exact .tuple_str _ _ q
 |lst n xs=>
  obtain⟨a,vs,rfl,h1,_⟩:=h;have q:SqL c.K H a vs:=SqL.of (gh _ _ h1);rcases hT with rfl|rfl|rfl|rfl|rfl<;>cases e
  .exact .list_list _ _ q
  .exact .list_tuple _ _ q
  .exact .list_int _ _ q
  .exact .list_bool _ _ q
  .exact .list_str _ _ q
 |box=>cases e
def zbS(hA:DE X c e A)(hg:Gl X "isinstance":=by rfl)(hg2:Gl X x:=by rfl)(hn:x≠"__name__":=by decide)(hd:(x==("__debug__":Str))=false:=by decide)(he:starEach [e,.Name x p'] X.env=(false,eval e X.env)::starEach [.Name x p'] X.env:=by rfl)(hK:c.K=X.K:=by rfl)(hT:T="list" \/ T="tuple" \/ T="int" \/ T="bool" \/ T="str":=by decreasing_trivial)(hm:X.mg "isinstance"=none:=by decreasing_trivial)(hm2:X.mg x=none:=by decreasing_trivial)(hbt:bootBuiltins x=some (.type T):=by decreasing_trivial) :
  DE X c (.Call (.Name "isinstance" p) [e,.Name x p'] [] pos) (isiW T A)where
 mono:=λZ Q Q' k q=>hA.mono Z _ _ (λd z=>by
  revert z;cases isiB T d with
  |none=>exact id
  |some b=>exact k _) q
 pe:=zaW (zbA zoJ hg hm PyProof.Rows.boot_isinstance (zah hA.pe (zah (zqy (v:=.ty T) hg2 hm2 hbt rfl hn hd) zav) he) (by decide) (by decide) he rfl) λY H Q ⟨Z,G,r,q⟩=>⟨Z,G,r,hA.mono Z _ _ (λd z v H' G' t e=>by
  revert z;cases hk:isiB T d with
  |none=>exact False.elim
  |some b=>exact λz=>⟨v,T,b,rfl,hK▸zpN hT t.gh e hk,z _ H' G' t rfl⟩) q⟩
abbrev Fn:=List D->(D->Prop)->Prop
def up(F:Fn):Fn:=λds Q=>∃P:D->Prop,F ds P/\∀d,P d->Q d
def zeN(F:Fn):zcN (up F):=λds Q Q' k ⟨P,h1,h2⟩=>⟨P,h1,λd z=>k d (h2 d z)⟩
def spD(K:qq)(n:Nat)(F:Fn):Sp:=λvs H Q _=>∃ β G ds,Same G H/\BoxD β H G/\Reps ⟨K,β,λ_=>none,G⟩ G ds vs/\vs.length=n/\up F ds λd=>∀v H' G',Stp β H G H' G'->Rep ⟨K,β,H,G⟩ G' d v->Q v H'
structure Cal(P:Program)(w:World)(K:qq)(mg:Str->Option Value)(base:Heap)(x:Str)(k:Nat)(ps:List Str)(sp:Sp):Prop where
 ex:∃f fd,FnOk P w K mg base CX0 k f fd ps sp/\mg x=some (.ref f)/\PySem.W.keepIn K (.ref f)=true/\Binds K fd ps []
def Cal.of(F:Fun K x qual st f fd)(G:FnOk P w K mg base CX0 k f fd ps sp)(hm:mg x=some (.ref f))(hb:Binds K fd ps []):Cal P w K mg base x k ps sp:=
 ⟨f,fd,G,hm,F.kp,hb⟩
@[reducible] def zau(n:Nat)(F:Fn)(R:WL):WE:=λZ Q=>R Z λds=>ds.length=n/\up F ds Q
def zao(C:Cal X.prog X.w X.K X.mg X.base x k ps (spD X.K n F))(hR:DA X c (e::es) R)(hg:Gl X x:=by rfl)
  (hdb:(x==("__debug__":Str))=false:=by decide) (he:starEach (e::es) X.env=(false,eval e X.env)::starEach es X.env:=by rfl) (hpl:(backTo pos (starEach es X.env)).any (·.1)=false:=by rfl) (hK:c.K=X.K:=by rfl) (hr:Room k X.A:=by decreasing_trivial) :
  DE X c (.Call (.Name x p) (e::es) [] pos) (zau n F R)where
 mono:=λZ Q Q' k q=>hR.mono Z _ _ (λds z=>⟨z.1,zeN F ds _ _ k z.2⟩) q
 pe:=by
  obtain⟨f,fd,FO,hm,hk,hb⟩:=C.ex;refine zaW (zfD FO hr hg hm hk hb .nil zl9 hR.pa hdb he hpl) λY H Q ⟨Z,G,r,q⟩=>⟨Z,G,r,hR.mono Z _ _ (λds z vs H' G' t e=>?_) q⟩;show spD X.K n F (vs++[]) H' Q E0;rw[YAN];exact⟨c.β,G',ds,t.gh,t.bx,Reps.back (c':=c) (c:=⟨X.K,c.β,λ_=>none,G'⟩) hK rfl (λ_ _=>rfl) e,by rw[<-e.length];exact z.1,
   zeN F ds _ _ (λd z v H2 G2 t2 e2=>z v H2 G2 (t.trans t2) (Rep.back (c':=⟨X.K,c.β,H',G'⟩) (c:=c) hK.symm rfl (λa h=>r.new0 (t.free h)) e2)) z.2⟩
end
mutual
inductive Tg where
 |nm (i:Nat)
 |tp (n:Nat) (ts:Tgs)
inductive Tgs where
 |nil
 |cons (t:Tg) (ts:Tgs)
end
mutual
def gOf(K:qq):Tg->TG
 |.nm i=>zc9 i
 |.tp n ts=>gSeq K n (gsOf K ts)
def gsOf(K:qq):Tgs->TGs
 |.nil=>gNil
 |.cons t ts=>zfh (gOf K t) (gsOf K ts)
end
mutual
def gD:Tg->D->Env->(Env->Prop)->Prop
 |.nm i,d,Z,Q=>Q (Z.set i (.val d))
 |.tp n ts,.tup ds,Z,Q=>ds.length=n/\gDs ts ds Z Q
 |.tp n ts,.lst _ ds,Z,Q=>ds.length=n/\gDs ts ds Z Q
 |.tp _ _,_,_,_=>False
def gDs:Tgs->List D->Env->(Env->Prop)->Prop
 |.nil,[],Z,Q=>Q Z
 |.cons t ts,d::ds,Z,Q=>gD t d Z λZ'=>gDs ts ds Z' Q
 |_,_,_,_=>False
end
mutual
theorem zbv:∀(t:Tg)(d:D)(Z:Env){Q Q':Env->Prop},(∀ Z,Q Z->Q' Z)->gD t d Z Q->gD t d Z Q'
 |.nm i,d,Z,Q,Q',k,q=>by unfold gD at q ⊢;exact k _ q
 |.tp n ts,.tup ds,Z,Q,Q',k,q=>by unfold gD at q ⊢;exact⟨q.1,zhM ts ds Z k q.2⟩
 |.tp _ _,.non,_,_,_,_,q=>by unfold gD at q;exact q.elim
 |.tp _ _,.bl _,_,_,_,_,q=>by unfold gD at q;exact q.elim
 |.tp _ _,.int _,_,_,_,_,q=>by unfold gD at q;exact q.elim
 |.tp _ _,.str _,_,_,_,_,q=>by unfold gD at q;exact q.elim
 |.tp n ts,.lst _ ds,Z,Q,Q',k,q=>by unfold gD at q ⊢;exact⟨q.1,zhM ts ds Z k q.2⟩
 |.tp _ _,.box,_,_,_,_,q=>by unfold gD at q;exact q.elim
theorem zhM:∀(ts:Tgs)(ds:List D)(Z:Env){Q Q':Env->Prop},(∀ Z,Q Z->Q' Z)->gDs ts ds Z Q->gDs ts ds Z Q'
 |.nil,[],Z,Q,Q',k,q=>by unfold gDs at q ⊢;exact k _ q
 |.cons t ts,d::ds,Z,Q,Q',k,q=>by unfold gDs at q ⊢;exact zbv t d Z (λZ' z=>zhM ts ds Z' k z) q
 |.nil,_::_,_,_,_,_,q=>by unfold gDs at q;exact q.elim
 |.cons _ _,[],_,_,_,_,q=>by unfold gDs at q;exact q.elim
end
mutual
theorem zdP :∀(t:Tg)(d:D)(v:V)(Z:Env)(Y:St){Q:St->Hp->Prop},Rel c Z Y H G->Rep c G d v->gD t d Z (λZ'=>∀ Y',Rel c Z' Y' H G->Q Y' H)->gOf c.K t v Y H Q
 |.nm i,d,v,Z,Y,Q,r,e,q=>by unfold gD at q;unfold gOf;exact q _ (r.put e)
 |.tp n ts,.tup ds,v,Z,Y,Q,r,e,q=>by
  unfold gD at q;unfold gOf;obtain⟨a,vs,rfl,ha,hv⟩:=e;exact⟨a,vs,rfl,.inl (zaT r.gh ha),by rw[<-hv.length];exact q.1,zhZ ts ds vs Z Y r hv q.2⟩
 |.tp _ _,.non,_,_,_,_,_,_,q=>by unfold gD at q;exact q.elim
 |.tp _ _,.bl _,_,_,_,_,_,_,q=>by unfold gD at q;exact q.elim
 |.tp _ _,.int _,_,_,_,_,_,_,q=>by unfold gD at q;exact q.elim
 |.tp _ _,.str _,_,_,_,_,_,_,q=>by unfold gD at q;exact q.elim
 |.tp n ts,.lst m ds,v,Z,Y,Q,r,e,q=>by
  unfold gD at q;unfold gOf;obtain⟨a,vs,rfl,ha,_,hv⟩:=e;exact⟨a,vs,rfl,.inr (SqL.of (r.gh _ _ ha)),by rw[<-hv.length];exact q.1,zhZ ts ds vs Z Y r hv q.2⟩
 |.tp _ _,.box,_,_,_,_,_,_,q=>by unfold gD at q;exact q.elim
theorem zhZ :∀(ts:Tgs)(ds:List D)(vs:List V)(Z:Env)(Y:St){Q:St->Hp->Prop},Rel c Z Y H G->Reps c G ds vs->gDs ts ds Z (λZ'=>∀ Y',Rel c Z' Y' H G->Q Y' H)->gsOf c.K ts vs Y H Q
 |.nil,[],vs,Z,Y,Q,r,e,q=>by unfold gDs at q;unfold gsOf;exact⟨e,q _ r⟩
 |.cons t ts,d::ds,vs,Z,Y,Q,r,e,q=>by
  unfold gDs at q;unfold gsOf;obtain⟨v,ws,rfl,e1,e2⟩:=e;exact⟨v,ws,rfl,zdP t d v Z Y r e1 (zbv t d Z (λZ' z Y' r'=>zhZ ts ds ws Z' Y' r' e2 z) q)⟩
 |.nil,_::_,_,_,_,_,_,_,q=>by unfold gDs at q;exact q.elim
 |.cons _ _,[],_,_,_,_,_,_,q=>by unfold gDs at q;exact q.elim
end
structure En where
 nx:Env->Prop
 rt:D->Prop
 bk:Env->Prop
 ct:Env->Prop
abbrev WS:=En->Env->Prop
structure En.Le(E E':En):Prop where
 nx:∀ Z,E.nx Z->E'.nx Z
 rt:∀d,E.rt d->E'.rt d
 bk:∀ Z,E.bk Z->E'.bk Z
 ct:∀ Z,E.ct Z->E'.ct Z
def zmL(W:WS):Prop:=∀E E' Z,En.Le E E'->W E Z->W E' Z
noncomputable def ends(c:Bk)(G:Hp)(Ds:Ends):En where
 nx:=λZ=>∀ Y H' G',Rel c Z Y H' G'->Same G G'->Ds.nx Y H'
 rt:=λd=>∀v H' G',Stp c.β c.H0 c.G0 H' G'->Rep c G' d v->Ds.rt v H'
 bk:=λZ=>∀ Y H' G',Rel c Z Y H' G'->Same G G'->Ds.bk Y H'
 ct:=λZ=>∀ Y H' G',Rel c Z Y H' G'->Same G G'->Ds.ct Y H'
def zge(s:Same G G1):En.Le (ends c G Ds) (ends c G1 Ds):=
 ⟨λZ h Y H' G' r s'=>h Y H' G' r (s.trans s'),λd h=>h,λZ h Y H' G' r s'=>h Y H' G' r (s.trans s'),λZ h Y H' G' r s'=>h Y H' G' r (s.trans s')⟩
def tDS(c:Bk)(W:WS):TS:=λDs Y H=>∃ Z G,Rel c Z Y H G/\W (ends c G Ds) Z
structure DS(X:Cx)(c:Bk)(st:Stmt)(W:WS):Prop where
 mono:zmL W
 ps:PS X st (tDS c W)
structure DSs(X:Cx)(c:Bk)(sts:List Stmt)(W:WS):Prop where
 mono:zmL W
 pss:PSs X sts (tDS c W)
section
variable{X:Cx}{c:Bk}{st:Stmt}{rest:List Stmt}{pos p p':Pos}{e:Expr}
def zb6(h:PS X st t)(k:∀D Y H,t' D Y H->t D Y H):PS X st t':=λO s Y H D I q=>h O s Y H D I (k D Y H q)
def zfK(h:PSs X rest t)(k:∀D Y H,t' D Y H->t D Y H):PSs X rest t':=λO s Y H D I q=>h O s Y H D I (k D Y H q)
@[reducible] def nilS:WS:=λE Z=>E.nx Z
@[reducible] def seqW(A B:WS):WS:=λE Z=>A {E with nx:=B E} Z
def za8:DSs X c [] nilS:=⟨λE E' Z l q=>l.nx _ q,zfK zbR λD Y H ⟨Z,G,r,q⟩=>q Y H G r (Same.refl _)⟩
def zag(h1:DS X c st A)(h2:DSs X c rest B):DSs X c (st::rest) (seqW A B)where
 mono:=λE E' Z l q=>h1.mono {E with nx:=B E} _ Z ⟨λZ' z=>h2.mono _ _ Z' l z,l.rt,l.bk,l.ct⟩ q
 pss:=zfK (zam h1.ps h2.pss) λD Y H ⟨Z,G,r,q⟩=>⟨Z,G,r,h1.mono {ends c G D with nx:=B (ends c G D)} _ Z ⟨λZ' z Y' H' G' r' s'=>⟨Z',G',r',h2.mono _ _ Z' (zge s') z⟩,λd z=>z,λZ' z=>z,λZ' z=>z⟩ q⟩
def zar(h1:DS X c st A):DSs X c [st] A:=⟨h1.mono,zaD h1.ps⟩
def frz(i:Nat)(Z:Env):Env:=match Z[i]? with|some (.own xs)=>Z.set i (.val (.lst true xs))|_=>Z
@[reducible] def frzW(i:Nat)(A:WS):WS:=λE Z=>A E (frz i Z)
def zpX(r:Rel c Z Y H G)(i:Nat):∃G',Same G G'/\Rel c (frz i Z) Y H G':=by
 unfold frz;split
 .rename_i xs e;exact r.freeze e
 .exact⟨G,Same.refl _,r⟩
def zja(i:Nat)(h:DS X c st A):DS X c st (frzW i A)where
 mono:=λE E' Z l q=>h.mono E E' _ l q
 ps:=zb6 h.ps λD Y H ⟨Z,G,r,q⟩=>by
  obtain⟨G',s',r'⟩:=zpX r i;exact⟨frz i Z,G',r',h.mono _ _ _ (zge s') q⟩
@[reducible] def ifS(C:WT)(A B:WS):WS:=λE Z=>C Z λb=>if b=true then A E Z else B E Z
def s_if(hC:DT X c e C)(hA:DSs X c a A)(hB:DSs X c b B):DS X c (.If e a b pos) (ifS C A B)where
 mono:=λE E' Z l q=>hC.mono Z _ _ (λb z=>by
  cases b
  .exact hB.mono _ _ Z l z
  .exact hA.mono _ _ Z l z) q
 ps:=zb6 (zeM hC.pt hA.pss hB.pss) λD Y H ⟨Z,G,r,q⟩=>⟨Z,G,r,hC.mono Z _ _ (λb z H' G' t=>by
  cases b
  .exact⟨Z,G',r.step t,hB.mono _ _ Z (zge t.gg) z⟩
  .exact⟨Z,G',r.step t,hA.mono _ _ Z (zge t.gg) z⟩) q⟩
@[reducible] def retW(A:WE):WS:=λE Z=>A Z E.rt
def zaA(hA:DE X c e A):DS X c (.Return (some e) pos) (retW A)where
 mono:=λE E' Z l q=>hA.mono Z _ _ l.rt q
 ps:=zb6 (zbO hA.pe) λD Y H ⟨Z,G,r,q⟩=>⟨Z,G,r,hA.mono Z _ _ (λd z v H' G' t e=>z v H' G' (r.stp.trans t) e) q⟩
@[reducible] def asgW(t:Tg)(A:WE):WS:=λE Z=>A Z λd=>gD t d Z E.nx
def zkO(mA:zbz A)(D:Ends)(Y:St)(H:Hp)(h:tDS c (asgW t A) D Y H):tAsg (tD c A) (gOf c.K t) D Y H:=by
 obtain⟨Z,G,r,q⟩:=h;exact⟨Z,G,r,mA Z _ _ (λd z v H' G' t1 e1=>zdP t d v Z Y (r.step t1) e1 (zbv t d Z (λZ' y Y' r'=>y Y' H' G' r' t1.gg) z)) q⟩
def zfm(mA:zbz A):zmL (asgW t A):=λE E' Z l q=>mA Z _ _ (λd z=>zbv t d Z l.nx z) q
def gn(i:Nat)(hi:X.N[i]?=some x:=by rfl)(hx:Loc X.env.scope x:=by first|exact Or.inl rfl|exact Or.inr rfl)(hf:X.fn x=true\/X.env.scope.names.lookup x=some .local:=by first|exact .inl rfl|exact .inr rfl|assumption)(hN:X.N.Nodup:=by decreasing_trivial):PG X (.Name x p) (zc9 i):=zaz hN hi hx hf
def ndB:List Str->Bool
 |[]=>true
 |x::l=>!l.elem x&&ndB l
theorem ndB_of:∀{l:List Str},ndB l=true->l.Nodup
 |[],_=>YCJ
 |x::l,h=>by
  unfold ndB at h
  have:=YCT.mp h
  refine YBh.mpr ⟨λm=>?_,ndB_of this.2⟩;rw[List.elem_iff.mpr m]at this;exact absurd this.1 (by decide)
def zba(i:Nat)(hA:DE X c e A)(hi:X.N[i]?=some x:=by rfl)(hx:Loc X.env.scope x:=by first|exact Or.inl rfl|exact Or.inr rfl)(hs:swapsWith e (some (.Name x p)) pos.line X.env=pure false:=by rfl)(hf:X.fn x=true\/X.env.scope.names.lookup x=some .local:=by first|exact .inl rfl|exact .inr rfl|assumption)(hN:X.N.Nodup:=by decreasing_trivial):DS X c (.Assign [.Name x p] e pos) (asgW (.nm i) A):=
 ⟨zfm hA.mono,zb6 (zbu hN hi hx hA.pe hs hf) λD Y H h=>zkO (t:=.nm i) hA.mono D Y H h⟩
def zhJ(t:Tg)(hA:DE X c e A)(hg:PG X tg (gOf c.K t))(hs:swapsWithSole [tg] e pos.line X.env=pure false:=by rfl)(hw:swappedStores [tg] e X.env=pure none:=by rfl)
  (h1:(assignEach [tg] X.env).map (·.2)=[assign tg X.env]:=by rfl):DS X c (.Assign [tg] e pos) (asgW t A):=
 ⟨zfm hA.mono,zb6 (zdE hA.pe hg hs hw h1) λD Y H h=>zkO hA.mono D Y H h⟩
@[reducible] def ownW(i:Nat)(F:WL):WS:=λE Z=>F Z λxs=>E.nx (Z.set i (.own xs))
def zoC(mF:zdq F):zmL (ownW i F):=λE E' Z l q=>mF Z _ _ (λd z=>l.nx _ z) q
def zoZ(mF:zdq F)(D:Ends)(Y:St)(H:Hp)(h:tDS c (ownW i F) D Y H):tAsg (tDf c F) (zc9 i) D Y H:=by
 obtain⟨Z,G,r,q⟩:=h;refine⟨Z,G,r,mF Z _ _ (λxs z l vs H' G' t hl hg h0 hv=>?_) q⟩;refine z _ H' G' ((r.step t).putOwn hl hg (r.new0 h0) (r.neβ h0) hv λj ys e1 e2=>?_) t.gg;obtain⟨a,vs',f1,f2,_⟩:=r.slot j _ e1;rw[e2]at f1;cases f1;rw[h0]at f2;cases f2
def ziR(i:Nat)(hF:DF X c e F)(hi:X.N[i]?=some x:=by rfl)(hx:Loc X.env.scope x:=by first|exact Or.inl rfl|exact Or.inr rfl)(hs:swapsWith e (some (.Name x p)) pos.line X.env=pure false:=by rfl)(hf:X.fn x=true\/X.env.scope.names.lookup x=some .local:=by first|exact .inl rfl|exact .inr rfl|assumption)(hN:X.N.Nodup:=by decreasing_trivial):DS X c (.Assign [.Name x p] e pos) (ownW i F):=
 ⟨zoC hF.mono,zb6 (zbu hN hi hx hF.pe hs hf) λD Y H h=>zoZ hF.mono D Y H h⟩
@[reducible] def parW(i j:Nat)(A B:WE):WS:=λE Z=>A Z λx=>B Z λy=>E.nx ((Z.set i (.val x)).set j (.val y))
def zqR(i j:Nat){kt k2 pt2}(hA:DE X c a A)(hB:DE X c b B)(hij:i≠j:=by decide)(hi:X.N[i]?=some x:=by rfl)(hj:X.N[j]?=some y:=by rfl)(hx:X.env.scope.names.lookup x=some .local:=by rfl)(hy:X.env.scope.names.lookup y=some .local:=by rfl)(hsa:starEach [a,b] X.env=(false,eval a X.env)::starEach [b] X.env:=by rfl)(hsb:starEach [b] X.env=(false,eval b X.env)::starEach [] X.env:=by rfl)(hw:swappedStores [.Tuple [.Name x px,.Name y py] kt pt] (.Tuple [a,b] k2 pt2) X.env=pure (some [x,y]):=by rfl)(hs:swapsWithSole [.Tuple [.Name x px,.Name y py] kt pt] (.Tuple [a,b] k2 pt2) pos.line X.env=pure false:=by rfl)(hc:X.calm=true:=by rfl)(hN:X.N.Nodup:=by decreasing_trivial) :
  DS X c (.Assign [.Tuple [.Name x px,.Name y py] kt pt] (.Tuple [a,b] k2 pt2) pos) (parW i j A B)where
 mono:=λE E' Z l q=>hA.mono Z _ _ (λd z=>hB.mono Z _ _ (λd' z'=>l.nx _ z') z) q
 ps:=zb6 (zr7 hc hN hi hj hij hx hy (zah hA.pe (zah hB.pe zav hsb) hsa) hw hs) λD Y H ⟨Z,G,r,q⟩=>⟨Z,G,r,hA.mono Z _ _ (λd z v H1 G1 t1 e1=>⟨Z,G1,r.step t1,hB.mono Z _ _ (λd' z' w H2 G2 t2 e2=>
  ⟨v,w,rfl,z' _ H2 G2 ((((r.step t1).step t2).put (e1.mono t2.gg)).put e2) (t1.gg.trans t2.gg)⟩) z⟩) q⟩
def appW(i:Nat)(A:WE):WS:=λE Z=>match Z[i]? with
 |some (.own xs)=>A Z λd=>xs.length<100000/\E.nx (Z.set i (.own (xs++[d])))
 |_=>False
def zle(i:Nat)(hA:DE X c e A)(hN:X.N[i]?=some x:=by rfl)(hv:Vis X.env.scope x:=by first|exact Or.inl rfl|exact Or.inr (Or.inl rfl)|exact Or.inr (Or.inr rfl))
  (hd:(x==("__debug__":Str))=false:=by decide) (hcd:(x==("__classdict__":Str))=false:=by decide)
  (hbase:attributeBase (.Name x p) "append" X.env (eval (.Name x p) X.env)=eval (.Name x p) X.env:=by rfl)
  (hfew:((backTo cpos (starEach [e] X.env)).all (λx=>!x.1)&&(backToKw cpos (keywordEach [] X.env)).all (λx=>x.1.isSome)
   && decide (([e]:List Expr).length+([]:List Keyword).length+(if ([]:List Keyword).isEmpty then 0 else 1)<30))=true:=by rfl)
  (hline:(apos.endLine==cpos.line)=true:=by rfl) (hs:starEach [e] X.env=(false,eval e X.env)::starEach [] X.env:=by rfl)
  (hsw:swapsWith (.Call (.Attribute (.Name x p) "append" apos) [e] [] cpos) none pos.line X.env=pure false:=by rfl):DS X c (.Expr (.Call (.Attribute (.Name x p) "append" apos) [e] [] cpos) pos) (appW i A)where
 mono:=λE E' Z l q=>by
  unfold appW at q ⊢;split at q
  .exact hA.mono Z _ _ (λd z=>⟨z.1,l.nx _ z.2⟩) q
  .exact q.elim
 ps:=zb6 (zdc (zln YBx YBr YBs zb2 (zdK hN hv hd hcd) (zah hA.pe zav hs) hbase hfew hline hs rfl) hsw) λD Y H ⟨Z,G,r,q⟩=>by
  unfold appW at q;split at q
  .rename_i xs ek
   obtain⟨a,vs,h1,h2,h3,h4,h5,h6⟩:=r.slot i _ ek;refine⟨.ref a,h1,.inl ⟨rfl,vs,SqL.of h2⟩,Z,G,r,hA.mono Z _ _ (λd z w H' G' t e=>?_) q⟩;refine⟨a,vs,w,rfl,rfl,t.fr a _ h5 h2,?_,?_⟩
   .rw[<-h6.length];exact YAs z.1 (small5 (YAn _))
   .exact z.2 _ _ G' ((r.step t).write ek h1 ((h6.mono t.gg).append (.one e))) t.gg
  .exact q.elim
def ixS(xs:List D)(k:D)(Q:Nat->Prop):Prop:=match k with|.int j=>(match ixN xs.length j with|some m=>Q m|none=>False)|_=>False
def zod(f:∀m,Q m->Q' m)(q:ixS xs k Q):ixS xs k Q':=by
 unfold ixS at q ⊢;split at q
 .split at q
  .exact f _ q
  .exact q.elim
 .exact q.elim
def putW(i:Nat)(I A:WE):WS:=λE Z=>match Z[i]? with
 |some (.own xs)=>A Z λd=>I Z λk=>ixS xs k λm=>E.nx (Z.set i (.own (xs.set m d)))
 |_=>False
def zsQ(i:Nat)(hA:DE X c e A)(hI:DE X c ie I)(hN:X.N[i]?=some x:=by rfl)(hv:Vis X.env.scope x:=by first|exact Or.inl rfl|exact Or.inr (Or.inl rfl)|exact Or.inr (Or.inr rfl))
  (hd:(x==("__debug__":Str))=false:=by decide) (hcd:(x==("__classdict__":Str))=false:=by decide)
  (ha:∀v,assign (.Subscript (.Name x p) ie tpos) X.env v=(do
   let ov <-holding [v] (eval (.Name x p) X.env)
   let iv <-holding [v,ov] (eval ie X.env)
   standAt tpos
   holding [v,ov,iv] (setItem ov iv v)
   release [v,ov,iv] []):=by intro _;rfl) (hs:swapsWithSole [.Subscript (.Name x p) ie tpos] e pos.line X.env=pure false:=by rfl) (hw:swappedStores [.Subscript (.Name x p) ie tpos] e X.env=pure none:=by rfl)
  (h1:(assignEach [.Subscript (.Name x p) ie tpos] X.env).map (·.2)=[assign (.Subscript (.Name x p) ie tpos) X.env]:=by rfl):DS X c (.Assign [.Subscript (.Name x p) ie tpos] e pos) (putW i I A)where
 mono:=λE E' Z l q=>by
  unfold putW at q ⊢;split at q
  .exact hA.mono Z _ _ (λd z=>hI.mono Z _ _ (λk y=>zod (λm=>l.nx _) y) z) q
  .exact q.elim
 ps:=zb6 (zdE hA.pe (zi1 (zdK hN hv hd hcd) hI.pe zcU ha) hs hw h1) λD Y H ⟨Z,G,r,q⟩=>by
  unfold putW at q;split at q
  .rename_i xs ek
   refine⟨Z,G,r,hA.mono Z _ _ (λd z v H1 G1 t1 e1=>?_) q⟩;obtain⟨a,vs,h1,h2,h3,h4,h5,h6⟩:=(r.step t1).slot i _ ek;refine⟨.ref a,h1,Z,G1,r.step t1,hI.mono Z _ _ (λk y w H2 G2 t2 e2=>?_) z⟩;unfold ixS at y;split at y
   .rename_i j
    split at y
    .rename_i m em
     refine⟨a,vs,j,m,rfl,e2,t2.fr a _ h5 h2,by rw[<-h6.length];exact em,?_⟩;exact y Y _ G2 (((r.step t1).step t2).write ek h1 (Reps.set (e1.mono t2.gg) m (h6.mono t2.gg))) (t1.gg.trans t2.gg)
    .exact y.elim
   .exact y.elim
  .exact q.elim
def getI(xs:List D)(k:D)(Q:Nat->Int->Prop):Prop:=match k with|.int j=>(match xs[j.toNat]? with|some (.int a)=>0<=j/\Q j.toNat a|_=>False)|_=>False
def zns(f:∀m a,Q m a->Q' m a)(q:getI xs k Q):getI xs k Q':=by
 unfold getI at q ⊢;split at q
 .split at q
  .exact⟨q.1,f _ _ q.2⟩
  .exact q.elim
 .exact q.elim
def intD(d:D)(Q:Int->Prop):Prop:=match d with|.int j=>Q j|_=>False
def zjd(f:∀m,Q m->Q' m)(q:intD d Q):intD d Q':=by
 cases d<;>first|exact f _ q|exact q
def zgj(i:Nat)(I A:WE):WS:=λE Z=>match Z[i]? with
 |some (.own xs)=>I Z λk=>getI xs k λm a=>A Z λd=>intD d λb=>E.nx (Z.set i (.own (xs.set m (.int (a+b)))))
 |_=>False
def znB(i:Nat)(hI:DE X c ie I)(hA:DE X c e A)(hN:X.N[i]?=some x:=by rfl)(hv:Vis X.env.scope x:=by first|exact Or.inl rfl|exact Or.inr (Or.inl rfl)|exact Or.inr (Or.inr rfl))
  (hd:(x==("__debug__":Str))=false:=by decide) (hcd:(x==("__classdict__":Str))=false:=by decide)
  (ha:∀ov iv new,augStore ie ov iv new=(do holding [new,ov,iv] (setItem ov iv new);release [new,ov,iv] [];pure .next):=by intros;rfl):DS X c (.AugAssign (.Subscript (.Name x p) ie tpos) .Add e pos) (zgj i I A)where
 mono:=λE E' Z l q=>by
  unfold zgj at q ⊢;split at q
  .exact hI.mono Z _ _ (λk z=>zns (λm a y=>hA.mono Z _ _ (λd w=>zjd (λb=>l.nx _) w) y) z) q
  .exact q.elim
 ps:=zb6 (znm (zdK hN hv hd hcd) hI.pe zkW hA.pe znn zcU ha) λD Y H ⟨Z,G,r,q⟩=>by
  unfold zgj at q;split at q
  .rename_i xs ek
   obtain⟨a,vs,h1,h2,h3,h4,h5,h6⟩:=r.slot i _ ek;refine⟨.ref a,h1,Z,G,r,hI.mono Z _ _ (λk y w H1 G1 t1 e1=>?_) q⟩;unfold getI at y;split at y
   .rename_i j
    split at y
    .rename_i b em
     obtain⟨j0,y⟩:=y;have ej:w=V.int ((j.toNat:Nat):Int):=by rw[YBk j0];exact e1
     obtain⟨v,ev,rv⟩:=h6.get em;have rv':v=V.int b:=rv;refine⟨a,vs,j.toNat,v,rfl,ej,SqL.of (t1.fr a _ h5 h2),ev,Z,G1,r.step t1,hA.mono Z _ _ (λd z u H2 G2 t2 e2=>?_) y⟩;cases d with
     |int b2=>
      refine⟨b,b2,rv',e2,a,vs,((j.toNat:Nat):Int),j.toNat,rfl,ej,t2.fr a _ h5 (t1.fr a _ h5 h2),?_,?_⟩
      .unfold ixN;have hlt:j.toNat<vs.length:=(YAi.mp ev).1;rw[if_pos (by omega),if_pos (by omega),YAD]
      .exact z Y _ G2 (((r.step t1).step t2).write ek h1 (Reps.set (d:=.int (b+b2)) rfl j.toNat ((h6.mono t1.gg).mono t2.gg))) (t1.gg.trans t2.gg)
     |_=>exact z.elim
    .exact y.elim
   .exact y.elim
  .exact q.elim
end
def ItOk(c:Bk)(J:It)(xs:List D)(G:Hp):Prop:=∀(i:Nat)(H2 G2:Hp),Same G G2->Same G2 H2->BoxD c.β H2 G2->(∀a,H2 a=none->c.H0 a=none) ->
 (i=xs.length->J.stop i H2)/\∀d,xs[i]?=some d->J.go i H2/\∀x H3,J.yld i H2 x H3->∃G3,Stp c.β H2 G2 H3 G3/\Rep c G3 d x
def tDI(c:Bk)(I:WL):TI:=λY H R=>∃ Z G,Rel c Z Y H G/\I Z λxs=>∀J H' G',Stp c.β H G H' G'->ItOk c J xs G'->R J H'
structure DI(X:Cx)(c:Bk)(tg iter:Expr)(I:WL):Prop where
 mono:zdq I
 pi:PI X tg iter (tDI c I)
section
variable{X:Cx}{c:Bk}{tg e a b:Expr}{A B:WE}{pos p:Pos}
def znO(h:PI X tg e wi)(k:∀ Y H R,wi' Y H R->wi Y H R):PI X tg e wi':=λO s Y H R I q=>h O s Y H R I (k Y H R q)
def zqg(hl:G l=some (.lst vs))(h:Reps c G xs vs):ItOk c (Itl c.K l) xs G:=by
 intro i H2 G2 s1 s2 bx h0;have q:SqL c.K H2 l vs:=SqL.of (s2 _ _ (s1 _ _ hl));refine⟨λe=>⟨vs,q,by rw[e,h.length];exact YAn _⟩,λd e=>?_⟩;obtain⟨v,e1,e2⟩:=h.get e;refine⟨⟨vs,v,q,e1⟩,λx H3 y=>?_⟩;obtain⟨rfl,y⟩:=y
 have:=y vs q
 rw[e1]at this;cases this;exact⟨G2,Stp.refl s2 bx,e2.mono s1⟩
def zrO(hl:SqT c.K G l vs)(h:Reps c G xs vs):ItOk c (Itt c.K l) xs G:=by
 intro i H2 G2 s1 s2 bx h0;have q:SqT c.K H2 l vs:=zaT (s1.trans s2) hl;refine⟨λe=>⟨vs,q,by rw[e,h.length];exact YAn _⟩,λd e=>?_⟩;obtain⟨v,e1,e2⟩:=h.get e;refine⟨⟨vs,v,q,e1⟩,λx H3 y=>?_⟩;obtain⟨rfl,y⟩:=y
 have:=y vs q
 rw[e1]at this;cases this;exact⟨G2,Stp.refl s2 bx,e2.mono s1⟩
@[reducible] def seqI(A:WE):WL:=λZ Q=>A Z λd=>seqD d Q
def zbi(hA:DE X c e A)(hK:c.K=X.K:=by rfl):DI X c tg e (seqI A)where
 mono:=λZ Q Q' k q=>hA.mono Z _ _ (λd z=>zeq k z) q
 pi:=znO (zr4 hA.pe) λY H R ⟨Z,G,r,q⟩=>⟨Z,G,r,hA.mono Z _ _ (λd z v H' G' t e=>by
  cases d with
  |lst n xs=>
   obtain⟨l,vs,rfl,hl,_,hv⟩:=e;exact⟨l,rfl,.inl ⟨⟨vs,SqL.of (t.gh _ _ hl)⟩,z _ H' G' t (hK▸zqg hl hv)⟩⟩
  |tup xs=>
   obtain⟨l,vs,rfl,hl,hv⟩:=e;exact⟨l,rfl,.inr ⟨⟨vs,hK▸zaT t.gh hl⟩,z _ H' G' t (hK▸zrO hl hv)⟩⟩
  |_=>exact z.elim) q⟩
def rngL(m:Int)(n:Nat):List D:=(List.range n).map λ(k:Nat)=>D.int (m+(k:Int))
def it_rng(m:Int)(n:Nat):ItOk c (Itr m n) (rngL m n) G:=by
 intro i H2 G2 s1 s2 bx h0;refine⟨λe=>by show n<=i;unfold rngL at e;simp at e;omega,λd e=>?_⟩;unfold rngL at e;rw[YAq]at e;have hi:i<n:=by
  by_cases h:i<n
  .exact h
  .rw[YCp (by simp;omega)]at e;cases e
 rw[YC8 hi]at e;cases e;exact⟨hi,λx H3 ⟨y1,y2⟩=>⟨G2,by rw[y1];exact Stp.refl s2 bx,y2⟩⟩
def zfc(A:WE):WL:=λZ Q=>A Z λd=>match d with|.int n=>(-(2^62)<=n/\n<2^62)/\Q (rngL 0 n.toNat)|_=>False
def zdL(hA:DE X c a A)(hg:Gl X "range":=by rfl)(hs:starEach [a] X.env=[(false,eval a X.env)]:=by rfl)(hm:X.mg "range"=none:=by decreasing_trivial):DI X c tg (.Call (.Name "range" p) [a] [] pos) (zfc A)where
 mono:=λZ Q Q' k q=>hA.mono Z _ _ (λd z=>by cases d<;>first|exact⟨z.1,k _ z.2⟩|exact z) q
 pi:=znO (zfP hg hm (zah hA.pe zav hs) hs) λY H R ⟨Z,G,r,q⟩=>⟨Z,G,r,hA.mono Z _ _ (λd z v H' G' t e=>by
  cases d with
  |int n=>exact⟨n,by cases e;rfl,z.1.1,z.1.2,z.2 _ H' G' t (it_rng 0 _)⟩
  |_=>exact z.elim) q⟩
def zipL:List D->List D->List D
 |x::xs,y::ys=>.tup [x,y]::zipL xs ys
 |_,_=>[]
theorem zkH:∀{xs ys:List D}{i:Nat}{d:D},(zipL xs ys)[i]?=some d->∃x y,xs[i]?=some x/\ys[i]?=some y/\d=.tup [x,y]
 |x::xs,y::ys,0,d,e=>by simp[zipL]at e;exact⟨x,y,rfl,rfl,e.symm⟩
 |x::xs,y::ys,i+1,d,e=>by simp[zipL]at e;simpa using zkH e
 |[],_,_,_,e=>by simp[zipL]at e
 |_::_,[],_,_,e=>by simp[zipL]at e
theorem zkw:∀(xs ys:List D),(zipL xs ys).length=min xs.length ys.length
 |[],_=>by simp[zipL]
 |_::_,[]=>by simp[zipL]
 |x::xs,y::ys=>by simp[zipL,zkw xs ys]
end
def zbB(t:Tg)(B:WS)(E:En):List D->Env->Prop
 |[],Z=>E.nx Z
 |x::xs,Z=>gD t x Z λZ'=>B {nx:=zbB t B E xs,ct:=zbB t B E xs,bk:=E.nx,rt:=E.rt} Z'
@[reducible] def forW(I:WL)(t:Tg)(B:WS):WS:=λE Z=>I Z λxs=>zbB t B E xs Z
theorem zgh(mB:zmL B)(l:En.Le E E'):∀(xs:List D)(Z:Env),zbB t B E xs Z->zbB t B E' xs Z
 |[],Z,q=>l.nx Z q
 |x::xs,Z,q=>zbv t x Z (λZ' z=>mB {nx:=zbB t B E xs,ct:=zbB t B E xs,bk:=E.nx,rt:=E.rt} _ Z' ⟨zgh mB l xs,l.rt,l.nx,zgh mB l xs⟩ z) q
section
variable{X:Cx}{c:Bk}{tg iter e:Expr}{body:List Stmt}{pos p:Pos}
def zc7(t:Tg)(hI:DI X c tg iter I)(hg:PG X tg (gOf c.K t))(hB:DSs X c body B)(hp:PassesOwn (model X.prog X.w) X.A X.env X.xe:=by exact YBn)(hc:X.calm=true:=by rfl)(hs:∀x,foldedSetIterable iter X.env x=pure x:=by intro _;rfl) :
  DS X c (.For tg iter body [] pos) (forW I t B)where
 mono:=λE E' Z l q=>hI.mono Z _ _ (λxs z=>zgh hB.mono l xs Z z) q
 ps:=zb6 (zey hp hc hI.pi hg hB.pss hs) λD Y H ⟨Z,G,r,q⟩=>⟨Z,G,r,hI.mono Z _ _ (λxs z J H1 G1 t1 it=>by
  refine⟨λi m Y H=>m=xs.length-i/\i<=xs.length/\∃ Z' G',Rel c Z' Y H G'/\Same G1 G'/\zbB t B (ends c G D) (xs.drop i) Z',⟨xs.length,rfl,YAH _,Z,G1,r.step t1,Same.refl _,z⟩,?_⟩;rintro i m Y' H' ⟨rfl,hi,Z',G',r',s',q'⟩;have ok:=it i H' G' s' r'.gh r'.bx (λa z=>r'.new0 z);by_cases hlt:i<xs.length
  .refine .inr ?_;have ed:xs.drop i=xs[i]::xs.drop (i+1):=YAW hlt;rw[ed]at q';obtain⟨go,yl⟩:=ok.2 xs[i] (YAe hlt);refine⟨go,λY H=>∃ Z' G',Rel c Z' Y H G'/\Same G1 G'/\zbB t B (ends c G D) (xs.drop (i+1)) Z',λY2 H2 h=>⟨xs.length-(i+1),by omega,rfl,by omega,h⟩,λx H3 y=>?_⟩;obtain⟨G3,t3,e3⟩:=yl x H3 y;refine zdP t xs[i] x Z' Y' (r'.step t3) e3 (zbv t xs[i] Z' (λZ2 z2 Y2 r2=>?_) q');refine⟨Z2,G3,r2,hB.mono {nx:=zbB t B (ends c G D) (xs.drop (i+1)),ct:=zbB t B (ends c G D) (xs.drop (i+1)),bk:=(ends c G D).nx,rt:=(ends c G D).rt} _ Z2 ⟨λZ3 z3 Y3 H4 G4 r4 s4=>⟨Z3,G4,r4,(s'.trans t3.gg).trans s4,z3⟩,λd z=>z,λZ3 z3 Y3 H4 G4 r4 s4=>z3 Y3 H4 G4 r4 (((t1.gg.trans s').trans t3.gg).trans s4),λZ3 z3 Y3 H4 G4 r4 s4=>⟨Z3,G4,r4,(s'.trans t3.gg).trans s4,z3⟩⟩ z2⟩
  .have e:i=xs.length:=by omega
   subst e;rw[YBW]at q';exact .inl ⟨ok.1 rfl,q' Y' H' G' r' (t1.gg.trans s')⟩) q⟩
def zaF(n:Nat)(ds:List D):Env:=ds.map (λd=>Sl.val d.old)++List.replicate (n-ds.length) .un
def fnW(n:Nat)(B:WS):Fn:=λds Q=>B {nx:=λ_=>Q .non,rt:=Q,bk:=λ_=>False,ct:=λ_=>False} (zaF n ds)
def zk9(gh:Same G H)(bx:BoxD β H G)(h:Reps ⟨K,β,λ_=>none,G⟩ G ds vs):Rel ⟨K,β,H,G⟩ (zaF N.length ds) (L2.start N vs) H G:=by
 have noOwn:∀(i:Nat) xs,(zaF N.length ds)[i]?≠some (.own xs):=λi xs e=>by
  unfold zaF at e;by_cases hi:i<ds.length
  .rw[YBD (by simpa using hi),YAq,YAe hi]at e;cases e
  .rw[YBR (by simpa using hi),YBL]at e;split at e<;>cases e
 refine⟨by unfold zaF L2.start;simp[h.length],Stp.refl gh bx,λi s e=>?_,λi j a xs ys e1=>absurd e1 (noOwn i xs)⟩;unfold zaF at e;by_cases hi:i<ds.length
 .rw[YBD (by simpa using hi),YAq]at e;obtain⟨v,e1,e2⟩:=h.get (YAe hi);rw[YAe hi]at e;cases e;refine⟨v,?_,Rep.hand (c:=⟨K,β,λ_=>none,G⟩) (c':=⟨K,β,H,G⟩) rfl rfl e2⟩;unfold L2.start;rw[YBD (by rw[YAc,<-h.length];exact hi),YAq,e1];rfl
 .rw[YBR (by simpa using hi),YBL]at e;split at e<;>cases e
  trivial
def zby(F:Fun K x qual st f fd)
  (hB:∀{cdv:Value}{A:Around}{outer:List PySem.Env}{s:Shared}{H:Hp}{E:XK}{β:Addr}{G:Hp},N.Nodup->Room k (A.deeper (PyProof.Rows.envOfC qual (zat st) s.heap.objs.size f cdv)) ->
   DSs (cxOf CX0 P w K mg base N qual (zat st) f cdv A outer s H E).nox ⟨K,β,H,G⟩ (zcg st) B) (S:FnScope N ps (zat st):=by exact⟨rfl,rfl,rfl,by decide +kernel,rfl,by decide +kernel,by decide +kernel⟩):FnOk P w K mg base CX0 (k+1) f fd ps (spD K ps.length (fnW N.length B)):=by
 refine F.ok S (λvs H Q E ⟨β,G,ds,_,_,_,h,_⟩=>h) (λcdv A outer s H vs Q E hr ⟨β,G,ds,gh,bx,hv,hl,P',q,hP⟩=>?_);have h:=@hB cdv A outer s H E β G S.nd hr;refine⟨_,h.pss,zaF N.length ds,G,zk9 gh bx hv,h.mono {nx:=λ_=>P' .non,rt:=P',bk:=λ_=>False,ct:=λ_=>False} _ _ ⟨λZ z Y H' G' r s'=>hP _ z .non H' G' r.stp rfl,λd z v H' G' t e=>hP _ z v H' G' t e,λZ z=>z.elim,λZ z=>z.elim⟩ q⟩
end
section
variable{X:Cx}{c:Bk}{a b:Expr}{A B:WE}{pos p tpos:Pos}{es:List Expr}
def zipI(A B:WE):WL:=λZ Q=>A Z λx=>B Z λy=>match x,y with
 |.lst _ xs,.lst _ ys=>Q (zipL xs ys)
 |.tup xs,.tup ys=>Q (zipL xs ys)
 |_,_=>False
def zpb(hl:SQ tp c.K G l vs)(hm:SQ tp c.K G m ws)(hv:Reps c G xs vs)(hw:Reps c G ys ws):ItOk c (Itz2 tp c.K l m) (zipL xs ys) G:=by
 intro i H2 G2 s1 s2 bx h0;have up:∀{l vs},SQ tp c.K G l vs->SQ tp c.K H2 l vs:=λ{l vs} h=>by
  cases tp
  .exact(s1.trans s2).seq h
  .exact zaT (s1.trans s2) h
 have ql:=up hl;have qm:=up hm;refine⟨λe=>⟨vs,ws,ql,qm,by rw[e,zkw,hv.length,hw.length]⟩,λd e=>?_⟩;obtain⟨x,y,ex,ey,rfl⟩:=zkH e;obtain⟨v,e1,r1⟩:=hv.get ex;obtain⟨w,e2,r2⟩:=hw.get ey;refine⟨⟨vs,ws,v,w,ql,qm,e1,e2⟩,λz H3 yl=>?_⟩;obtain⟨t,x',y',ht,rfl,rfl,f1,f2⟩:=yl;have g1:=f1 vs ql;have g2:=f2 ws qm;rw[e1]at g1;cases g1;rw[e2]at g2;cases g2;have sg:Same G2 (upd G2 t (.tup [v,w])):=zcc (zas s2 ht);exact⟨_,Stp.new s2 bx ht,t,[v,w],rfl,SqT.of zac,⟨v,[w],rfl,(r1.mono s1).mono sg,w,[],rfl,(r2.mono s1).mono sg,rfl⟩⟩
def zs0(hA:DE X c a A)(hB:DE X c b B)(hg:Gl X "zip":=by rfl)(hs:starEach [a,b] X.env=[(false,eval a X.env),(false,eval b X.env)]:=by rfl)(hs2:starEach [b] X.env=[(false,eval b X.env)]:=by rfl)(hK:c.K=X.K:=by rfl)(hm:X.mg "zip"=none:=by decreasing_trivial) :
  DI X c (.Tuple es x1 tpos) (.Call (.Name "zip" p) [a,b] [] pos) (zipI A B)where
 mono:=λZ Q Q' k q=>hA.mono Z _ _ (λx z=>hB.mono Z _ _ (λy z'=>by cases x<;>cases y<;>first|exact k _ z'|exact z') z) q
 pi:=znO (zqd hg hm (zah hA.pe (zah hB.pe zav hs2) (by rw[hs,hs2])) hs hs2) λY H R ⟨Z,G,r,q⟩=>⟨Z,G,r,hA.mono Z _ _ (λx z v H1 G1 t1 e1=>⟨Z,G1,r.step t1,hB.mono Z _ _ (λy z' w H2 G2 t2 e2=>by
  have e1':=e1.mono t2.gg;cases x with
  |lst n xs=>cases y with
   |lst m ys=>
    obtain⟨l,vs,rfl,hl,_,hv⟩:=e1';obtain⟨k,ws,rfl,hk,_,hw⟩:=e2;exact⟨false,l,k,vs,ws,rfl,SqL.of (t2.gh _ _ hl),SqL.of (t2.gh _ _ hk),z' _ H2 G2 (t1.trans t2) (hK▸zpb (tp:=false) (SqL.of hl) (SqL.of hk) hv hw)⟩
   |_=>exact z'.elim
  |tup xs=>cases y with
   |tup ys=>
    obtain⟨l,vs,rfl,hl,hv⟩:=e1';obtain⟨k,ws,rfl,hk,hw⟩:=e2;exact⟨true,l,k,vs,ws,rfl,hK▸zaT t2.gh hl,hK▸zaT t2.gh hk,z' _ H2 G2 (t1.trans t2) (hK▸zpb (tp:=true) hl hk hv hw)⟩
   |_=>exact z'.elim
  |_=>exact z'.elim) z⟩) q⟩
end
def subE(sub:List (Option Nat))(Z:Env):Env:=sub.map λo=>match o with
 |some j=>(match Z[j]? with|some (.val d)=>.val d|_=>.un)
 |none=>.un
def zh1(sub:List (Option Nat))(r:Rel c Z Y H G):Rel c (subE sub Z) (zbk sub Y) H G:=by
 have noOwn:∀(i:Nat) xs,(subE sub Z)[i]?≠some (.own xs):=λi xs e=>by
  unfold subE at e;rw[YAq]at e;cases h:sub[i]? with
  |none=>rw[h]at e;cases e
  |some o=>
   rw[h]at e;cases o with
   |none=>cases e
   |some j=>
    simp only[YDM,YDs]at e;split at e<;>cases e
 refine⟨by unfold subE zbk;simp,r.stp,λi s e=>?_,λi j a xs ys e1=>absurd e1 (noOwn i xs)⟩;unfold subE at e;rw[YAq]at e;cases h:sub[i]? with
 |none=>rw[h]at e;cases e
 |some o=>
  rw[h]at e;cases o with
  |none=>cases e;trivial
  |some j=>
   simp only[YDM,YDs]at e;split at e
   .rename_i d hd
    subst e;obtain⟨v,h1,h2⟩:=r.slot j _ hd;refine⟨v,?_,h2⟩;unfold zbk;rw[YAq,h];show some ((Y[j]?).join)=_;rw[h1];rfl
   .subst e;trivial
mutual
def okT(sub:List (Option Nat)):Tg->Bool
 |.nm i=>decide (sub[i]?=some none)
 |.tp _ ts=>okTs sub ts
def okTs(sub:List (Option Nat)):Tgs->Bool
 |.nil=>true
 |.cons t ts=>okT sub t&&okTs sub ts
end
mutual
theorem zhq(K:qq):∀t:Tg,zeO (gOf K t)
 |.nm i=>by unfold gOf;exact zbr
 |.tp n ts=>by unfold gOf;exact zrI (zkI K ts)
theorem zkI(K:qq):∀t:Tgs,zfw (gsOf K t)
 |.nil=>by unfold gsOf;exact zeP
 |.cons t ts=>by unfold gsOf;exact zbM (zhq K t) (zkI K ts)
end
mutual
theorem znu(K:qq)(sub:List (Option Nat)):∀t:Tg,okT sub t=true->zfg sub (gOf K t)
 |.nm i,h=>by unfold gOf;unfold okT at h;exact zdM (YA3 h)
 |.tp n ts,h=>by unfold gOf;unfold okT at h;exact zr9 (zo8 K sub ts h)
theorem zo8(K:qq)(sub:List (Option Nat)):∀t:Tgs,okTs sub t=true->zgE sub (gsOf K t)
 |.nil,_=>by unfold gsOf;exact zl1
 |.cons t ts,h=>by
  unfold gsOf;unfold okTs at h;have h':=(YAI _ _▸h:okT sub t=true/\okTs sub ts=true);exact zee (znu K sub t h'.1) (zhq K t) (zo8 K sub ts h'.2) (zkI K ts)
end
def zbd(t:Tg)(C:WT)(E:WE)(Zc:Env)(Q:List D->Prop):List D->List D->Prop
 |[],acc=>Q acc
 |x::xs,acc=>gD t x Zc λZ2=>C Z2 λb=>if b=true then E Z2 λd=>zbd t C E Zc Q xs (acc++[d])else zbd t C E Zc Q xs acc
theorem zdD(mC:zdX C)(mE:zbz E)(k:∀xs,Q xs->Q' xs):∀xs acc,zbd t C E Zc Q xs acc->zbd t C E Zc Q' xs acc
 |[],acc,q=>k _ q
 |x::xs,acc,q=>zbv t x Zc (λZ2 z=>mC Z2 _ _ (λb z=>by
  cases b
  .exact zdD mC mE k xs acc z
  .exact mE Z2 _ _ (λd z=>zdD mC mE k xs _ z) z) z) q
@[reducible] def zaP(sub:List (Option Nat))(I:WL)(t:Tg)(C:WT)(E:WE):WL:=λZ Q=>I Z λxs=>xs.length<=100000/\zbd t C E (subE sub Z) Q xs []
def zg0(mI:zdq I)(mC:zdX C)(mE:zbz E):zdq (zaP sub I t C E):=λZ Q Q' k q=>mI Z _ _ (λxs z=>⟨z.1,zdD mC mE k xs [] z.2⟩) q
def Stp.wr(s:Stp β H G H' G')(h0:H l=none)(hg:G' l=none)(hb:l≠β):Stp β H G (upd H' l o) G':=
 ⟨s.gg,λa u e=>by rw[zaf (λz=>by rw[z,hg]at e;cases e)];exact s.gh a u e,λa u n e=>by rw[zaf (λz=>by rw[z,h0]at e;cases e)];exact s.fr a u n e,s.nw,
 ⟨by obtain⟨cc,p,r,d,ns,h,q⟩:=s.bx.ex;exact⟨cc,p,r,d,ns,by rw[zaf (Ne.symm hb)];exact h,q⟩,s.bx.still⟩,s.b0,λcc p r d h=>by
  obtain⟨p',r',d',e⟩:=s.bc cc p r d h;exact⟨p',r',d',by rw[zaf (Ne.symm hb)];exact e⟩⟩
def Stp.still_none(s:Stp β H G H' G')(h:H l=some o)(hg:G l=none)(hs:¬ zkZ o:=by exact id):G' l=none:=by
 cases e:G' l with
 |none=>rfl
 |some u=>
  rcases s.nw l (by rw[e];simp)with z|z|⟨o',z,st⟩
  .exact absurd hg z
  .rw[h]at z;cases z
  .rw[h]at z;cases z;exact absurd st hs
def zig(mI:zdq I)(mC:zdX C)(mE:zbz E)(Y:St)(H:Hp)(Q:VK)(h:tDf c (zaP sub I t C E) Y H Q) :
  zmV sub (tDI c I) (gOf c.K t) (tDt c C) (tD c E) Y H Q:=by
 obtain⟨Z,G,r,q⟩:=h;refine⟨Z,G,r,mI Z _ _ (λxs ⟨hz,z⟩ J H1 G1 t1 it l hl=>?_) q⟩;have hb:l≠c.β:=(r.step t1).neβ hl;have hg1:G1 l=none:=zas t1.gh hl;refine⟨λi m ys H2=>m=xs.length-i/\i<=xs.length/\ys.length<=i/\H2 l=some (.lst ys)/\∃G2 acc,Stp c.β H1 G1 H2 G2/\G2 l=none/\Reps c G2 acc ys /\
  zbd t C E (subE sub Z) (λds=>∀l vs H' G',Stp c.β H G H' G'->H' l=some (.lst vs)->G' l=none->H l=none->Reps c G' ds vs->Q (.ref l) H') (xs.drop i) acc,
  ⟨xs.length,rfl,YAH _,YAn _,zac,G1,[],Stp.own t1.gh t1.bx hl,hg1,rfl,z⟩,?_⟩
 rintro i m ys H2 ⟨rfl,hi,hyl,h2,G2,acc,t2,hg2,hv,q2⟩;refine⟨h2,?_⟩;have r2:=(r.step t1).step t2;have ok:=it i H2 G2 t2.gg t2.gh t2.bx (λa z=>r2.new0 z);by_cases hlt:i<xs.length
 .refine .inr ?_;rw[YAW hlt]at q2;obtain⟨go,yl⟩:=ok.2 xs[i] (YAe hlt);refine⟨go,λys' H3=>ys'.length<=i+1/\H3 l=some (.lst ys')/\∃G3 acc',Stp c.β H1 G1 H3 G3/\G3 l=none/\Reps c G3 acc' ys'/\zbd t C E (subE sub Z) (λds=>∀l vs H' G',Stp c.β H G H' G'->H' l=some (.lst vs)->G' l=none->H l=none->Reps c G' ds vs->Q (.ref l) H') (xs.drop (i+1)) acc',
   λys' H3 ⟨a1,a2,a3⟩=>⟨xs.length-(i+1),by omega,rfl,by omega,a1,a2,a3⟩,λx H3 y=>?_⟩
  obtain⟨G3,t3,e3⟩:=yl x H3 y;have h3:H3 l=some (.lst ys):=t3.fr l _ hb h2;have hg3:G3 l=none:=t3.still_none h2 hg2;have t13:=t2.trans t3;refine zdP t xs[i] x (subE sub Z) (zbk sub Y) (zh1 sub ((r.step t1).step t13)) e3 (zbv t xs[i] _ (λZ2 z2 Y2 rr=>?_) q2);refine⟨Z2,G3,rr,mC Z2 _ _ (λb z3 H4 G4 t4=>?_) z2⟩;have h4:H4 l=some (.lst ys):=t4.fr l _ hb h3;have hg4:G4 l=none:=t4.still_none h3 hg3;have t14:=t13.trans t4;cases b
  .exact⟨Nat.le_succ_of_le hyl,h4,G4,acc,t14,hg4,(hv.mono t3.gg).mono t4.gg,z3⟩
  .refine⟨Z2,G4,rr.step t4,mE Z2 _ _ (λd z4 y H5 G5 t5 e5=>?_) z3⟩;have h5:H5 l=some (.lst ys):=t5.fr l _ hb h4;have hg5:G5 l=none:=t5.still_none h4 hg4;refine⟨h5,?_,by rw[YAo];exact YCU hyl 1,zac,G5,acc++[d],(t14.trans t5).wr hl hg5 hb,hg5,(((hv.mono t3.gg).mono t4.gg).mono t5.gg).append (.one e5),z4⟩
   have:=small5 (YAn 100000)
   omega
 .have e:i=xs.length:=by omega
  subst e;rw[YBW]at q2;exact .inl ⟨ok.1 rfl,q2 l ys H2 G2 (t1.trans t2) h2 hg2 (t1.free hl) hv⟩
structure DIf(X:Cx)(c:Bk)(ifs:List Expr)(C:WT):Prop where
 mono:zdX C
 pf:PIfs X ifs (tDt c C)
@[reducible] def noIf:WT:=λ_ Q=>Q true
section
variable{X:Cx}{c:Bk}{tg iter elt e:Expr}{ifs:List Expr}{scope:Scope}{pos p spos:Pos}{Nc:List Str}{sub:List (Option Nat)}{I:WL}{C:WT}{E:WE}
def zaU:DIf X c [] noIf:=⟨λZ Q Q' k q=>k _ q,λO s Y H Q I ⟨Z,G,r,q⟩=>pif0 O s Y H Q I (q H G r.refl)⟩
def zke(h:DT X c e C):DIf X c [e] C:=⟨h.mono,pif1 h.pt⟩
def zaV(t:Tg)(hI:DI X c tg iter I)(hg:∀{cl L s0 H0 ex},PG (zaq X Nc scope cl L s0 H0 ex) tg (gOf c.K t))(hC:∀{cl L s0 H0 ex},DIf (zaq X Nc scope cl L s0 H0 ex) c ifs C)(hE:∀{cl L s0 H0 ex},DE (zaq X Nc scope cl L s0 H0 ex) c elt E)
  (hS:zgM X.N X.env.scope scope Nc sub=true:=by kernel_rfl) (hok:okT sub t=true:=by decide +kernel) (hc:X.calm=true:=by rfl) (hs:∀x,foldedSetIterable iter X.env x=pure x:=by intro _;rfl) :
  DF X c (.ListComp elt [⟨tg,iter,ifs,0⟩] scope pos) (zaP sub I t C E):=
 have mC:=(@hC [] 0 X.s₀ (λ_=>none) []).mono;have mE:=(@hE [] 0 X.s₀ (λ_=>none) []).mono
 ⟨zg0 hI.mono mC mE,zaW (zhR hc (CompScope.of hS) hI.pi (λcl L s0 H0 ex=>@hg cl L s0 H0 ex) (znu c.K sub t hok) (zhq c.K t) (λcl L s0 H0 ex=>(@hC cl L s0 H0 ex).pf) (λcl L s0 H0 ex=>(@hE cl L s0 H0 ex).pe) hs) (zig hI.mono mC mE)⟩
def zps(i:Nat)(t:Tg)(hI:DI X c tg iter I)(hg:∀{cl L s0 H0 ex},PG (zaq X Nc scope cl L s0 H0 ex) tg (gOf c.K t))(hC:∀{cl L s0 H0 ex},DIf (zaq X Nc scope cl L s0 H0 ex) c ifs C)(hE:∀{cl L s0 H0 ex},DE (zaq X Nc scope cl L s0 H0 ex) c elt E)(hi:X.N[i]?=some x:=by rfl)(hy:X.env.scope.names.lookup x=some .local:=by rfl)(hS:zgM X.N X.env.scope scope Nc sub=true:=by kernel_rfl)(hok:okT sub t=true:=by decide +kernel)(hc:X.calm=true:=by rfl)(hsw:swapsWith (.ListComp elt [⟨tg,iter,ifs,0⟩] scope pos) (some (.Name x p)) spos.line X.env=pure true:=by rfl)(hs:∀x,foldedSetIterable iter X.env x=pure x:=by intro _;rfl)(hN:X.N.Nodup:=by decreasing_trivial) :
  DS X c (.Assign [.Name x p] (.ListComp elt [⟨tg,iter,ifs,0⟩] scope pos) spos) (asgW (.nm i) (valW (zaP sub I t C E))):=by
 have mC:=(@hC [] 0 X.s₀ (λ_=>none) []).mono;have mE:=(@hE [] 0 X.s₀ (λ_=>none) []).mono;have mL:=zg0 (sub:=sub) (t:=t) hI.mono mC mE;have mV:zbz (valW (zaP sub I t C E)):=λZ Q Q' k q=>mL Z _ _ (λxs z=>k _ z) q;refine⟨zfm mV,zb6 (zlR hc hN hi hy (CompScope.of hS) hI.pi (λcl L s0 H0 ex=>@hg cl L s0 H0 ex) (znu c.K sub t hok) (zhq c.K t) (λcl L s0 H0 ex=>(@hC cl L s0 H0 ex).pf) (λcl L s0 H0 ex=>(@hE cl L s0 H0 ex).pe) hsw hs) λD Y H ⟨Z,G,r,q⟩=>?_⟩;refine zig hI.mono mC mE Y H _ ⟨Z,G,r,mL Z _ _ (λxs z l vs H' G' t hl hg h0 hv=>?_) q⟩;have hb:=r.neβ h0;exact z (Y.set i (some (.ref l))) H' (upd G' l (.lst vs)) ((r.step (t.still hl h0 hb hg)).put ⟨l,vs,rfl,zac,λ_=>r.new0 h0,hv.mono (zcc hg)⟩) (t.gg.trans (zcc hg))
def zdu(t:Tg)(C:WT)(E:WE)(Zc:Env)(Q:List Int->Prop):List D->List Int->Prop
 |[],acc=>Q acc
 |x::xs,acc=>gD t x Zc λZ2=>C Z2 λb=>if b=true then E Z2 λd=>intD d λk=>zdu t C E Zc Q xs (k::acc)else zdu t C E Zc Q xs acc
theorem zdR(mC:zdX C)(mE:zbz E)(k:∀xs,Q xs->Q' xs):∀xs acc,zdu t C E Zc Q xs acc->zdu t C E Zc Q' xs acc
 |[],acc,q=>k _ q
 |x::xs,acc,q=>zbv t x Zc (λZ2 z=>mC Z2 _ _ (λb z=>by
  cases b
  .exact zdR mC mE k xs acc z
  .exact mE Z2 _ _ (λd z=>zjd (λm z=>zdR mC mE k xs _ z) z) z) z) q
@[reducible] def zj0(sub:List (Option Nat))(I:WL)(t:Tg)(C:WT)(E:WE):WL:=λZ Q=>I Z λxs=>xs.length<64/\zdu t C E (subE sub Z) (λns=>Q ((zbw ns).map D.int)) xs []
def zjY(mI:zdq I)(mC:zdX C)(mE:zbz E):zdq (zj0 sub I t C E):=λZ Q Q' k q=>mI Z _ _ (λxs z=>⟨z.1,zdR mC mE (λns z=>k _ z) xs [] z.2⟩) q
def znU(t:Tg)(hI:DI X c tg iter I)(hg:∀{cl L s0 H0 ex},PG (zaq X Nc scope cl L s0 H0 ex) tg (gOf c.K t))(hC:∀{cl L s0 H0 ex},DIf (zaq X Nc scope cl L s0 H0 ex) c ifs C)(hE:∀{cl L s0 H0 ex},DE (zaq X Nc scope cl L s0 H0 ex) c elt E)(hS:zgM X.N X.env.scope scope Nc sub=true:=by kernel_rfl)(hok:okT sub t=true:=by decide +kernel)(hc:X.calm=true:=by rfl)(hs:∀x,foldedSetIterable iter X.env x=pure x:=by intro _;rfl)(hgl:Gl X "sorted":=by rfl)(hm:X.mg "sorted"=none:=by decreasing_trivial) :
  DF X c (.Call (.Name "sorted" p) [.SetComp elt [⟨tg,iter,ifs,0⟩] scope pos] [] spos) (zj0 sub I t C E):=by
 have mC:=(@hC [] 0 X.s₀ (λ_=>none) []).mono;have mE:=(@hE [] 0 X.s₀ (λ_=>none) []).mono;refine⟨zjY hI.mono mC mE,zaW (zbA (zdb hc) hgl hm YCb (zah (zn8 hc (CompScope.of hS) hI.pi (λcl L s0 H0 ex=>@hg cl L s0 H0 ex) (znu c.K sub t hok) (zhq c.K t) (λcl L s0 H0 ex=>(@hC cl L s0 H0 ex).pf) (λcl L s0 H0 ex=>(@hE cl L s0 H0 ex).pe) hs) zav) (by decide) (by decide) rfl rfl) λY H Q ⟨Z,G,r,q⟩=>?_⟩;refine⟨Z,G,r,hI.mono Z _ _ (λxs ⟨hz,z⟩ J H1 G1 t1 it l hl=>?_) q⟩;have hsc:=zmh;have hb:l≠c.β:=(r.step t1).neβ hl;have hg1:G1 l=none:=zas t1.gh hl;refine⟨λi m ys H2=>m=xs.length-i/\i<=xs.length/\ys.length<=i/\H2 l=some (SetO X.w l ys)/\∃G2,Stp c.β H1 G1 H2 G2/\G2 l=none /\
  zdu t C E (subE sub Z) (λns=>∀l vs H' G',Stp c.β H G H' G'->H' l=some (.lst vs)->G' l=none->H l=none->Reps c G' ((zbw ns).map D.int) vs->Q (.ref l) H') (xs.drop i) ys,
  ⟨xs.length,rfl,YAH _,YAn _,zac,G1,Stp.own t1.gh t1.bx hl,hg1,z⟩,?_⟩
 rintro i m ys H2 ⟨rfl,hi,hyl,h2,G2,t2,hg2,q2⟩;refine⟨h2,?_⟩;have r2:=(r.step t1).step t2;have ok:=it i H2 G2 t2.gg t2.gh t2.bx (λa z=>r2.new0 z);by_cases hlt:i<xs.length
 .refine .inr ?_;rw[YAW hlt]at q2;obtain⟨go,yl⟩:=ok.2 xs[i] (YAe hlt);refine⟨go,λys' H3=>ys'.length<=i+1/\H3 l=some (SetO X.w l ys')/\∃G3,Stp c.β H1 G1 H3 G3/\G3 l=none/\zdu t C E (subE sub Z) (λns=>∀l vs H' G',Stp c.β H G H' G'->H' l=some (.lst vs)->G' l=none->H l=none->Reps c G' ((zbw ns).map D.int) vs->Q (.ref l) H') (xs.drop (i+1)) ys',
   λys' H3 ⟨a1,a2,a3⟩=>⟨xs.length-(i+1),by omega,rfl,by omega,a1,a2,a3⟩,λx H3 y=>?_⟩
  obtain⟨G3,t3,e3⟩:=yl x H3 y;have h3:H3 l=some (SetO X.w l ys):=t3.fr l _ hb h2;have hg3:G3 l=none:=t3.still_none h2 hg2;have t13:=t2.trans t3;refine zdP t xs[i] x (subE sub Z) (zbk sub Y) (zh1 sub ((r.step t1).step t13)) e3 (zbv t xs[i] _ (λZ2 z2 Y2 rr=>?_) q2);refine⟨Z2,G3,rr,mC Z2 _ _ (λb z3 H4 G4 t4=>?_) z2⟩;have h4:H4 l=some (SetO X.w l ys):=t4.fr l _ hb h3;have hg4:G4 l=none:=t4.still_none h3 hg3;have t14:=t13.trans t4;cases b
  .exact⟨Nat.le_succ_of_le hyl,h4,G4,t14,hg4,z3⟩
  .refine⟨Z2,G4,rr.step t4,mE Z2 _ _ (λd z4 y H5 G5 t5 e5=>?_) z3⟩;have h5:H5 l=some (SetO X.w l ys):=t5.fr l _ hb h4;have hg5:G5 l=none:=t5.still_none h4 hg4;cases d with
   |int k=>exact⟨k,e5,h5,by omega,YCU hyl 1,zac,G5,(t14.trans t5).wr hl hg5 hb,hg5,z4⟩
   |_=>exact z4.elim
 .have e:i=xs.length:=by omega
  subst e;rw[YBW]at q2;refine .inl ⟨ok.1 rfl,l,ys,rfl,h2,by omega,λl3 ms hl3 up mem=>?_⟩;rw[zqs up mem];have t3:=t1.trans t2;exact q2 l3 _ _ G2 (t3.trans (Stp.own t2.gh t2.bx hl3)) zac (zas t2.gh hl3) (t3.free hl3) (reps_ints.mpr rfl)
end
def NoOwn(Z:Env):Prop:=∀(i:Nat) xs,Z[i]?≠some (.own xs)
theorem NoOwn.set(h:NoOwn Z)(i:Nat)(d:D):NoOwn (Z.set i (.val d)):=λj xs e=>by
 by_cases z:i=j
 .subst z;by_cases hl:i<Z.length
  .rw[YAE hl]at e;cases e
  .rw[YCp (by simpa using hl)]at e;cases e
 .rw[YAB z]at e;exact h j xs e
mutual
theorem zkq:∀(t:Tg)(d:D)(Z:Env){Q:Env->Prop},NoOwn Z->gD t d Z Q->gD t d Z λZ'=>Q Z'/\NoOwn Z'
 |.nm i,d,Z,Q,k,q=>by unfold gD at q ⊢;exact⟨q,k.set i d⟩
 |.tp n ts,.tup ds,Z,Q,k,q=>by unfold gD at q ⊢;exact⟨q.1,zgf ts ds Z k q.2⟩
 |.tp _ _,.non,_,_,_,q=>by unfold gD at q;exact q.elim
 |.tp _ _,.bl _,_,_,_,q=>by unfold gD at q;exact q.elim
 |.tp _ _,.int _,_,_,_,q=>by unfold gD at q;exact q.elim
 |.tp _ _,.str _,_,_,_,q=>by unfold gD at q;exact q.elim
 |.tp n ts,.lst _ ds,Z,Q,k,q=>by unfold gD at q ⊢;exact⟨q.1,zgf ts ds Z k q.2⟩
 |.tp _ _,.box,_,_,_,q=>by unfold gD at q;exact q.elim
theorem zgf:∀(ts:Tgs)(ds:List D)(Z:Env){Q:Env->Prop},NoOwn Z->gDs ts ds Z Q->gDs ts ds Z λZ'=>Q Z'/\NoOwn Z'
 |.nil,[],Z,Q,k,q=>by unfold gDs at q ⊢;exact⟨q,k⟩
 |.cons t ts,d::ds,Z,Q,k,q=>by
  unfold gDs at q ⊢;exact zbv t d Z (λZ' z=>zgf ts ds Z' z.2 z.1) (zkq t d Z k q)
 |.nil,_::_,_,_,_,q=>by unfold gDs at q;exact q.elim
 |.cons _ _,[],_,_,_,q=>by unfold gDs at q;exact q.elim
end
def zlI(sub:List (Option Nat))(Z:Env):NoOwn (subE sub Z):=λi xs e=>by
 unfold subE at e;rw[YAq]at e;cases h:sub[i]? with
 |none=>rw[h]at e;cases e
 |some o=>
  rw[h]at e;cases o with
  |none=>cases e
  |some j=>
   simp only[YDM,YDs]at e;split at e<;>cases e
def Rel.move(r:Rel c Z Y H G)(no:NoOwn Z)(gg:Same G G')(t:Stp c.β c.H0 c.G0 H' G'):Rel c Z Y H' G':=
 ⟨r.len,t,λi s e=>by
  cases s with
  |un=>trivial
  |val d=>obtain⟨v,h1,h2⟩:=r.slot i _ e;exact⟨v,h1,h2.mono gg⟩
  |own xs=>exact absurd e (no i xs),λi j a xs ys e=>absurd e (no i xs)⟩
mutual
def slT:Tg->List Nat
 |.nm i=>[i]
 |.tp _ ts=>slTs ts
def slTs:Tgs->List Nat
 |.nil=>[]
 |.cons t ts=>slT t++slTs ts
end
mutual
theorem zqG(K:qq):∀(t:Tg)(v:V)(Y:St)(H:Hp)(Q:St->Hp->Prop),gOf K t v Y H Q->gOf K t v Y H λY2 H2=>Q Y2 H2/\∀i:Nat,i∉slT t->Y2[i]?=Y[i]?
 |.nm i,v,Y,H,Q,q=>by
  unfold gOf at q ⊢;refine⟨q,λj hj=>?_⟩;unfold slT at hj;rw[YAB (λz=>hj (by simp[z]))]
 |.tp n ts,v,Y,H,Q,q=>by
  unfold gOf at q ⊢;obtain⟨a,xs,e,s,l,q⟩:=q;exact⟨a,xs,e,s,l,by unfold slT;exact zo5 K ts xs Y H Q q⟩
theorem zo5(K:qq):∀(t:Tgs)(v:List V)(Y:St)(H:Hp)(Q:St->Hp->Prop),gsOf K t v Y H Q->gsOf K t v Y H λY2 H2=>Q Y2 H2/\∀i:Nat,i∉slTs t->Y2[i]?=Y[i]?
 |.nil,v,Y,H,Q,q=>by
  unfold gsOf at q ⊢;exact⟨q.1,q.2,λ_ _=>rfl⟩
 |.cons t ts,v,Y,H,Q,q=>by
  unfold gsOf at q ⊢;obtain⟨x,r,e,q⟩:=q;refine⟨x,r,e,zhq K t _ _ _ _ _ (λY2 H2 z=>?_) (zqG K t _ _ _ _ q)⟩;refine zkI K ts _ _ _ _ _ (λY3 H3 y=>⟨y.1,λi hi=>?_⟩) (zo5 K ts _ _ _ _ z.1);unfold slTs at hi;rw[y.2 i (λh=>hi (YAp _ h)),z.2 i (λh=>hi (YAy _ h))]
end
def zo6(sub:List (Option Nat))(t t2:Tg):Bool:=(slT t2).all λi=>decide (sub[i]?=some none) && !(slT t).contains i
def znZ(h:zo6 sub t t2=true):zpS sub (gOf K t) (gOf K t2):=λv Y H Q q=>by
 refine zhq K t _ _ _ _ _ (λY2 H2 z=>⟨z.1,λY' _ u H' Q' q'=>?_⟩) (zqG K t _ _ _ _ q);refine zhq K t2 _ _ _ _ _ (λY3 H3 y=>⟨y.1,λi v e=>?_⟩) (zqG K t2 _ _ _ _ q');by_cases hi:i∈slT t2
 .have:=YCh.mp h i hi
  rw[YAI]at this;obtain⟨h1,h2⟩:=this;have h1:=YA3 h1;have h2:i∉slT t:=by simpa using h2
  rw[z.2 i h2]at e;obtain⟨j,e1,_⟩:=zdl e;rw[h1]at e1;cases e1
 .rw[y.2 i hi];exact e
def zdk(t:Tg)(I2:WL)(t2:Tg)(C:WT)(E:WE)(Zc:Env)(Q:List D->Prop):List D->List D->Prop
 |[],acc=>Q acc
 |x::xs,acc=>gD t x Zc λZ2=>I2 Z2 λys=>acc.length+ys.length<=100000/\zbd t2 C E Z2 (λacc'=>zdk t I2 t2 C E Zc Q xs acc') ys acc
theorem zfz(mI:zdq I2)(mC:zdX C)(mE:zbz E)(k:∀xs,Q xs->Q' xs):∀xs acc,zdk t I2 t2 C E Zc Q xs acc->zdk t I2 t2 C E Zc Q' xs acc
 |[],acc,q=>k _ q
 |x::xs,acc,q=>zbv t x Zc (λZ2 z=>mI Z2 _ _ (λys z=>⟨z.1,zdD mC mE (λacc' z=>zfz mI mC mE k xs acc' z) ys acc z.2⟩) z) q
@[reducible] def zfI(sub:List (Option Nat))(I:WL)(t:Tg)(I2:WL)(t2:Tg)(C:WT)(E:WE):WL:=λZ Q=>I Z λxs=>zdk t I2 t2 C E (subE sub Z) Q xs []
def zjR(mI:zdq I)(mI2:zdq I2)(mC:zdX C)(mE:zbz E):zdq (zfI sub I t I2 t2 C E):=λZ Q Q' k q=>mI Z _ _ (λxs z=>zfz mI2 mC mE k xs [] z) q
def zlF(mI:zdq I)(mI2:zdq I2)(mC:zdX C)(mE:zbz E)(Y:St)(H:Hp)(Q:VK)(h:tDf c (zfI sub I t I2 t2 C E) Y H Q) :
  znH sub (tDI c I) (gOf c.K t) (tDI c I2) (gOf c.K t2) (tDt c C) (tD c E) Y H Q:=by
 obtain⟨Z,G,r,q⟩:=h;refine⟨Z,G,r,mI Z _ _ (λxs z J H1 G1 t1 it l hl=>?_) q⟩;have hb:l≠c.β:=(r.step t1).neβ hl;have hg1:G1 l=none:=zas t1.gh hl;have r1:=r.step t1;generalize hQQ:(λds:List D=>∀l vs H' G',Stp c.β H G H' G'->H' l=some (.lst vs)->G' l=none->H l=none->Reps c G' ds vs->Q (.ref l) H')=QQ at z;refine⟨λi m ys H2=>m=xs.length-i/\i<=xs.length/\H2 l=some (.lst ys)/\∃G2 acc,Stp c.β H1 G1 H2 G2/\G2 l=none/\Reps c G2 acc ys/\zdk t I2 t2 C E (subE sub Z) QQ (xs.drop i) acc,
  ⟨xs.length,rfl,YAH _,zac,G1,[],Stp.own t1.gh t1.bx hl,hg1,rfl,z⟩,?_⟩
 rintro i m ys H2 ⟨rfl,hi,h2,G2,acc,s2,hg2,hv,q2⟩;refine⟨h2,?_⟩;have r2:=r1.step s2;have ok:=it i H2 G2 s2.gg s2.gh s2.bx (λa z=>r2.new0 z);by_cases hlt:i<xs.length
 .refine .inr ?_;rw[YAW hlt]at q2;obtain⟨go,yl⟩:=ok.2 xs[i] (YAe hlt);refine⟨go,λys' H3=>H3 l=some (.lst ys')/\∃G3 acc',Stp c.β H1 G1 H3 G3/\G3 l=none/\Reps c G3 acc' ys'/\zdk t I2 t2 C E (subE sub Z) QQ (xs.drop (i+1)) acc',
   λys' H3 ⟨a2,a3⟩=>⟨xs.length-(i+1),by omega,rfl,by omega,a2,a3⟩,λx H3 y=>?_⟩
  obtain⟨G3,t3,e3⟩:=yl x H3 y;have h3:H3 l=some (.lst ys):=t3.fr l _ hb h2;have hg3:G3 l=none:=t3.still_none h2 hg2;have t13:=s2.trans t3;refine zdP t xs[i] x (subE sub Z) (zbk sub Y) (zh1 sub (r1.step t13)) e3 (zbv t xs[i] _ (λZ2 z2 Y2 rr=>?_) (zkq t xs[i] _ (zlI sub Z) q2));obtain⟨z2,no2⟩:=z2;refine⟨Z2,G3,rr,mI2 Z2 _ _ (λzs ⟨hz,z3⟩ J2 H4 G4 t4 it2=>?_) z2⟩;have h4:H4 l=some (.lst ys):=t4.fr l _ hb h3;have hg4:G4 l=none:=t4.still_none h3 hg3;have t14:=t13.trans t4;have hv4:=(hv.mono t3.gg).mono t4.gg;refine⟨λj m ys' H5=>m=zs.length-j/\j<=zs.length/\ys'.length<=ys.length+j/\H5 l=some (.lst ys')/\∃G5 acc',Stp c.β H1 G1 H5 G5/\Same G4 G5/\G5 l=none/\Reps c G5 acc' ys'/\zbd t2 C E Z2 (λacc'=>zdk t I2 t2 C E (subE sub Z) QQ (xs.drop (i+1)) acc') (zs.drop j) acc',
   ⟨zs.length,rfl,YAH _,YAn _,h4,G4,acc,t14,Same.refl _,hg4,hv4,z3⟩,?_⟩
  rintro j m ys' H5 ⟨rfl,hj,hyl,h5,G5,acc',t15,gg5,hg5,hv5,q5⟩;refine⟨h5,?_⟩;have r5:=r1.step t15;have ok2:=it2 j H5 G5 gg5 t15.gh t15.bx (λa z=>r5.new0 z);have rr5:Rel c Z2 Y2 H5 G5:=rr.move no2 (t4.gg.trans gg5) r5.stp;by_cases hlt2:j<zs.length
  .refine .inr ?_;rw[YAW hlt2]at q5;obtain⟨go2,yl2⟩:=ok2.2 zs[j] (YAe hlt2);refine⟨go2,λws H6=>ws.length<=ys.length+(j+1)/\H6 l=some (.lst ws)/\∃G6 acc2,Stp c.β H1 G1 H6 G6/\Same G4 G6/\G6 l=none/\Reps c G6 acc2 ws/\zbd t2 C E Z2 (λacc'=>zdk t I2 t2 C E (subE sub Z) QQ (xs.drop (i+1)) acc') (zs.drop (j+1)) acc2,
    λws H6 ⟨a1,a2,a3⟩=>⟨zs.length-(j+1),by omega,rfl,by omega,a1,a2,a3⟩,λx6 H6 y6=>?_⟩
   obtain⟨G6,t6,e6⟩:=yl2 x6 H6 y6;have h6:H6 l=some (.lst ys'):=t6.fr l _ hb h5;have hg6:G6 l=none:=t6.still_none h5 hg5;have t16:=t15.trans t6;refine zdP t2 zs[j] x6 Z2 Y2 (rr5.step t6) e6 (zbv t2 zs[j] _ (λZ3 z6 Y3 rr3=>?_) q5);refine⟨Z3,G6,rr3,mC Z3 _ _ (λb z7 H7 G7 t7=>?_) z6⟩;have h7:H7 l=some (.lst ys'):=t7.fr l _ hb h6;have hg7:G7 l=none:=t7.still_none h6 hg6;have t17:=t16.trans t7;have hv7:=(hv5.mono t6.gg).mono t7.gg;have gg7:=(gg5.trans t6.gg).trans t7.gg;cases b
   .exact⟨by omega,h7,G7,acc',t17,gg7,hg7,hv7,z7⟩
   .refine⟨Z3,G7,rr3.step t7,mE Z3 _ _ (λd z8 y8 H8 G8 t8 e8=>?_) z7⟩;have h8:H8 l=some (.lst ys'):=t8.fr l _ hb h7;have hg8:G8 l=none:=t8.still_none h7 hg7;refine⟨h8,?_,by rw[YAo];simp;omega,zac,G8,acc'++[d],(t17.trans t8).wr hl hg8 hb,gg7.trans t8.gg,hg8,(hv7.mono t8.gg).append (.one e8),z8⟩
    have:=small5 (YAn 100000)
    have hal:=hv.length;omega
  .have e:j=zs.length:=by omega
   subst e;rw[YBW]at q5;exact .inl ⟨ok2.1 rfl,h5,G5,acc',t15,hg5,hv5,q5⟩
 .have e:i=xs.length:=by omega
  subst e;rw[YBW]at q2;refine .inl ⟨ok.1 rfl,?_⟩;have q2:QQ acc:=q2;rw[<-hQQ]at q2;exact q2 l ys H2 G2 (t1.trans s2) h2 hg2 (t1.free hl) hv
section
variable{X:Cx}{c:Bk}{tg iter tg2 iter2 elt e:Expr}{ifs:List Expr}{scope:Scope}{pos p spos:Pos}{Nc:List Str}{sub:List (Option Nat)}{I I2:WL}{C:WT}{E:WE}
def zpv(i:Nat)(t t2:Tg)(hI:DI X c tg iter I)(hg:∀{cl L s0 H0 ex},PG (zaq X Nc scope cl L s0 H0 ex) tg (gOf c.K t))(hI2:∀{cl L s0 H0 ex},DI (zaq X Nc scope cl L s0 H0 ex) c tg2 iter2 I2)(hg2:∀{cl L s0 H0 ex},PG (zaq X Nc scope cl L s0 H0 ex) tg2 (gOf c.K t2))(hC:∀{cl L s0 H0 ex},DIf (zaq X Nc scope cl L s0 H0 ex) c ifs C)(hE:∀{cl L s0 H0 ex},DE (zaq X Nc scope cl L s0 H0 ex) c elt E)(hi:X.N[i]?=some x:=by rfl)(hy:X.env.scope.names.lookup x=some .local:=by rfl)(hS:zgM X.N X.env.scope scope Nc sub=true:=by kernel_rfl)(hok:okT sub t=true:=by decide +kernel)(hap:zo6 sub t t2=true:=by decide +kernel)(hc:X.calm=true:=by rfl)(hsw:swapsWith (.ListComp elt [⟨tg,iter,[],0⟩,⟨tg2,iter2,ifs,0⟩] scope pos) (some (.Name x p)) spos.line X.env=pure true:=by rfl)(hs:∀x,foldedSetIterable iter X.env x=pure x:=by intro _;rfl)(hs2:∀cl L s0 H0 ex x,foldedSetIterable iter2 (zaq X Nc scope cl L s0 H0 ex).env x=pure x:=by intros;rfl)(hN:X.N.Nodup:=by decreasing_trivial) :
  DS X c (.Assign [.Name x p] (.ListComp elt [⟨tg,iter,[],0⟩,⟨tg2,iter2,ifs,0⟩] scope pos) spos) (asgW (.nm i) (valW (zfI sub I t I2 t2 C E))):=by
 have mC:=(@hC [] 0 X.s₀ (λ_=>none) []).mono;have mE:=(@hE [] 0 X.s₀ (λ_=>none) []).mono;have mI2:=(@hI2 [] 0 X.s₀ (λ_=>none) []).mono;have mL:=zjR (sub:=sub) (t:=t) (t2:=t2) hI.mono mI2 mC mE;have mV:zbz (valW (zfI sub I t I2 t2 C E)):=λZ Q Q' k q=>mL Z _ _ (λxs z=>k _ z) q;refine⟨zfm mV,zb6 (zn1 hc hN hi hy (CompScope.of hS) hI.pi (λcl L s0 H0 ex=>@hg cl L s0 H0 ex) (znu c.K sub t hok) (λcl L s0 H0 ex=>(@hI2 cl L s0 H0 ex).pi) (λcl L s0 H0 ex=>@hg2 cl L s0 H0 ex) (znZ hap) hs2 (zhq c.K t) (λcl L s0 H0 ex=>(@hC cl L s0 H0 ex).pf) (λcl L s0 H0 ex=>(@hE cl L s0 H0 ex).pe) hsw hs) λD Y H ⟨Z,G,r,q⟩=>?_⟩;refine zlF hI.mono mI2 mC mE Y H _ ⟨Z,G,r,mL Z _ _ (λxs z l vs H' G' t hl hg h0 hv=>?_) q⟩;have hb:=r.neβ h0;exact z (Y.set i (some (.ref l))) H' (upd G' l (.lst vs)) ((r.step (t.still hl h0 hb hg)).put ⟨l,vs,rfl,zac,λ_=>r.new0 h0,hv.mono (zcc hg)⟩) (t.gg.trans (zcc hg))
end
structure Bt(mg:Str->Option Value):Prop where
 list:mg "list"=none
 len:mg "len"=none
 range:mg "range"=none
 all:mg "all"=none
 any:mg "any"=none
 isinstance:mg "isinstance"=none
 tuple:mg "tuple"=none
 bool:mg "bool"=none
 int:mg "int"=none
 str:mg "str"=none
 sorted:mg "sorted"=none
 set:mg "set"=none
 zip:mg "zip"=none
 enumerate:mg "enumerate"=none
 min:mg "min"=none
 max:mg "max"=none
def zak:Fn
 |[.box,.int m],Q=>(0<m/\m<2^64)/\∀x:Int,0<=x->x<m->Q (.int x)
 |_,_=>False
def lawW(n:Nat)(B:WS):Prop:=B {nx:=λ_=>False,rt:=λd=>d=.bl true,bk:=λ_=>False,ct:=λ_=>False} (.un::.val .box::List.replicate n .un)
end Fd
namespace Fd
open PySem L2
def zbt:Fn:=fnW 1 ((retW (valW (zj0 [none,none,none,none] (seqI (vW 0)) (.tp 4 (.cons (.nm 0) (.cons (.nm 1) (.cons (.nm 2) (.cons (.nm 3) .nil))))) noIf (vW 3)))))
def zd0:Fn:=fnW 2 ((retW (valW (zaP [none,none,none,none,some 1] (seqI (vW 0)) (.tp 4 (.cons (.nm 0) (.cons (.nm 1) (.cons (.nm 2) (.cons (.nm 3) .nil))))) (blW (binW (inD true) (vW 3) (vW 4))) (tupW (zab (vW 0) (zab (vW 1) (zab (vW 2) (zab (vW 3) nilA)))))))))
def zqC:Fn:=fnW 2 ((retW (cbW allF (zab (valW (zaP [none,none,none,none,some 1] (seqI (vW 0)) (.tp 4 (.cons (.nm 0) (.cons (.nm 1) (.cons (.nm 2) (.cons (.nm 3) .nil))))) noIf (binW eqD (binW subD (ixvW 4 (vW 1)) (ixvW 4 (vW 0))) (vW 2)))) nilA))))
noncomputable def zbE:Fn:=fnW 4 ((seqW (asgW (.nm 1) (zau 2 zak (zab (vW 0) (zab (kW (.int 4)) nilA))))
  (seqW (ifS (blW (binW eqD (vW 1) (kW (.int 0)))) (retW (zau 2 zak (zab (vW 0) (zab (kW (.int 10)) nilA)))) nilS)
  (seqW (ifS (blW (binW eqD (vW 1) (kW (.int 1)))) (retW (zau 2 zak (zab (vW 0) (zab (kW (.int 1000000)) nilA)))) nilS)
  (seqW (asgW (.nm 2) (kW (.int 0)))
  (seqW (forW (zfc (kW (.int 3))) (.nm 3) (asgW (.nm 2) (binW addD (binW mulD (vW 2) (kW (.int 1000000))) (zau 2 zak (zab (vW 0) (zab (kW (.int 1000000)) nilA))))))
  (retW (vW 2))))))))
noncomputable def za7:Nat->Fn
 |0=>λ_ _=>False
 |n+1=>fnW 2 ((seqW (ifS (orT (truW (isiW "list" (vW 1))) (truW (isiW "tuple" (vW 1)))) (seqW (ifS (orT (blW (binW neD (isiW "list" (vW 0)) (isiW "list" (vW 1)))) (blW (binW neD (isiW "tuple" (vW 0)) (isiW "tuple" (vW 1))))) (retW (kW (.bl false))) nilS)
  (retW (andW (binW eqD (zcy 0) (zcy 1)) (cbW allF (zab (valW (zaP [none,none] (zipI (vW 0) (vW 1)) (.tp 2 (.cons (.nm 0) (.cons (.nm 1) .nil))) noIf (zau 2 (za7 n) (zab (vW 0) (zab (vW 1) nilA))))) nilA))))) nilS)
  (seqW (ifS (orT (blW (isNW (vW 0))) (blW (isNW (vW 1)))) (retW (andW (isNW (vW 0)) (isNW (vW 1)))) nilS)
  (seqW (ifS (orT (blW (binW neD (isiW "bool" (vW 0)) (isiW "bool" (vW 1)))) (blW (binW neD (isiW "int" (vW 0)) (isiW "int" (vW 1))))) (retW (kW (.bl false))) nilS)
  (retW (andW (binW eqD (isiW "str" (vW 0)) (isiW "str" (vW 1))) (binW eqD (vW 0) (vW 1))))))))
def zbf:Fn:=fnW 2 ((seqW (ifS (orT (notT (truW (isiW "list" (vW 0)))) (blW (binW neD (zcy 0) (vW 1)))) (retW (kW (.bl false))) nilS)
  (retW (cbW allF (zab (valW (zaP [none] (seqI (vW 0)) (.nm 0) noIf (andW (isiW "int" (vW 0)) (notW (isiW "bool" (vW 0)))))) nilA)))))
noncomputable def za9:Fn:=fnW 2 ((retW (binW addD (vW 1) (binW ixD (valW (lstW (zab (kW (.int 1)) (zab (unW negD (kW (.int 1))) (zab (binW addD (kW (.int 1)) (zau 2 zak (zab (vW 0) (zab (kW (.int 5)) nilA)))) (zab (zau 1 zbE (zab (vW 0) nilA)) (zab (unW negD (zau 1 zbE (zab (vW 0) nilA))) nilA))))))) (zau 2 zak (zab (vW 0) (zab (kW (.int 5)) nilA)))))))
noncomputable def zbH:Fn:=fnW 17 ((seqW (asgW (.nm 4) (binW addD (kW (.int 1)) (zau 2 zak (zab (vW 0) (zab (vW 1) nilA)))))
  (seqW (asgW (.nm 5) (binW addD (kW (.int 1)) (zau 2 zak (zab (vW 0) (zab (vW 2) nilA)))))
  (seqW (asgW (.nm 6) (binW ixD (valW (lstW (zab (kW (.int 4)) (zab (kW (.int 1000)) (zab (binW powD (kW (.int 10)) (kW (.int 12))) nilA))))) (zau 2 zak (zab (vW 0) (zab (kW (.int 3)) nilA)))))
  (seqW (asgW (.nm 7) (valW (zaP [none,some 0,some 6] (zfc (vW 4)) (.nm 0) noIf (zau 2 zak (zab (vW 1) (zab (vW 2) nilA))))))
  (seqW (asgW (.nm 8) (valW (zaP [none,some 0] (zfc (vW 5)) (.nm 0) noIf (ifW (blW (binW eqD (zau 2 zak (zab (vW 1) (zab (kW (.int 9)) nilA))) (kW (.int 0)))) (binW modD (binW mulD (kW (.int 3)) (vW 0)) (kW (.int 10))) (vW 0)))))
  (seqW (asgW (.nm 9) (valW (zfq (valW (zaP [none,some 8,some 0,some 5] (zfc (zau 2 zak (zab (vW 0) (zab (kW (.int 4)) nilA)))) (.nm 0) noIf (ixvW 1 (zau 2 zak (zab (vW 2) (zab (vW 3) nilA)))))))))
  (seqW (asgW (.nm 10) (binW addD (kW (.int 1)) (zau 2 zak (zab (vW 0) (zab (kW (.int 3)) nilA)))))
  (seqW (ownW 11 (lstW nilA))
  (seqW (forW (zfc (binW mulD (zau 2 zak (zab (vW 0) (zab (binW addD (vW 3) (kW (.int 1))) nilA))) (cbW intF (zab (binW gtD (vW 4) (kW (.int 1))) nilA)))) (.nm 12) (seqW (asgW (.nm 13) (zau 2 zak (zab (vW 0) (zab (vW 4) nilA))))
  (seqW (asgW (.nm 14) (binW modD (binW addD (binW addD (vW 13) (kW (.int 1))) (zau 2 zak (zab (vW 0) (zab (binW subD (vW 4) (kW (.int 1))) nilA)))) (vW 4)))
  (seqW (asgW (.nm 15) (ixvW 8 (zau 2 zak (zab (vW 0) (zab (vW 5) nilA)))))
  (seqW (asgW (.nm 16) (binW subD (ixvW 7 (vW 14)) (ixvW 7 (vW 13))))
  (seqW (ifS (andT (blW (binW (inD false) (vW 15) (vW 9))) (blW (binW ltD (zau 2 zak (zab (vW 0) (zab (kW (.int 3)) nilA))) (vW 10)))) (asgW (.nm 16) (zau 2 za9 (zab (vW 0) (zab (vW 16) nilA)))) nilS)
  (appW 11 (tupW (zab (vW 13) (zab (vW 14) (zab (vW 16) (zab (vW 15) nilA))))))))))))
  (frzW 11 (retW (tupW (zab (vW 4) (zab (vW 11) (zab (vW 7) (zab (vW 9) nilA)))))))))))))))))
def zbC:Fn:=fnW 2 ((retW (valW (zaP [none,some 1] (seqI (vW 0)) (.nm 0) (blW (binW (inD true) (ixvW 0 (kW (.int 3))) (vW 1))) (vW 0)))))
def za0:Fn:=fnW 1 ((retW (valW (zfq (valW (zaP [none] (seqI (vW 0)) (.nm 0) noIf (ixvW 0 (kW (.int 3)))))))))
noncomputable def zbo:Fn:=fnW 6 ((seqW (ifS (orT (notT (truW (isiW "tuple" (vW 3)))) (orT (blW (binW neD (zcy 3) (kW (.int 2)))) (notT (truW (isiW "list" (ixvW 3 (kW (.int 0)))))))) (retW (kW (.bl false))) nilS)
  (seqW (asgW (.tp 2 (.cons (.nm 4) (.cons (.nm 5) .nil))) (vW 3))
  (seqW (ifS (orT (notT (truW (zau 2 zbf (zab (vW 4) (zab (zcy 4) nilA))))) (orT (notT (truW (zau 2 zbf (zab (vW 5) (zab (vW 0) nilA))))) (blW (binW gtD (zcy 4) (vW 2))))) (retW (kW (.bl false))) nilS)
  (seqW (ifS (orT (blW (binW neD (vW 4) (valW (zfq (vW 4))))) (notT (truW (cbW allF (zab (valW (zaP [none,some 1] (seqI (vW 4)) (.nm 0) noIf (binW (inD false) (vW 0) (zau 1 za0 (zab (vW 1) nilA))))) nilA))))) (retW (kW (.bl false))) nilS)
  (retW (cbW allF (zab (valW (zaP [none,some 5] (seqI (zau 2 zbC (zab (vW 1) (zab (vW 4) nilA)))) (.nm 0) noIf (binW eqD (binW subD (ixvW 1 (ixvW 0 (kW (.int 1)))) (ixvW 1 (ixvW 0 (kW (.int 0))))) (ixvW 0 (kW (.int 2)))))) nilA))))))))
end Fd
namespace Fen
open PySem L2
def Ext(b:Addr)(H H':Hp):Prop:=∀a o,a≠b->H a=some o->H' a=some o
def Ext.refl(b:Addr)(H:Hp):Ext b H H:=λ_ _ _ h=>h
def Ext.trans(x:Ext b H H1)(y:Ext b H1 H2):Ext b H H2:=λa o n h=>y a o n (x a o n h)
theorem Ext.upd:Ext b H (upd H b o):=λa _ n h=>by rw[zaf n];exact h
def boxV(c:Addr)(p r d:Int):HO:=.lst [.ref c,.int p,.int r,.int d]
structure Box(H:Hp)(b c:Addr)(ns:List Int):Prop where
 ex:∃p r d:Int,H b=some (boxV c p r d)/\0<=p/\0<=r/\0<=d/\d<2147483629
 cells:H c=some (.lst (ns.map V.int))
 few:ns.length<=63
def Box.ne(x:Box H b c ns):b≠c:=λz=>by
 obtain⟨p,r,d,e,_⟩:=x.ex;have q:=x.cells;rw[<-z,e]at q;have q':([V.ref c,.int p,.int r,.int d]:List V)=ns.map V.int:=by injection q with q;injection q
 cases ns with
 |nil=>cases q'
 |cons n r=>simp at q'
def Box.put(x:Box H b c ns)(hp:0<=p)(hr:0<=r)(h0:0<=d)(h1:d<2147483629):Box (upd H b (boxV c p r d)) b c ns:=
 ⟨⟨p,r,d,zac,hp,hr,h0,h1⟩,by rw[zaf x.ne.symm];exact x.cells,x.few⟩
def zqE(K:qq):Sp:=λvs H Q _=>∃(a:Addr)(ns:List Int),vs=[.ref a]/\SqL K H a (ns.map V.int)/\ns.length<=63/\∀b c H',H b=none->Box H' b c ns->Same H H'->Q (.ref b) H'
def zqW:Sp:=λvs H Q _=>∃(b c:Addr)(ns:List Int)(m:Int),vs=[.ref b,.int m]/\Box H b c ns/\0<m/\m<2^64/\∀(x:Int) H',0<=x->x<m->Box H' b c ns->Ext b H H'->Q (.int x) H'
structure Txt(K:qq)(mg:Str->Option Value):Prop where
 list:mg "list"=none
 len:mg "len"=none
 range:mg "range"=none
def zsL{ns:List Int}(h:ns.length<=63):cutV (ns.map V.int) none (some 63)=ns.map V.int:=by
 unfold cutV;have e:HT.sIx (ns.map V.int).length (ns.map V.int).length (some 63)=ns.length:=by
  rw[show(63:Int)=((63:Nat):Int)from rfl,HT.sIx_nat,YAc];omega
 rw[e,HT.sIx_none,List.drop_zero,Nat.sub_zero];exact YCH (by simp)
structure Cal(P:Program)(w:World)(K:qq)(mg:Str->Option Value)(base:Heap)(x:Str)(k:Nat)(ps:List Str)(sp:Sp):Prop where
 ex:∃f fd,FnOk P w K mg base CX0 k f fd ps sp/\mg x=some (.ref f)/\PySem.W.keepIn K (.ref f)=true/\Binds K fd ps []
def zeA(C:Cal X.prog X.w X.K X.mg X.base x k ps sp)(hr:Room k X.A)(hg:Gl X x)(ha:PA X (e::es) t)
  (hdb:(x==("__debug__":Str))=false:=by decide) (he:starEach (e::es) X.env=(false,eval e X.env)::starEach es X.env:=by rfl) (hpl:(backTo pos (starEach es X.env)).any (·.1)=false:=by rfl) :
  PE X (.Call (.Name x p) (e::es) [] pos) (zqL sp [] E0 t):=by
 obtain⟨f,fd,F,hm,hk,hb⟩:=C.ex;exact zfD F hr hg hm hk hb .nil zl9 ha hdb he hpl
def Cal.of(F:Fun K x qual st f fd)(G:FnOk P w K mg base CX0 k f fd ps sp)(hm:mg x=some (.ref f))(hb:Binds K fd ps []):Cal P w K mg base x k ps sp:=
 ⟨f,fd,G,hm,F.kp,hb⟩
def zel{zs:List Int}{i:Int}(h0:0<=i)(h1:i<zs.length):atI (zs.map V.int) i=some (.int (zs.getD i.toNat 0)):=by
 have hn:i.toNat<zs.length:=by omega
 have q:=zdO (xs:=zs.map V.int) (j:=i.toNat) (v:=.int (zs.getD i.toNat 0)) (by rw[YAq,YAe hn];simp[List.getD,YAe hn])
 rwa[YBk h0]at q
structure Run where
 p:Addr
 one:Int
 qe:Int
 rise:Int
 hand:Int
def runV(r:Run):V:=.ref r.p
def runT(r:Run):List V:=[.int r.one,.int r.qe,.int r.rise,.int r.hand]
def zkL(e:Same H H')(h:SqT K H a xs):SqT K H' a xs:=by
 rcases h with h|h
 .rcases h with h|⟨o,h⟩
  .exact .inl (.inl (e _ _ h))
  .exact .inl (.inr ⟨o,e _ _ h⟩)
 .exact .inr h
def Runs(K:qq)(H:Hp)(rs:List Run):Prop:=∀r∈rs,SqT K H r.p (runT r)
def Runs.same(x:Runs K H rs)(e:Same H H'):Runs K H' rs:=λr hr=>zkL e (x r hr)
def Runs.at_{K:qq}{H:Hp}{rs:List Run}(x:Runs K H rs){i:Nat}{v:V}(h:(rs.map runV)[i]?=some v):∃r,rs[i]?=some r/\v=.ref r.p/\SqT K H r.p (runT r):=by
 rw[YAq]at h;cases e:rs[i]? with
 |none=>rw[e]at h;cases h
 |some r=>
  rw[e]at h;exact⟨r,rfl,(Option.some.inj h).symm,x r (YAz e)⟩
def zan(h:H l=none):Same H (upd H l o):=λa _ e=>by rw[zaf (zae e h)];exact e
def zm3(h:H l=none)(q:SqL K H a xs):SqL K (upd H l o) a xs:=(zan h).seq q
def zn4{α β:Type}(f:α->β){xs:List α}{i:Nat}{x:α}(h:xs[i]?=some x):(xs.take (i+1)).map f=(xs.take i).map f++[f x]:=by
 rw[YDt,h,YAx];rfl
def zkr(x:Int)(hs:List Int):inV (.int x) (hs.map V.int)=hs.contains x:=by
 unfold inV;rw[List.any_map]
 induction hs with
 |nil=>rfl
 |cons y r ih=>
  rw[YBY,List.contains_cons,ih];congr 1;show eqV (.int y) (.int x)=(x==y);show decide (y=x)=(x==y);by_cases e:y=x
  .subst e;simp
  .have:¬ x=y:=λz=>e z.symm
   simp[e,this]
def ziY(hs:List Int):(hs.map V.int).all zhP=true:=by
 rw[List.all_map,YCh];intro x _;rfl
def noif{Y:St}{H:Hp}{A B:Hp->Prop}(h:A H):zoq Y H (λb H4=>if b=true then A H4 else B H4):=by
 show(if (true:Bool)=true then A H else B H);rw[if_pos rfl];exact h
def zgu(hts:List Int)(r:Run):Bool:=decide (hts.getD r.qe.toNat 0-hts.getD r.one.toNat 0=r.rise)
def zaE(n:Nat)(rs:List Run):Prop:=∀r∈rs,0<=r.one/\r.one<n/\0<=r.qe/\r.qe<n
def zn0(a b:Int):decide (V.int a=V.int b)=decide (a=b):=by
 by_cases e:a=b
 .subst e;simp
 .have:¬ V.int a=V.int b:=λz=>e (V.int.inj z)
  rw[YAC e,YAC this]
structure Txt2(mg:Str->Option Value):Prop where
 all:mg "all"=none
 isinstance:mg "isinstance"=none
 tuple:mg "tuple"=none
 bool:mg "bool"=none
 int:mg "int"=none
 str:mg "str"=none
 sorted:mg "sorted"=none
 set:mg "set"=none
def zlk{K:qq}{a h l:Addr}{rs:List Run}{hts:List Int}{H:Hp}{Q:VK}(ha:SqL K H a (rs.map runV))(R:Runs K H rs)(hh:SqL K H h (hts.map V.int))(V0:zaE hts.length rs)(hz:rs.length<=1000)(hl:H l=none)
  (q:Q (.ref l) (upd H l (.lst ((rs.map (zgu hts)).map V.bl)))) :
  zih (gTup K 4 (zfh (zc9 0) (zfh (zc9 1) (zfh (zc9 2) (zfh (zc9 3) gNil))))) zoq
   (tOp rEq (tOp (rI0 λi j=>.int (i-j)) (tOp (rIxL K) (tVar 4) (tVar 1)) (tOp (rIxL K) (tVar 4) (tVar 0))) (tVar 2)) [none,none,none,none,some (.ref h)] l (Itl K a) H Q:=by
 refine ziK (ys:=rs.map runV) (λi xs H2=>H2=upd H l (.lst xs)/\xs=((rs.take i).map (zgu hts)).map V.bl/\i<=rs.length) ⟨rfl,rfl,YAH _⟩ ?_ ?_ ?_
 .rintro i xs H2 hi ⟨rfl,hx,_⟩;exact⟨zm3 hl ha,zac⟩
 .rintro i x xs H2 hx ⟨rfl,hxs,hi⟩;obtain⟨r,hr,rfl,ht⟩:=R.at_ hx;have hm:=V0 r (YAz hr);have htt:SqT K (upd H l (.lst xs)) r.p (runT r):=zkL (zan hl) ht;have hil:i<rs.length:=(YAi.mp hr).1;refine⟨r.p,_,rfl,htt,rfl,_,_,rfl,_,_,rfl,_,_,rfl,_,_,rfl,rfl,?_⟩;refine noif ?_;refine⟨_,rfl,_,rfl,h,_,_,_,rfl,rfl,zm3 hl hh,zel hm.2.2.1 hm.2.2.2,_,rfl,_,rfl,h,_,_,_,rfl,rfl,zm3 hl hh,zel hm.1 hm.2.1,_,_,rfl,rfl,_,rfl,rfl,zac,?_,?_,?_,?_⟩
  .rw[hxs,YAc,YAc,YBz,YAP];omega
  .rw[zqj]
  .rw[zn4 (zgu hts) hr,YAx,<-hxs,zn0];rfl
  .omega
 .rintro xs H2 ⟨rfl,hxs,_⟩;rw[YAc,YBI]at hxs;rw[hxs];exact q
def zjx(K:qq):Sp:=λvs H Q _=>∃(a h:Addr)(rs:List Run)(hts:List Int),vs=[.ref a,.ref h]/\SqL K H a (rs.map runV)/\Runs K H rs/\SqL K H h (hts.map V.int)/\zaE hts.length rs/\rs.length<=1000 /\
 ∀l o,H l=none->Q (.bl ((rs.map (zgu hts)).all id)) (upd H l o)
def zhp:(["one","other","rise","hand","heights"]:List Str).Nodup:=by decide +kernel
def tMid(t:TS):TS:=λD Y H=>∃M:St->Hp->Prop,t {D with nx:=M} Y H/\∀ Y' H',M Y' H'->D.nx Y' H'
def zq2(h:PS X st t):PS X st (tMid t):=by
 intro O s Y H D I hw;obtain⟨M,h1,h2⟩:=hw;refine thn (h O s Y H _ I h1) λf s' q=>?_;cases f with
 |next=>obtain⟨Y',H',I',q'⟩:=q;exact⟨Y',H',I',h2 _ _ q'⟩
 |brk=>exact q
 |cont=>exact q
 |ret u=>exact q
def zp3{zs:List Int}{i:Nat}{x:V}(h:(zs.map V.int)[i]?=some x):∃z,zs[i]?=some z/\x=.int z:=by
 rw[YAq]at h;cases e:zs[i]? with
 |none=>rw[e]at h;cases h
 |some z=>rw[e]at h;exact⟨z,rfl,(Option.some.inj h).symm⟩
def zsa{n:Nat}{i:Int}(h0:0<=i)(h1:i<n):ixN n i=some i.toNat:=by unfold ixN;rw[if_pos h0,if_pos h1]
def zof{zs:List Int}{i:Nat}{z:Int}:(zs.map V.int).set i (.int z)=(zs.set i z).map V.int:=by rw[List.map_set]
def zmf(H:Hp):Same H H:=λ_ _ e=>e
def zcu(e:Same H H')(h:SQ tp K H a xs):SQ tp K H' a xs:=by
 cases tp
 .exact e.seq h
 .rcases h with h|h
  .rcases h with h|⟨o,h⟩
   .exact .inl (.inl (e _ _ h))
   .exact .inl (.inr ⟨o,e _ _ h⟩)
  .exact .inr h
def zcw(r:Run):Int×Int×Int×Int:=(r.one,r.qe,r.rise,r.hand)
def zbn(r:Run)(qj:Int):Option (Int×Int):=if qj=r.one then some (r.qe,r.rise)else if qj=r.qe then some (r.one,-r.rise)else none
def runAt(rs:List Run)(i:Int):Run:=rs.getD i.toNat ⟨0,0,0,0,0⟩
def walkF(rs:List Run):Int->Int->List Int->Option (Int×Int)
 |qj,h,[]=>some (qj,h)
 |qj,h,n::rest=>if 0<=n/\n<rs.length then(match zbn (runAt rs n) qj with|some (e,d)=>walkF rs e (h+d) rest|none=>none)else none
def zeD(h0:0<=i)(h1:i<rs.length):rs[i.toNat]?=some (runAt rs i)/\atI (rs.map runV) i=some (.ref (runAt rs i).p)/\runAt rs i∈rs:=by
 have hn:i.toNat<rs.length:=by omega
 have e:rs[i.toNat]?=some (runAt rs i):=by unfold runAt;rw[YAe hn];simp[List.getD,YAe hn]
 refine⟨e,?_,YAz e⟩;have q:=zdO (xs:=rs.map runV) (j:=i.toNat) (v:=.ref (runAt rs i).p) (by rw[YAq,e];rfl)
 rwa[YBk h0]at q
theorem zht:∀{qj h:Int}{line:List Int}{e:Int×Int},walkF rs qj h line=some e->∀z∈line,0<=z/\z<rs.length
 |_,_,[],_,_,z,hz=>by cases hz
 |qj,h,n::rest,e,q,z,hz=>by
  unfold walkF at q;by_cases hn:0<=n/\n<(rs.length:Int)
  .rw[if_pos hn]at q;rcases YAk.mp hz with rfl|hz
   .exact hn
   .cases es:zbn (runAt rs n) qj with
    |none=>rw[es]at q;cases q
    |some p=>rw[es]at q;exact zht q z hz
  .rw[if_neg hn]at q;cases q
def zpD{line:List Int}{i:Nat}{z:Int}(h:line[i]?=some z):line.drop i=z::line.drop (i+1):=by
 obtain⟨h1,h2⟩:=YAi.mp h;rw[YAW h1,h2]
def zeo{rs:List Run}{qj h z e d:Int}{rest:List Int}(h0:0<=z)(h1:z<rs.length)(hs:zbn (runAt rs z) qj=some (e,d)):walkF rs qj h (z::rest)=walkF rs e (h+d) rest:=by
 show(if 0<=z/\z<(rs.length:Int)then _ else _)=_;rw[if_pos ⟨h0,h1⟩,hs]
def nb2[Decidable c](h:¬ (!decide c)=true):c:=by simpa using h
inductive Conn(rs:List Run):Int->Int->Prop
 |refl (i:Int):Conn rs i i
 |go {i j k:Int} (r:Run) (c:Conn rs i j) (m:r∈rs) (e:(r.one=j/\r.qe=k)\/(r.qe=j/\r.one=k)):Conn rs i k
def Conn.trans(x:Conn rs i j)(y:Conn rs j k):Conn rs i k:=by
 induction y with
 |refl=>exact x
 |go r c m e ih=>exact .go r ih m e
def Conn.edge(m:r∈rs):Conn rs r.one r.qe:=.go r (.refl _) m (.inl ⟨rfl,rfl⟩)
def Conn.edge'(m:r∈rs):Conn rs r.qe r.one:=.go r (.refl _) m (.inr ⟨rfl,rfl⟩)
def Conn.symm(x:Conn rs i j):Conn rs j i:=by
 induction x with
 |refl=>exact .refl _
 |go r c m e ih=>
  rcases e with⟨rfl,rfl⟩|⟨rfl,rfl⟩
  .exact(Conn.edge' m).trans ih
  .exact(Conn.edge m).trans ih
def Conn.mono(x:Conn rs i j)(h:∀r∈rs,∃q∈qs,q.one=r.one/\q.qe=r.qe):Conn qs i j:=by
 induction x with
 |refl=>exact .refl _
 |go r c m e ih=>
  obtain⟨q,hq,e1,e2⟩:=h r m;rcases e with⟨rfl,rfl⟩|⟨rfl,rfl⟩
  .exact .go q ih hq (.inl ⟨e1,e2⟩)
  .exact .go q ih hq (.inr ⟨e2,e1⟩)
def Conn.sub(x:Conn rs i j)(h:∀r∈rs,r∈qs):Conn qs i j:=x.mono λr m=>⟨r,h r m,rfl,rfl⟩
def Conn.inM(V0:zaE n rs)(x:Conn rs i j)(h:0<=i/\i<n):0<=j/\j<n:=by
 induction x with
 |refl=>exact h
 |go r c m e ih=>
  obtain⟨m1,m2,m3,m4⟩:=V0 r m;rcases e with⟨rfl,rfl⟩|⟨rfl,rfl⟩
  .exact⟨m3,m4⟩
  .exact⟨m1,m2⟩
def gI(xs:List Int)(i:Int):Int:=xs.getD i.toNat 0
def zgm(n:Nat)(rs:List Run)(lab:List Int):Prop:=∀i j:Int,0<=i->i<n->0<=j->j<n->(gI lab i=gI lab j↔Conn rs i j)
def HtOk(rs:List Run)(hts:List Int):Prop:=∀r∈rs,gI hts r.qe-gI hts r.one=r.rise
def zfX(rs:List Run):Prop:=∀f:Int->Int,¬ ∀r∈rs,f r.qe-f r.one=r.rise
def zhf{rs:List Run}{f g:Int->Int}(hf:∀r∈rs,f r.qe-f r.one=r.rise)(hg:∀r∈rs,g r.qe-g r.one=r.rise){i j:Int}(x:Conn rs i j):f j-f i=g j-g i:=by
 induction x with
 |refl=>omega
 |go r c m e ih=>
  have h1:=hf r m;have h2:=hg r m;rcases e with⟨rfl,rfl⟩|⟨rfl,rfl⟩<;>omega
def zoR{done rest:List Run}{n:Nat}{lab hts:List Int}{r:Run}(V0:0<=r.one/\r.one<n/\0<=r.qe/\r.qe<n)(hl:zgm n done lab)(hh:HtOk done hts)(e:gI lab r.one=gI lab r.qe)(hb:gI hts r.one+r.rise-gI hts r.qe≠0):zfX (done++r::rest):=λf hf=>by
 have c:=(hl r.one r.qe V0.1 V0.2.1 V0.2.2.1 V0.2.2.2).mp e;have h1:=zhf (f:=f) (g:=gI hts) (λq hq=>hf q (YAy _ hq)) hh c;have h2:=hf r (YAp _ YAh);omega
def znS{done:List Run}{n:Nat}{lab hts:List Int}{r:Run}(V0:0<=r.one/\r.one<n/\0<=r.qe/\r.qe<n)(hl:zgm n done lab)(hh:HtOk done hts)(e:gI lab r.one=gI lab r.qe)(hb:gI hts r.one+r.rise-gI hts r.qe=0):zgm n (done++[r]) lab/\HtOk (done++[r]) hts:=by
 have c:=(hl r.one r.qe V0.1 V0.2.1 V0.2.2.1 V0.2.2.2).mp e;refine⟨λi j a b d e'=>⟨λh=>((hl i j a b d e').mp h).sub λq hq=>YAy _ hq,λh=>(hl i j a b d e').mpr ?_⟩,λq hq=>?_⟩
 .clear e' d
  induction h with
  |refl=>exact .refl _
  |go q c' m e2 ih=>
   rcases YAm.mp m with m|m
   .exact .go q ih m e2
   .rw[YAg.mp m]at e2;rcases e2 with⟨rfl,rfl⟩|⟨rfl,rfl⟩
    .exact ih.trans c
    .exact ih.trans c.symm
 .rcases YAm.mp hq with m|m
  .exact hh q m
  .rw[YAg.mp m];omega
def zow{done:List Run}{n:Nat}{lab hts lab' hts':List Int}{r:Run}(VD:zaE n done)(V0:0<=r.one/\r.one<n/\0<=r.qe/\r.qe<n)(hl:zgm n done lab)(hh:HtOk done hts)(ne:gI lab r.one≠gI lab r.qe)
  (h1:∀i:Int,0<=i->i<n->gI lab' i=if gI lab i=gI lab r.qe then gI lab r.one else gI lab i) (h2:∀i:Int,0<=i->i<n->gI hts' i=if gI lab i=gI lab r.qe then gI hts i+(gI hts r.one+r.rise-gI hts r.qe)else gI hts i) :
  zgm n (done++[r]) lab'/\HtOk (done++[r]) hts':=by
 have up:∀{i j},Conn done i j->Conn (done++[r]) i j:=λh=>h.sub λq hq=>YAy _ hq;have er:Conn (done++[r]) r.one r.qe:=Conn.edge (YAp _ YAh);have V1:zaE n (done++[r]):=λq hq=>by
  rcases YAm.mp hq with m|m
  .exact VD q m
  .rw[YAg.mp m];exact V0
 refine⟨λi j a b c d=>⟨λh=>?_,λh=>?_⟩,λq hq=>?_⟩
 .rw[h1 i a b,h1 j c d]at h;by_cases ci:gI lab i=gI lab r.qe
  .by_cases cj:gI lab j=gI lab r.qe
   .exact up ((hl i j a b c d).mp (ci.trans cj.symm))
   .rw[if_pos ci,if_neg cj]at h;exact((up ((hl i r.qe a b V0.2.2.1 V0.2.2.2).mp ci)).trans er.symm).trans (up ((hl r.one j V0.1 V0.2.1 c d).mp h))
  .by_cases cj:gI lab j=gI lab r.qe
   .rw[if_neg ci,if_pos cj]at h;exact((up ((hl i r.one a b V0.1 V0.2.1).mp h)).trans er).trans (up ((hl r.qe j V0.2.2.1 V0.2.2.2 c d).mp cj.symm))
   .rw[if_neg ci,if_neg cj]at h;exact up ((hl i j a b c d).mp h)
 .have key:∀k,Conn (done++[r]) i k->gI lab' i=gI lab' k:=λk hk=>by
   induction hk with
   |refl=>rfl
   |go q c' m e2 ih=>
    rw[ih]
    rename_i j' k'
    have bj:=c'.inM V1 ⟨a,b⟩;have bk:=(Conn.go q c' m e2).inM V1 ⟨a,b⟩;rcases YAm.mp m with m|m
    .have ee:gI lab j'=gI lab k':=(hl j' k' bj.1 bj.2 bk.1 bk.2).mpr (.go q (.refl _) m e2);rw[h1 _ bj.1 bj.2,h1 _ bk.1 bk.2,ee]
    .rw[YAg.mp m]at e2;have eo:gI lab' r.qe=gI lab r.one:=by rw[h1 _ V0.2.2.1 V0.2.2.2,if_pos rfl]
     have eo1:gI lab' r.one=gI lab r.one:=by rw[h1 _ V0.1 V0.2.1,if_neg ne]
     rcases e2 with⟨rfl,rfl⟩|⟨rfl,rfl⟩
     .rw[eo,eo1]
     .rw[eo,eo1]
  exact key j h
 .rcases YAm.mp hq with m|m
  .obtain⟨b1,b2,b3,b4⟩:=VD q m;have ee:gI lab q.one=gI lab q.qe:=(hl _ _ b1 b2 b3 b4).mpr (Conn.edge m)
   have:=hh q m
   rw[h2 _ b1 b2,h2 _ b3 b4,ee];by_cases cc:gI lab q.qe=gI lab r.qe
   .rw[if_pos cc,if_pos cc];omega
   .rw[if_neg cc,if_neg cc];exact this
  .rw[YAg.mp m,h2 _ V0.1 V0.2.1,h2 _ V0.2.2.1 V0.2.2.2,if_neg ne,if_pos rfl];omega
def zi2(n:Nat):zgm n [] ((List.range n).map Int.ofNat)/\HtOk [] (List.replicate n 0):=by
 refine⟨λi j a b c d=>?_,λr h=>by cases h⟩;have e:∀k:Int,0<=k->k<n->gI ((List.range n).map Int.ofNat) k=k:=λk h0 h1=>by
  have hk:k.toNat<n:=by omega
  unfold gI;simp[List.getD,hk];omega
 rw[e i a b,e j c d];refine⟨λh=>h▸.refl _,λh=>?_⟩;cases h with
 |refl=>rfl
 |go r c m e=>cases m
def zcl{α:Type}{xs:List α}{i:Nat}{x:α}(h:xs[i]?=some x):xs.take (i+1)=xs.take i++[x]:=by rw[YDt,h];rfl
def zqO{i:Nat}{v:V}{Y:St}{H:Hp}{A B:St->Hp->Prop}(h:A (Y.set i (some v)) H):zc9 i v Y H (λY2 H3=>zoq Y2 H3 λb H4=>if b=true then A Y2 H4 else B Y2 H4):=by
 show(if (true:Bool)=true then A (List.set Y i (some v)) H else B (List.set Y i (some v)) H);rw[if_pos rfl];exact h
def zgI{xs:List Int}{j:Nat}{v i:Int}(hj:j<xs.length)(h0:0<=i):gI (xs.set j v) i=if i=(j:Int)then v else gI xs i:=by
 unfold gI;by_cases e:i=(j:Int)
 .rw[if_pos e,e,YAD,YAt,YAE hj];rfl
 .rw[if_neg e,YAt,YAB (by omega),<-YAt]
def zq3{zs:List Int}{i:Int}(h0:0<=i)(h1:i<zs.length):atI (zs.map V.int) i=some (.int (gI zs i)):=zel h0 h1
theorem zkd(v:V):∀n:Nat,(List.replicate n [v]).flatten=List.replicate n v
 |0=>rfl
 |n+1=>by rw[YAT,YAT,YBm,zkd v n];rfl
theorem zgU:∀{as bs:List Int},as.Pairwise (·<·)->bs.Pairwise (·<·)->(∀k,k∈as↔k∈bs)->as=bs
 |[],[],_,_,_=>rfl
 |[],b::bs,_,_,h=>absurd ((h b).mpr YAh) (by simp)
 |a::as,[],_,_,h=>absurd ((h a).mp YAh) (by simp)
 |a::as,b::bs,pa,pb,h=>by
  rw[YA7]at pa pb;have hab:a=b:=by
   rcases YAk.mp ((h a).mp YAh)with e|e
   .exact e
   .rcases YAk.mp ((h b).mpr YAh)with e'|e'
    .exact e'.symm
    .have h1:=pb.1 a e;have h2:=pa.1 b e';omega
  subst hab;refine congrArg _ (zgU pa.2 pb.2 λk=>⟨λhk=>?_,λhk=>?_⟩)
  .rcases YAk.mp ((h k).mp (YAj _ hk))with e|e
   .have:=pa.1 k hk;omega
   .exact e
  .rcases YAk.mp ((h k).mpr (YAj _ hk))with e|e
   .have:=pb.1 k hk;omega
   .exact e
structure Tri where
 p:Addr
 n:Int
 e:Int
 d:Int
def triV(t:Tri):V:=.ref t.p
def triT(t:Tri):List V:=[.int t.n,.int t.e,.int t.d]
structure Steps(H:Hp)(ls:Addr)(ad:List Addr)(cs:Nat->List Tri):Prop where
 top:H ls=some (.lst (ad.map V.ref))
 row:∀(m:Nat) a,ad[m]?=some a->H a=some (.lst ((cs m).map triV))
 tri:∀(m:Nat) t,m<ad.length->t∈cs m->H t.p=some (.tup (triT t))
 nod:ad.Nodup
 out:ls∉ad
def Steps.same(x:Steps H ls ad cs)(S:Same H H'):Steps H' ls ad cs:=
 ⟨S _ _ x.top,λm a h=>S _ _ (x.row m a h),λm t h h'=>S _ _ (x.tri m t h h'),x.nod,x.out⟩
def zjQ(rs:List Run)(hs:List Int)(k:Nat)(m:Nat)(t:Tri):Prop:=0<=t.n/\t.n<k/\∃r,rs[t.n.toNat]?=some r/\hs.contains r.hand=false/\((r.one=m/\t.e=r.qe/\t.d=r.rise)\/(r.qe=m/\t.e=r.one/\t.d=-r.rise))
def triC(t:Tri):Int×Int×Int:=(t.n,t.e,t.d)
noncomputable def stepsF(rs:List Run)(hs:List Int):Nat->Nat->List (Int×Int×Int)
 |0,_=>[]
 |k+1,m=>stepsF rs hs k m++(match rs[k]? with
  |none=>[]
  |some r=>if hs.contains r.hand=true then []else(if m=r.one.toNat then [((k:Int),r.qe,r.rise)]else [])++(if m=r.qe.toNat then [((k:Int),r.one,-r.rise)]else []))
structure StepsOk(rs:List Run)(hs:List Int)(k:Nat)(cs:Nat->List Tri):Prop where
 sound:∀m t,t∈cs m->zjQ rs hs k m t
 full:∀(i:Nat) r,i<k->rs[i]?=some r->hs.contains r.hand=false->(∃t∈cs r.one.toNat,t.e=r.qe)/\∃t∈cs r.qe.toNat,t.e=r.one
 few:∀m,(cs m).length<=2*k
 cont:∀m,(cs m).map triC=stepsF rs hs k m
def addC(cs:Nat->List Tri)(m:Nat)(t:Tri):Nat->List Tri:=λk=>if k=m then cs m++[t]else cs k
def mem_addC:u∈addC cs m t k↔u∈cs k\/(k=m/\u=t):=by
 unfold addC;by_cases e:k=m
 .subst e;rw[if_pos rfl,YAm,YAg];simp
 .rw[if_neg e];simp[e]
def zkF{ad:List Addr}(h:ad.Nodup){i j:Nat}{x:Addr}(h1:ad[i]?=some x)(h2:ad[j]?=some x):i=j:=by
 obtain⟨a1,e1⟩:=YAi.mp h1;obtain⟨a2,e2⟩:=YAi.mp h2;rcases Nat.lt_trichotomy i j with q|q|q
 .exact absurd (e1.trans e2.symm) (YA1.mp h i j a1 a2 q)
 .exact q
 .exact absurd (e2.trans e1.symm) (YA1.mp h j i a2 a1 q)
def Steps.push{H:Hp}{ls:Addr}{ad:List Addr}{cs:Nat->List Tri}(x:Steps H ls ad cs){m:Nat}{a:Addr}(hm:ad[m]?=some a){t:Addr}(ht:H t=none){n e d:Int} :
  Steps (upd (upd H t (.tup [.int n,.int e,.int d])) a (.lst ((cs m).map triV++[.ref t]))) ls ad (addC cs m ⟨t,n,e,d⟩):=by
 have ha:=x.row m a hm;have nat:a≠t:=zae ha ht;have hmem:a∈ad:=YAz hm;have nls:ls≠a:=λz=>x.out (z▸hmem);refine⟨?_,λk b hb=>?_,λk u hk hu=>?_,x.nod,x.out⟩
 .rw[zaf nls,zaf (zae x.top ht)];exact x.top
 .by_cases ek:k=m
  .subst ek;rw[hm]at hb;cases hb;rw[zac];unfold addC;rw[if_pos rfl,YAx];rfl
  .have nb:b≠a:=λz=>ek (zkF x.nod hb (by rw[z];exact hm));rw[zaf nb,zaf (zae (x.row k b hb) ht)];unfold addC;rw[if_neg ek];exact x.row k b hb
 .rcases mem_addC.mp hu with q|⟨rfl,rfl⟩
  .have hq:=x.tri k u hk q;have n1:u.p≠a:=λz=>by rw[z,ha]at hq;cases hq
   rw[zaf n1,zaf (zae hq ht)];exact hq
  .show upd _ a _ t=_;rw[zaf nat.symm,zac];rfl
def StepsOk.up(x:StepsOk rs hs k cs)(hr:rs[k]?=some r)(h:hs.contains r.hand=true):StepsOk rs hs (k+1) cs:=
 ⟨λm t ht=>let⟨a,b,c⟩:=x.sound m t ht;⟨a,by omega,c⟩,λi q hi hq hc=>by
  by_cases e:i=k
  .subst e;rw[hr]at hq;cases hq;rw[h]at hc;cases hc
  .exact x.full i q (by omega) hq hc,λm=>by have:=x.few m;omega,λm=>by
  show _=stepsF rs hs k m++_;rw[x.cont m,hr];simp only[h,YCO,YAN]⟩
def StepsOk.add(x:StepsOk rs hs k cs)(hr:rs[k]?=some r)(h:hs.contains r.hand=false)(h1:0<=r.one)(h2:0<=r.qe) :
  StepsOk rs hs (k+1) (addC (addC cs r.one.toNat ⟨t,k,r.qe,r.rise⟩) r.qe.toNat ⟨u,k,r.one,-r.rise⟩):=by
 refine⟨λm q hq=>?_,λi q hi hq hc=>?_,λm=>?_,λm=>?_⟩
 .rcases mem_addC.mp hq with hq|⟨rfl,rfl⟩
  .rcases mem_addC.mp hq with hq|⟨rfl,rfl⟩
   .obtain⟨a,b,c⟩:=x.sound m q hq;exact⟨a,by omega,c⟩
   .exact⟨by show(0:Int)<=(k:Int);omega,by show(k:Int)<((k+1:Nat):Int);omega,r,by show rs[((k:Int)).toNat]?=_;rw[YAD];exact hr,h,.inl ⟨by omega,rfl,rfl⟩⟩
  .exact⟨by show(0:Int)<=(k:Int);omega,by show(k:Int)<((k+1:Nat):Int);omega,r,by show rs[((k:Int)).toNat]?=_;rw[YAD];exact hr,h,.inr ⟨by omega,rfl,rfl⟩⟩
 .by_cases e:i=k
  .subst e;rw[hr]at hq;cases hq;exact⟨⟨_,mem_addC.mpr (.inl (mem_addC.mpr (.inr ⟨rfl,rfl⟩))),rfl⟩,⟨_,mem_addC.mpr (.inr ⟨rfl,rfl⟩),rfl⟩⟩
  .obtain⟨⟨a,a1,a2⟩,b,b1,b2⟩:=x.full i q (by omega) hq hc;exact⟨⟨a,mem_addC.mpr (.inl (mem_addC.mpr (.inl a1))),a2⟩,⟨b,mem_addC.mpr (.inl (mem_addC.mpr (.inl b1))),b2⟩⟩
 .have:=x.few m
  unfold addC;split
  .rename_i e1
   rw[YAo];split
   .rename_i e2;subst e1;rw[<-e2]at *;rw[YAo];simp;omega
   .subst e1;simp;omega
  .split
   .rename_i e2;subst e2;rw[YAo];simp;omega
   .omega
 .show _=stepsF rs hs k m++_;rw[hr];simp only[h,YAX,YBX];unfold addC;by_cases c2:m=r.qe.toNat
  .subst c2;rw[if_pos rfl,if_pos rfl];by_cases c1:r.qe.toNat=r.one.toNat
   .rw[if_pos c1,if_pos c1,YAx,YAx,<-c1,x.cont,YAJ];rfl
   .rw[if_neg c1,if_neg c1,YAx,x.cont];rfl
  .rw[if_neg c2,if_neg c2,YAN];by_cases c1:m=r.one.toNat
   .subst c1;rw[if_pos rfl,if_pos rfl,YAx,x.cont];rfl
   .rw[if_neg c1,if_neg c1,x.cont,YAN]
noncomputable def zhG(K:qq):Sp:=λvs H Q _=>∃(n:Nat)(a s:Addr)(rs:List Run)(hs:List Int),vs=[.int n,.ref a,.ref s]/\SqL K H a (rs.map runV)/\Runs K H rs/\zaE n rs/\SqL K H s (hs.map V.int)/\n<=1000/\rs.length<=1000 /\
 ∀(ls:Addr)(ad:List Addr)(cs:Nat->List Tri) H',Same H H'->ad.length=n->Steps H' ls ad cs->StepsOk rs hs rs.length cs->(∀x∈ad,H x=none)->H ls=none->Q (.ref ls) H'
abbrev Nst:List Str:=["size","runs","struck","steps","number","one","other","rise","hand"]
def zqm:(["mark"]:List Str).Nodup:=by decide +kernel
structure Nd where
 m:Int
 t:Addr
 h:Int
 lt:Addr
 line:List Int
def ndK(x:Nd):Key×V:=(Sum.inl x.m,.ref x.t)
def zax(ns:List Nd):List Int:=ns.map Nd.m
structure TreeOk(rs:List Run)(hs:List Int)(start:Int)(n:Nat)(ns:List Nd):Prop where
 nod:(zax ns).Nodup
 inm:∀x∈ns,0<=x.m/\x.m<n
 walk:∀x∈ns,walkF rs start 0 x.line=some (x.m,x.h)
 runs:∀x∈ns,∀z∈x.line,0<=z/\z<(rs.length:Int)/\hs.contains (runAt rs z).hand=false/\(runAt rs z).one∈zax ns/\(runAt rs z).qe∈zax ns
 uniq:∀x∈ns,∀y∈ns,∀(i j:Nat) z,x.line[i]?=some z->y.line[j]?=some z->x.line.take (i+1)=y.line.take (j+1)
 start:start∈zax ns
 few:∀x∈ns,x.line.length<ns.length
 keep:∀x∈ns,∀z∈x.line,∃u∈ns,∃v∈ns,u.m=(runAt rs z).one/\v.m=(runAt rs z).qe/\v.h-u.h=(runAt rs z).rise
theorem zgK:∀{qj h:Int}{line:List Int}{e t z:Int},walkF rs qj h line=some (e,t)->walkF rs qj h (line++[z])=walkF rs e t [z]
 |qj,h,[],e,t,z,q=>by
  have:(qj,h)=(e,t):=Option.some.inj q
  injection this with a b
  subst a b;rfl
 |qj,h,n::rest,e,t,z,q=>by
  rw[YCP];show(if 0<=n/\n<(rs.length:Int)then _ else _)=_;have q':(if 0<=n/\n<(rs.length:Int)then(match zbn (runAt rs n) qj with|some (e,d)=>walkF rs e (h+d) rest|none=>none)else none)=some (e,t):=q;by_cases c:0<=n/\n<(rs.length:Int)
  .rw[if_pos c]at q' ⊢;cases hs:zbn (runAt rs n) qj with
   |none=>rw[hs]at q';cases q'
   |some ed=>rw[hs]at q';exact zgK q'
  .rw[if_neg c]at q';cases q'
def mem_keys:k∈zax ns↔∃x∈ns,x.m=k:=by unfold zax;exact YAF
def zci(ns:List Nd)(x:Nd):zax (ns++[x])=zax ns++[x.m]:=by unfold zax;rw[YAx];rfl
def TreeOk.add{rs:List Run}{hs:List Int}{start:Int}{n:Nat}{ns:List Nd}(X:TreeOk rs hs start n ns)(VM:zaE n rs){p:Nd}(hp:p∈ns){t:Tri}(hg:zjQ rs hs rs.length p.m.toNat t)(hn:t.e∉zax ns){tt lt:Addr} :
  TreeOk rs hs start n (ns++[⟨t.e,tt,p.h+t.d,lt,p.line++[t.n]⟩]):=by
 obtain⟨g0,g1,r,hr,hc,hg⟩:=hg;have pm:=X.inm p hp;have era:runAt rs t.n=r:=by
  have:=(zeD g0 g1).1
  rw[hr]at this;exact(Option.some.inj this).symm
 have hmr:r∈rs:=YAz hr;have Vr:=VM r hmr;have epm:((p.m.toNat:Nat):Int)=p.m:=by omega
 rw[epm]at hg;have pk:p.m∈zax ns:=mem_keys.mpr ⟨p,hp,rfl⟩;have hstep:zbn (runAt rs t.n) p.m=some (t.e,t.d):=by
  rw[era];unfold zbn;rcases hg with⟨a,b,c⟩|⟨a,b,c⟩
  .rw[if_pos a.symm,b,c]
  .by_cases q:p.m=r.one
   .exact absurd (by rw[b,<-q];exact pk) hn
   .rw[if_neg q,if_pos a.symm,b,c]
 have ends:(r.one∈zax ns++[t.e])/\r.qe∈zax ns++[t.e]:=by
  rcases hg with⟨a,b,c⟩|⟨a,b,c⟩
  .exact⟨YAy _ (a▸pk),YAp _ (by rw[b];exact YAh)⟩
  .exact⟨YAp _ (by rw[b];exact YAh),YAy _ (a▸pk)⟩
 have hfresh:∀x∈ns,∀(i:Nat),x.line[i]?≠some t.n:=λx hx i hz=>by
  obtain⟨_,_,_,k1,k2⟩:=X.runs x hx t.n (YAz hz);rw[era]at k1 k2;rcases hg with⟨a,b,c⟩|⟨a,b,c⟩
  .exact hn (b▸k2)
  .exact hn (b▸k1)
 have few:=X.few p hp;refine⟨?_,λx hx=>?_,λx hx=>?_,λx hx z hz=>?_,λx hx y hy i j z hi hj=>?_,?_,λx hx=>?_,λx hx z hz=>?_⟩
 .rw[zci];exact zhl X.nod hn
 .rcases YAm.mp hx with q|q
  .exact X.inm x q
  .rw[YAg.mp q];rcases hg with⟨a,b,c⟩|⟨a,b,c⟩
   .show 0<=t.e/\t.e<n;rw[b];exact Vr.2.2
   .show 0<=t.e/\t.e<n;rw[b];exact⟨Vr.1,Vr.2.1⟩
 .rcases YAm.mp hx with q|q
  .exact X.walk x q
  .rw[YAg.mp q];show walkF rs start 0 (p.line++[t.n])=some (t.e,p.h+t.d);rw[zgK (X.walk p hp),zeo g0 g1 hstep];rfl
 .rw[zci];have old:∀x∈ns,∀z∈x.line,0<=z/\z<(rs.length:Int)/\hs.contains (runAt rs z).hand=false/\(runAt rs z).one∈zax ns++[t.e]/\(runAt rs z).qe∈zax ns++[t.e]:=λx q z hz=>by
   obtain⟨a,b,c,d,e⟩:=X.runs x q z hz;exact⟨a,b,c,YAy _ d,YAy _ e⟩
  rcases YAm.mp hx with q|q
  .exact old x q z hz
  .rw[YAg.mp q]at hz;rcases YAm.mp hz with hz|hz
   .exact old p hp z hz
   .rw[YAg.mp hz,era];exact⟨g0,g1,hc,ends.1,ends.2⟩
 .have look:∀(i:Nat) z,(p.line++[t.n])[i]?=some z->(i<p.line.length/\p.line[i]?=some z/\(p.line++[t.n]).take (i+1)=p.line.take (i+1))\/(i=p.line.length/\z=t.n):=λi z hz=>by
   by_cases c:i<p.line.length
   .rw[YBD c]at hz;exact .inl ⟨c,hz,by rw[List.take_append_of_le_length (by omega)]⟩
   .have hi:=(YAi.mp hz).1;rw[YAo]at hi;have hi':i<p.line.length+1:=hi;have ei:i=p.line.length:=by omega
    subst ei;rw[YBR (YAn _),Nat.sub_self]at hz;exact .inr ⟨rfl,(Option.some.inj hz).symm⟩
  rcases YAm.mp hx with qx|qx<;>rcases YAm.mp hy with qy|qy
  .exact X.uniq x qx y qy i j z hi hj
  .rw[YAg.mp qy]at hj ⊢;rcases look j z hj with⟨c,h1,h2⟩|⟨c,h1⟩
   .show _=(p.line++[t.n]).take (j+1);rw[h2];exact X.uniq x qx p hp i j z hi h1
   .exact absurd (h1▸hi) (hfresh x qx i)
  .rw[YAg.mp qx]at hi ⊢;rcases look i z hi with⟨c,h1,h2⟩|⟨c,h1⟩
   .show(p.line++[t.n]).take (i+1)=_;rw[h2];exact X.uniq p hp y qy i j z h1 hj
   .exact absurd (h1▸hj) (hfresh y qy j)
  .rw[YAg.mp qx]at hi ⊢;rw[YAg.mp qy]at hj ⊢;show(p.line++[t.n]).take (i+1)=(p.line++[t.n]).take (j+1);rcases look i z hi with⟨c,h1,h2⟩|⟨c,h1⟩<;>rcases look j z hj with⟨c',h1',h2'⟩|⟨c',h1'⟩
   .rw[h2,h2'];exact X.uniq p hp p hp i j z h1 h1'
   .exact absurd (h1'▸h1) (hfresh p hp i)
   .exact absurd (h1▸h1') (hfresh p hp j)
   .rw[c,c']
 .rw[zci];exact YAy _ X.start
 .rw[YAo];show x.line.length<ns.length+1;rcases YAm.mp hx with q|q
  .have:=X.few x q;omega
  .rw[YAg.mp q];show(p.line++[t.n]).length<_;rw[YAo];show p.line.length+1<_;omega
 .have old:∀x∈ns,∀z∈x.line,∃u∈ns++[⟨t.e,tt,p.h+t.d,lt,p.line++[t.n]⟩],∃v∈ns++[⟨t.e,tt,p.h+t.d,lt,p.line++[t.n]⟩],u.m=(runAt rs z).one/\v.m=(runAt rs z).qe/\v.h-u.h=(runAt rs z).rise:=λx q z hz=>by
   obtain⟨u,hu,v,hv,e⟩:=X.keep x q z hz;exact⟨u,YAy _ hu,v,YAy _ hv,e⟩
  rcases YAm.mp hx with q|q
  .exact old x q z hz
  .rw[YAg.mp q]at hz;rcases YAm.mp hz with hz|hz
   .exact old p hp z hz
   .rw[YAg.mp hz,era];rcases hg with⟨a,b,c⟩|⟨a,b,c⟩
    .exact⟨p,YAy _ hp,_,YAp _ YAh,a.symm,b,by show p.h+t.d-p.h=r.rise;omega⟩
    .exact⟨_,YAp _ YAh,p,YAy _ hp,b,a.symm,by show p.h-(p.h+t.d)=r.rise;omega⟩
def TreeOk.len{rs:List Run}{hs:List Int}{start:Int}{n:Nat}{ns:List Nd}(X:TreeOk rs hs start n ns):ns.length<=n:=by
 have h:=zaB (xs:=(List.range n).map Int.ofNat) X.nod λk hk=>by
  obtain⟨x,hx,rfl⟩:=mem_keys.mp hk
  have:=X.inm x hx
  refine YAF.mpr ⟨x.m.toNat,YBc.mpr (by omega),?_⟩;show((x.m.toNat:Nat):Int)=x.m;omega
 unfold zax at h
 simpa using h
def Closed(cs:Nat->List Tri)(ns:List Nd)(m:Int):Prop:=∀t∈cs m.toNat,t.e∈zax ns
def Closed.snoc(h:Closed cs ns m):Closed cs (ns++[x]) m:=λt ht=>by rw[zci];exact YAy _ (h t ht)
def usable(hs:List Int)(rs:List Run):List Run:=rs.filter λr=>!hs.contains r.hand
def zmW{rs:List Run}{hs:List Int}{start:Int}{n:Nat}{ns:List Nd}{cs:Nat->List Tri}(VM:zaE n rs)(X:TreeOk rs hs start n ns)(So:StepsOk rs hs rs.length cs)(hc:∀x∈ns,Closed cs ns x.m){j:Int}(c:Conn (usable hs rs) start j):j∈zax ns:=by
 induction c with
 |refl=>exact X.start
 |go r c m e ih=>
  obtain⟨x,hx,ex⟩:=mem_keys.mp ih;obtain⟨mr,mc⟩:=YA6.mp m;have mc':hs.contains r.hand=false:=by simpa using mc
  obtain⟨i,hi⟩:=YBK mr;obtain⟨⟨t1,a1,a2⟩,t2,b1,b2⟩:=So.full i r (YAi.mp hi).1 hi mc';have cl:=hc x hx;rcases e with⟨rfl,rfl⟩|⟨rfl,rfl⟩
  .rw[<-a2];exact cl t1 (by rw[ex];exact a1)
  .rw[<-b2];exact cl t2 (by rw[ex];exact b1)
theorem zgX :∀{qj h:Int}{line:List Int}{e t:Int},walkF rs qj h line=some (e,t)->(∀z∈line,hs.contains (runAt rs z).hand=false)->Conn (usable hs rs) qj e
 |qj,h,[],e,t,q,_=>by
  have:(qj,h)=(e,t):=Option.some.inj q
  injection this with a b
  subst a;exact .refl _
 |qj,h,n::rest,e,t,q,hu=>by
  have hin:=zht q n YAh;have q':(if 0<=n/\n<(rs.length:Int)then(match zbn (runAt rs n) qj with|some (e,d)=>walkF rs e (h+d) rest|none=>none)else none)=some (e,t):=q;rw[if_pos hin]at q';have mr:=(zeD hin.1 hin.2).2.2;have mu:runAt rs n∈usable hs rs:=YA6.mpr ⟨mr,by rw[hu n YAh];rfl⟩;cases hs':zbn (runAt rs n) qj with
  |none=>rw[hs']at q';cases q'
  |some ed=>
   rw[hs']at q';have ih:=zgX q' λz hz=>hu z (YAj _ hz);refine Conn.trans ?_ ih;unfold zbn at hs';by_cases c1:qj=(runAt rs n).one
   .rw[if_pos c1]at hs';cases hs';exact .go _ (.refl _) mu (.inl ⟨c1.symm,rfl⟩)
   .rw[if_neg c1]at hs';by_cases c2:qj=(runAt rs n).qe
    .rw[if_pos c2]at hs';cases hs';exact .go _ (.refl _) mu (.inr ⟨c2.symm,rfl⟩)
    .rw[if_neg c2]at hs';cases hs'
def zmI{rs:List Run}{hs:List Int}{start:Int}{n:Nat}{ns:List Nd}{cs:Nat->List Tri}(VM:zaE n rs)(X:TreeOk rs hs start n ns)(So:StepsOk rs hs rs.length cs)(hc:∀x∈ns,Closed cs ns x.m)(j:Int):j∈zax ns↔Conn (usable hs rs) start j:=by
 refine⟨λh=>?_,zmW VM X So hc⟩;obtain⟨x,hx,rfl⟩:=mem_keys.mp h;exact zgX (X.walk x hx) λz hz=>(X.runs x hx z hz).2.2.1
structure TreeH(K:qq)(H:Hp)(dt:Addr)(ns:List Nd):Prop where
 dict:H dt=some (.dK (ns.map ndK))
 node:∀x∈ns,H x.t=some (.tup [.int x.h,.ref x.lt])/\SqT K H x.lt (x.line.map V.int)
def TreeH.same(X:TreeH K H dt ns)(S:Same H H'):TreeH K H' dt ns:=
 ⟨S _ _ X.dict,λx hx=>⟨S _ _ (X.node x hx).1,zcu (tp:=true) S (X.node x hx).2⟩⟩
def zol:HO->Prop
 |.tup _=>False
 |.frz _ _=>False
 |_=>True
def zeF(h:SqT K H a xs)(hd:H d=some o)(hn:zol o):SqT K (upd H d o') a xs:=by
 rcases h with(h|⟨ob,h⟩)|h
 .have:a≠d:=λz=>by rw[z,hd]at h;cases h;exact hn
  exact .inl (.inl (by rw[zaf this];exact h))
 .have:a≠d:=λz=>by rw[z,hd]at h;cases h;exact hn
  exact .inl (.inr ⟨ob,by rw[zaf this];exact h⟩)
 .exact .inr h
def zeV(h:H a=some (.tup xs))(hd:H d=some o)(hn:zol o):upd H d o' a=some (.tup xs):=by
 have:a≠d:=λz=>by rw[z,hd]at h;cases h;exact hn
 rw[zaf this];exact h
theorem TreeH.upd(X:TreeH K H dt ns)(hd:H d=some o)(hn:zol o)(ne:dt≠d):TreeH K (L2.upd H d o') dt ns:=
 ⟨by rw[zaf ne];exact X.dict,λx hx=>⟨zeV (X.node x hx).1 hd hn,zeF (X.node x hx).2 hd hn⟩⟩
def valV_none:valV (ns.map ndK) (Sum.inl k)=none↔k∉zax ns:=by
 constructor
 .intro h hk;obtain⟨x,hx,rfl⟩:=mem_keys.mp hk;exact zoI h (YAF.mpr ⟨ndK x,YAG hx,rfl⟩)
 .intro h;cases e:valV (ns.map ndK) (Sum.inl k)with
  |none=>rfl
  |some v=>
   obtain⟨y,hy,ey⟩:=YAF.mp (znA e);obtain⟨x,hx,rfl⟩:=YAF.mp hy;exact absurd (mem_keys.mpr ⟨x,hx,Sum.inl.inj ey⟩) h
def zfR(hn:(zax ns).Nodup)(hx:x∈ns):valV (ns.map ndK) (Sum.inl x.m)=some (.ref x.t):=by
 induction ns with
 |nil=>cases hx
 |cons y ns ih=>
  unfold zax at hn;rw[YAb,YBh]at hn;rw[YAb];rcases YAk.mp hx with rfl|q
  .exact zfn (p:=ndK x) rfl
  .have:¬ (ndK y).1=Sum.inl x.m:=λz=>hn.1 (by rw[show y.m=x.m from Sum.inl.inj z];exact YAG q)
   rw[zfl this];exact ih hn.2 q
structure TI(K:qq)(H0:Hp)(rs:List Run)(hs:List Int)(start:Int)(n:Nat)(dt ln lf:Addr)(nw:List Int)(c0:Nat)(H:Hp)(ns:List Nd)(fr:List Int):Prop where
 same:Same H0 H
 th:TreeH K H dt ns
 tok:TreeOk rs hs start n ns
 hln:H ln=some (.lst (nw.map V.int))
 hlf:H lf=some (.lst (fr.map V.int))
 frk:∀z∈fr,z∈zax ns
 nwk:∀z∈nw,z∈zax ns
 cnt:ns.length=c0+fr.length
def TI.grow{K:qq}{H0:Hp}{rs:List Run}{hs:List Int}{start:Int}{n:Nat}{dt ln lf:Addr}{nw:List Int}{c0:Nat}{H H':Hp}{ns:List Nd}{fr:List Int}(X:TI K H0 rs hs start n dt ln lf nw c0 H ns fr)(S:Same H H'):TI K H0 rs hs start n dt ln lf nw c0 H' ns fr:=
 ⟨X.same.trans S,X.th.same S,X.tok,S _ _ X.hln,S _ _ X.hlf,X.frk,X.nwk,X.cnt⟩
theorem TI.add{K:qq}{H0:Hp}{rs:List Run}{hs:List Int}{start:Int}{n:Nat}{dt ln lf:Addr}{nw:List Int}{c0:Nat}{H:Hp}{ns:List Nd}{fr:List Int}(X:TI K H0 rs hs start n dt ln lf nw c0 H ns fr)(VM:zaE n rs)(fd:H0 dt=none)(fl:H0 lf=none)(nll:ln≠lf)
  {p:Nd} (hp:p∈ns) {t:Tri} (hg:zjQ rs hs rs.length p.m.toNat t) (hn:t.e∉zax ns) {tt lt:Addr} (htt:H tt=some (.tup [.int (p.h+t.d),.ref lt])) (hlt:SqT K H lt ((p.line++[t.n]).map V.int)) :
  TI K H0 rs hs start n dt ln lf nw c0 (upd (upd H dt (.dK (putK (ns.map ndK) (Sum.inl t.e) (.ref tt)))) lf (.lst (fr.map V.int++[.int t.e]))) (ns++[⟨t.e,tt,p.h+t.d,lt,p.line++[t.n]⟩]) (fr++[t.e]):=by
 have ndl:dt≠lf:=λz=>by have:=X.th.dict;rw[z,X.hlf]at this;cases this
 have nln:ln≠dt:=λz=>by have:=X.hln;rw[z,X.th.dict]at this;cases this
 have ep:putK (ns.map ndK) (Sum.inl t.e) (.ref tt)=(ns++[(⟨t.e,tt,p.h+t.d,lt,p.line++[t.n]⟩:Nd)]).map ndK:=by
  rw[zkz _ (valV_none.mpr hn),YAx];rfl
 have hlf1:upd H dt (.dK (putK (ns.map ndK) (Sum.inl t.e) (.ref tt))) lf=some (.lst (fr.map V.int)):=by rw[zaf ndl.symm];exact X.hlf
 refine⟨λc o e=>?_,⟨?_,λx hx=>?_⟩,X.tok.add VM hp hg hn,?_,?_,λz hz=>?_,λz hz=>?_,?_⟩
 .rw[zaf (zae e fl),zaf (zae e fd)];exact X.same c o e
 .rw[zaf ndl,zac,ep]
 .have hh:H x.t=some (.tup [.int x.h,.ref x.lt])/\SqT K H x.lt (x.line.map V.int):=by
   rcases YAm.mp hx with q|q
   .exact X.th.node x q
   .rw[YAg.mp q];exact⟨htt,hlt⟩
  exact⟨zeV (zeV hh.1 X.th.dict trivial) hlf1 trivial,zeF (zeF hh.2 X.th.dict trivial) hlf1 trivial⟩
 .rw[zaf nll,zaf nln];exact X.hln
 .rw[zac,YAx];rfl
 .rw[zci];rcases YAm.mp hz with q|q
  .exact YAy _ (X.frk z q)
  .exact YAp _ (by rw[YAg.mp q];exact YAh)
 .rw[zci];exact YAy _ (X.nwk z hz)
 .rw[YAo,YAo,X.cnt];show _+1=_+(_+1);omega
abbrev PN:=Int×Int×List Int
def zbb(x:Nd):PN:=(x.m,x.h,x.line)
def zbU(tr:List PN)(m:Int):PN:=(tr.find? λp=>decide (p.1=m)).getD (0,0,[])
def ex1(p:PN)(st:List PN×List Int)(t:Int×Int×Int):List PN×List Int:=if t.2.1∈st.1.map (·.1)then st else(st.1++[(t.2.1,p.2.1+t.2.2,p.2.2++[t.1])],st.2++[t.2.1])
def exM(S:Nat->List (Int×Int×Int))(st:List PN×List Int)(m:Int):List PN×List Int:=(S m.toNat).foldl (ex1 (zbU st.1 m)) st
def exL(S:Nat->List (Int×Int×Int))(tr:List PN)(nw:List Int):List PN×List Int:=nw.foldl (exM S) (tr,[])
def itT(S:Nat->List (Int×Int×Int))(start:Int):Nat->List PN×List Int
 |0=>([(start,0,[])],[start])
 |k+1=>exL S (itT S start k).1 (itT S start k).2
def TreeIs(S:Nat->List (Int×Int×Int))(start:Int)(tr:List PN):Prop:=∃k,itT S start k=(tr,[])
theorem zhA{S:Nat->List (Int×Int×Int)}{start:Int}{k:Nat}{tr:List PN}(h:itT S start k=(tr,[])):∀j,itT S start (k+j)=(tr,[])
 |0=>h
 |j+1=>by
  show exL S (itT S start (k+j)).1 (itT S start (k+j)).2=_;rw[zhA h j];rfl
def TreeIs.uniq{S:Nat->List (Int×Int×Int)}{start:Int}{a b:List PN}(x:TreeIs S start a)(y:TreeIs S start b):a=b:=by
 obtain⟨i,hi⟩:=x;obtain⟨j,hj⟩:=y;have h1:=zhA hi j;have h2:=zhA hj i;rw[Nat.add_comm]at h2;rw[h1]at h2;exact(Prod.mk.inj h2).1
def zeU{α β:Type}(f:β->α->β)(s:β){xs:List α}{j:Nat}{x:α}(h:xs[j]?=some x):(xs.take (j+1)).foldl f s=f ((xs.take j).foldl f s) x:=by
 rw[zcl h,List.foldl_append];rfl
def zcn(hn:(zax ns).Nodup)(hx:x∈ns):zbU (ns.map zbb) x.m=zbb x:=by
 unfold zbU
 induction ns with
 |nil=>cases hx
 |cons y ns ih=>
  unfold zax at hn;rw[YAb,YBh]at hn;rw[YAb,YBu];rcases YAk.mp hx with rfl|q
  .simp[zbb]
  .have:¬ (zbb y).1=x.m:=λz=>hn.1 (by rw[show y.m=x.m from z];exact YAG q)
   rw[show decide ((zbb y).1=x.m)=false from YAC this];exact ih hn.2 q
def zib(ns:List Nd):(ns.map zbb).map (·.1)=zax ns:=by unfold zax;rw[YAM];rfl
noncomputable def zkA(K:qq):Sp:=λvs H Q _=>∃(start:Int)(ls:Addr)(n:Nat)(ad:List Addr)(cs:Nat->List Tri)(rs:List Run)(hs:List Int),vs=[.int start,.ref ls]/\0<=start/\start<n/\Steps H ls ad cs/\ad.length=n/\StepsOk rs hs rs.length cs/\zaE n rs/\n<=1000/\rs.length<=1000 /\
 ∀(dt:Addr)(ns:List Nd) H',Same H H'->H dt=none->TreeH K H' dt ns->TreeOk rs hs start n ns->(∀j,j∈zax ns↔Conn (usable hs rs) start j)->TreeIs (stepsF rs hs rs.length) start (ns.map zbb)->Q (.ref dt) H'
abbrev Ntr:List Str:=["start","steps","tree","newest","fresh","mark","height","line","number","end","rise"]
noncomputable def SL(K:qq)(H:Hp)(n:Nat)(rs:List Run)(hs:List Int)(one qe:Int)(v:V):Prop:=
 ∃ns:List Nd,TreeOk rs hs one n ns/\TreeIs (stepsF rs hs rs.length) one (ns.map zbb)/\(∀j,j∈zax ns↔Conn (usable hs rs) one j)/\((v=.non/\qe∉zax ns)\/∃x∈ns,x.m=qe/\v=.ref x.lt/\SqT K H x.lt (x.line.map V.int))
def zfJ(hn:(zax ns).Nodup)(hx:x∈ns)(e:x.m=k):zbb x=zbU (ns.map zbb) k:=by rw[<-e,zcn hn hx]
theorem zku(S:Nat->List (Int×Int×Int))(start:Int):∀k,∃rest,(itT S start k).1=(start,0,[])::rest
 |0=>⟨[],rfl⟩
 |k+1=>by
  have one:∀(p:PN)(ts:List (Int×Int×Int))(st:List PN×List Int),(∃rest,st.1=(start,0,[])::rest)->∃rest,(ts.foldl (ex1 p) st).1=(start,0,[])::rest:=λp ts=>by
   induction ts with
   |nil=>intro st h;exact h
   |cons t ts ih=>
    intro st h;rw[YDF];refine ih _ ?_;unfold ex1;split
    .exact h
    .obtain⟨rest,e⟩:=h;exact⟨rest++_,by show st.1++_=_;rw[e];rfl⟩
  have two:∀(nw:List Int)(st:List PN×List Int),(∃rest,st.1=(start,0,[])::rest)->∃rest,(nw.foldl (exM S) st).1=(start,0,[])::rest:=λnw=>by
   induction nw with
   |nil=>intro st h;exact h
   |cons m nw ih=>
    intro st h;rw[YDF];exact ih _ (one _ _ _ h)
  exact two _ _ (zku S start k)
def TreeOk.lineNodup{rs:List Run}{hs:List Int}{start:Int}{n:Nat}{ns:List Nd}(X:TreeOk rs hs start n ns){x:Nd}(hx:x∈ns):x.line.Nodup:=by
 refine YA1.mpr λi j hi hj hij e=>?_;have h:=X.uniq x hx x hx i j x.line[i] (YAe hi) (by rw[e];exact YAe hj)
 have:=congrArg List.length h
 rw[YBz,YBz]at this;omega
noncomputable def zlH(K:qq):Sp:=λvs H Q _=>∃(n:Nat)(a s:Addr)(rs:List Run)(hs:List Int)(one qe:Int),vs=[.int n,.ref a,.ref s,.int one,.int qe]/\SqL K H a (rs.map runV)/\Runs K H rs/\zaE n rs/\SqL K H s (hs.map V.int)/\0<=one/\one<n/\n<=1000/\rs.length<=1000 /\
 ∀v H',Same H H'->SL K H' n rs hs one qe v->Q v H'
structure TR where
 d:Addr
 st:Int
 ns:List Nd
def trV(t:TR):V:=.ref t.d
structure TreeAt(K:qq)(H:Hp)(n:Nat)(rs:List Run)(hs:List Int)(t:TR):Prop where
 th:TreeH K H t.d t.ns
 tok:TreeOk rs hs t.st n t.ns
 keys:∀j,j∈zax t.ns↔Conn (usable hs rs) t.st j
 is:TreeIs (stepsF rs hs rs.length) t.st (t.ns.map zbb)
 b0:0<=t.st
 b1:t.st<n
def Firsts(k:Nat)(rs:List Run)(sts:List Int):Prop:=sts.Pairwise (·<·)/\∀m,m∈sts↔(0<=m/\m<k/\∀j,0<=j->j<m->¬ Conn rs j m)
def Firsts.uniq(x:Firsts k rs a)(y:Firsts k rs b):a=b:=zgU x.1 y.1 λm=>(x.2 m).trans (y.2 m).symm
theorem TreeAt.same(x:TreeAt K H n rs hs t)(S:Same H H'):TreeAt K H' n rs hs t:=⟨x.th.same S,x.tok,x.keys,x.is,x.b0,x.b1⟩
theorem TreeAt.upd(x:TreeAt K H n rs hs t)(hd:H d=some o)(hn:zol o)(ne:t.d≠d):TreeAt K (L2.upd H d o') n rs hs t:=⟨x.th.upd hd hn ne,x.tok,x.keys,x.is,x.b0,x.b1⟩
def Firsts.no(x:Firsts k rs sts)(h:∃m:Int,0<=m/\m<k/\Conn rs m k):Firsts (k+1) rs sts:=by
 refine⟨x.1,λm=>(x.2 m).trans ⟨λ⟨a,b,c⟩=>⟨a,by omega,c⟩,λ⟨a,b,c⟩=>⟨a,?_,c⟩⟩⟩;by_cases e:m=k
 .subst e;obtain⟨q,q0,q1,qc⟩:=h;exact absurd qc (c q q0 q1)
 .omega
def Firsts.yes(x:Firsts k rs sts)(h:¬ ∃m:Int,0<=m/\m<k/\Conn rs m k):Firsts (k+1) rs (sts++[(k:Int)]):=by
 refine⟨?_,λm=>?_⟩
 .rw[YBJ];refine⟨x.1,by simp,λa ha b hb=>?_⟩
  have:=(x.2 a).mp ha
  rw[YAg.mp hb];exact this.2.1
 .rw[YAm,YAg,x.2 m];constructor
  .rintro(⟨a,b,c⟩|rfl)
   .exact⟨a,by omega,c⟩
   .exact⟨by omega,by omega,λj j0 j1 c=>h ⟨j,j0,j1,c⟩⟩
  .rintro⟨a,b,c⟩;by_cases e:m=k
   .exact .inr e
   .exact .inl ⟨a,by omega,c⟩
noncomputable def zdN(K:qq):Sp:=λvs H Q _=>∃(n:Nat)(a s:Addr)(rs:List Run)(hs:List Int),vs=[.int n,.ref a,.ref s]/\SqL K H a (rs.map runV)/\Runs K H rs/\zaE n rs/\SqL K H s (hs.map V.int)/\n<=1000/\rs.length<=1000 /\
 ∀(lt:Addr)(ts:List TR) H',Same H H'->H lt=none->H' lt=some (.lst (ts.map trV))->(∀t∈ts,TreeAt K H' n rs hs t)->Firsts n (usable hs rs) (ts.map TR.st)->ts.length<=n->(∀t∈ts,H t.d=none)->(ts.map TR.d).Nodup->Q (.ref lt) H'
def zcB(rs:List Run):usable [] rs=rs:=by unfold usable;exact YC9.mpr λr _=>rfl
theorem zg7{rs:List Run}{f:Int->Int}(hf:∀r∈rs,f r.qe-f r.one=r.rise):∀{qj h:Int}{line:List Int}{e t:Int},walkF rs qj h line=some (e,t)->t-h=f e-f qj
 |qj,h,[],e,t,q=>by
  have:(qj,h)=(e,t):=Option.some.inj q
  injection this with a b
  subst a b;omega
 |qj,h,n::rest,e,t,q=>by
  have hin:=zht q n YAh;have q':(if 0<=n/\n<(rs.length:Int)then(match zbn (runAt rs n) qj with|some (e,d)=>walkF rs e (h+d) rest|none=>none)else none)=some (e,t):=q;rw[if_pos hin]at q';have hr:=hf _ (zeD hin.1 hin.2).2.2;cases hs':zbn (runAt rs n) qj with
  |none=>rw[hs']at q';cases q'
  |some ed=>
   rw[hs']at q';have ih:=zg7 hf q';unfold zbn at hs';by_cases c1:qj=(runAt rs n).one
   .rw[if_pos c1]at hs';cases hs';rw[c1];show t-h=_
    have:t-(h+(runAt rs n).rise)=f e-f (runAt rs n).qe:=ih
    omega
   .rw[if_neg c1]at hs';by_cases c2:qj=(runAt rs n).qe
    .rw[if_pos c2]at hs';cases hs';rw[c2]
     have:t-(h+-(runAt rs n).rise)=f e-f (runAt rs n).one:=ih
     omega
    .rw[if_neg c2]at hs';cases hs'
def zlX(X:TreeAt K H n rs hs t)(hx:x∈t.ns)(e:x.m=t.st):x.h=0:=by
 obtain⟨k,hk⟩:=X.is;obtain⟨rest,hr⟩:=zku (stepsF rs hs rs.length) t.st k;rw[hk]at hr;have hr':t.ns.map zbb=(t.st,0,[])::rest:=hr;have e1:=zfJ X.tok.nod hx e;rw[hr']at e1;have e2:zbU ((t.st,0,[])::rest) t.st=(t.st,0,[]):=by unfold zbU;rw[YBu];simp
 rw[e2]at e1;unfold zbb at e1;injection e1 with _ e1
 exact(Prod.mk.inj e1).1
def zkf :∀(i:Nat)(j:Int),(i:Int)<k->Conn rs i j->∃m:Int,0<=m/\m<=i/\Conn rs m j/\∀q,0<=q->q<m->¬ Conn rs q m:=by
 intro i
 induction i using Nat.strongRecOn with
 |_ i ih=>
  intro j hi hc;by_cases h:∃q:Nat,q<i/\Conn rs q i
  .obtain⟨q,hq,qc⟩:=h;obtain⟨m,m0,m1,mc,mf⟩:=ih q hq j (by omega) (qc.trans hc);exact⟨m,m0,by omega,mc,mf⟩
  .refine⟨i,by omega,by omega,hc,λq q0 q1 qc=>h ⟨q.toNat,by omega,?_⟩⟩;rw[YBk q0];exact qc
def zdS{K:qq}{H:Hp}{n:Nat}{rs:List Run}{hs:List Int}{ts:List TR}(ht:∀t∈ts,TreeAt K H n rs hs t)(hF:Firsts n (usable hs rs) (ts.map TR.st)){i:Int}(h0:0<=i)(h1:i<n):∃t∈ts,∃x∈t.ns,x.m=i:=by
 have hi:((i.toNat:Nat):Int)=i:=by omega
 obtain⟨m,m0,m1,mc,mf⟩:=zkf (rs:=usable hs rs) (k:=n) i.toNat i (by omega) (by rw[hi];exact .refl _);have hm:=(hF.2 m).mpr ⟨m0,by omega,mf⟩;obtain⟨t,htm,e⟩:=YAF.mp hm;have hk:=((ht t htm).keys i).mpr (by rw[e];exact mc);obtain⟨x,hx,ex⟩:=mem_keys.mp hk;exact⟨t,htm,x,hx,ex⟩
def znh{K:qq}{H:Hp}{n:Nat}{rs:List Run}{hs:List Int}{ts:List TR}(ht:∀t∈ts,TreeAt K H n rs hs t)(hF:Firsts n (usable hs rs) (ts.map TR.st)){t u:TR}(a:t∈ts)(b:u∈ts){x y:Nd}(hx:x∈t.ns)(hy:y∈u.ns)(e:x.m=y.m):x.h=y.h:=by
 have T:=ht t a;have U:=ht u b;have c1:=(T.keys x.m).mp (mem_keys.mpr ⟨x,hx,rfl⟩);have c2:=(U.keys y.m).mp (mem_keys.mpr ⟨y,hy,rfl⟩);rw[e]at c1;have c:=c1.trans c2.symm;have f1:=(hF.2 t.st).mp (YAG a);have f2:=(hF.2 u.st).mp (YAG b);have es:t.st=u.st:=by
  rcases Int.lt_trichotomy t.st u.st with q|q|q
  .exact absurd c (f2.2.2 _ f1.1 q)
  .exact q
  .exact absurd c.symm (f1.2.2 _ f2.1 q)
 have ei:=T.is;rw[es]at ei;have en:=ei.uniq U.is;have e1:zbb x=zbb y:=by rw[zfJ T.tok.nod hx e,zfJ U.tok.nod hy rfl,en]
 unfold zbb at e1;injection e1 with _ e1
 exact(Prod.mk.inj e1).1
def zdG(n:Nat)(rs:List Run)(hts:List Int):Prop:=hts.length=n/\HtOk rs hts/\∀m:Int,0<=m->m<n->(∀j,0<=j->j<m->¬ Conn rs j m)->gI hts m=0
noncomputable def zrA(K:qq):Sp:=λvs H Q _=>∃(n:Nat)(a:Addr)(rs:List Run),vs=[.int n,.ref a]/\SqL K H a (rs.map runV)/\Runs K H rs/\zaE n rs/\n<=1000/\rs.length<=1000 /\
 (∀H',Same H H'->zfX rs->Q .non H')/\∀(l:Addr)(hts:List Int) H',Same H H'->H l=none->H' l=some (.lst (hts.map V.int))->zdG n rs hts->Q (.ref l) H'
def holds_iff :(rs.map (zgu hts)).all id=true↔HtOk rs hts:=by
 rw[YCh];constructor
 .intro h r hr
  have:=h _ (YAG hr)
  exact YA3 this
 .intro h b hb;obtain⟨r,hr,rfl⟩:=YAF.mp hb;exact YAw (h r hr)
structure GR where
 a:Addr
 st:Int
 ms:List Int
def grV(g:GR):V:=.ref g.a
def zqA(n:Nat)(rs:List Run)(g:GR):Prop:=g.ms.Pairwise (·<·)/\∀j,j∈g.ms↔0<=j/\j<n/\Conn rs g.st j
structure GrpsAt(H:Hp)(l:Addr)(n:Nat)(rs:List Run)(gs:List GR):Prop where
 lst:H l=some (.lst (gs.map grV))
 rows:∀g∈gs,H g.a=some (.lst (g.ms.map V.int))/\zqA n rs g
 firsts:Firsts n rs (gs.map GR.st)
def zoH(K:qq):Sp:=λvs H Q _=>∃(n:Nat)(a:Addr)(rs:List Run),vs=[.int n,.ref a]/\SqL K H a (rs.map runV)/\Runs K H rs/\zaE n rs/\n<=60/\rs.length<=1000 /\
 ∀(l:Addr)(gs:List GR) H',Same H H'->H l=none->GrpsAt H' l n rs gs->(∀g∈gs,H g.a=none)->Q (.ref l) H'
def zn3:(["tree"]:List Str).Nodup:=by decide +kernel
def comm:List Int->List Int->Nat
 |a::as,b::bs=>if a=b then comm as bs+1 else 0
 |_,_=>0
theorem zju:∀{A B:List Int}{k:Nat},k<=A.length->k<=B.length->A.take k=B.take k->(k=A.length\/k=B.length\/A[k]?≠B[k]?)->k=comm A B
 |[],B,k,h1,_,_,_=>by
  have:k=0:=by simpa using h1
  subst this;cases B<;>rfl
 |a::as,[],k,_,h2,_,_=>by
  have:k=0:=by simpa using h2
  subst this;rfl
 |a::as,b::bs,0,_,_,_,h=>by
  have:a≠b:=by
   rcases h with h|h|h
   .simp at h
   .simp at h
   .intro z;exact h (by simp[z])
  unfold comm;rw[if_neg this]
 |a::as,b::bs,k+1,h1,h2,h3,h=>by
  rw[YCf,YCf]at h3;injection h3 with e1 e2
  unfold comm;rw[if_pos e1,<-zju (k:=k) (by simpa using h1) (by simpa using h2) e2 (by simpa using h)]
theorem zex:∀(A B:List Int),comm A B<=A.length/\comm A B<=B.length/\A.take (comm A B)=B.take (comm A B)/\(∀a b,A[comm A B]?=some a->B[comm A B]?=some b->a≠b)
 |[],B=>by cases B<;>simp[comm]
 |a::as,[]=>by simp[comm]
 |a::as,b::bs=>by
  unfold comm;by_cases e:a=b
  .rw[if_pos e];obtain⟨h1,h2,h3,h4⟩:=zex as bs;refine⟨by simpa using h1,by simpa using h2,by rw[YCf,YCf,e,h3],λx y hx hy=>h4 x y (by simpa using hx) (by simpa using hy)⟩
  .rw[if_neg e];exact⟨YAH _,YAH _,rfl,λx y hx hy=>by simp at hx hy;rw[<-hx,<-hy];exact e⟩
def zbj(A B:List Int):List Int:=(A.drop (comm A B)).reverse++B.drop (comm A B)
theorem zfV:∀{qj h:Int}{l1 l2:List Int}{e t:Int},walkF rs qj h l1=some (e,t)->walkF rs qj h (l1++l2)=walkF rs e t l2
 |qj,h,[],l2,e,t,q=>by
  have:(qj,h)=(e,t):=Option.some.inj q
  injection this with a b
  subst a b;rfl
 |qj,h,n::rest,l2,e,t,q=>by
  rw[YCP];show(if 0<=n/\n<(rs.length:Int)then _ else _)=_;have q':(if 0<=n/\n<(rs.length:Int)then(match zbn (runAt rs n) qj with|some (e,d)=>walkF rs e (h+d) rest|none=>none)else none)=some (e,t):=q;by_cases c:0<=n/\n<(rs.length:Int)
  .rw[if_pos c]at q' ⊢;cases hs:zbn (runAt rs n) qj with
   |none=>rw[hs]at q';cases q'
   |some ed=>rw[hs]at q';exact zfV q'
  .rw[if_neg c]at q';cases q'
theorem zf4:∀{l1:List Int}{qj h:Int}{l2:List Int}{r:Int×Int},walkF rs qj h (l1++l2)=some r->∃e t,walkF rs qj h l1=some (e,t)/\walkF rs e t l2=some r
 |[],qj,h,l2,r,q=>⟨qj,h,rfl,q⟩
 |n::rest,qj,h,l2,r,q=>by
  rw[YCP]at q;have q':(if 0<=n/\n<(rs.length:Int)then(match zbn (runAt rs n) qj with|some (e,d)=>walkF rs e (h+d) (rest++l2)|none=>none)else none)=some r:=q;by_cases c:0<=n/\n<(rs.length:Int)
  .rw[if_pos c]at q';cases hs:zbn (runAt rs n) qj with
   |none=>rw[hs]at q';cases q'
   |some ed=>
    rw[hs]at q';obtain⟨e,t,h1,h2⟩:=zf4 q';exact⟨e,t,by rw[zeo c.1 c.2 (show zbn (runAt rs n) qj=some (ed.1,ed.2)from hs)];exact h1,h2⟩
  .rw[if_neg c]at q';cases q'
theorem zgi(d:Int):∀{l:List Int}{qj h e t:Int},walkF rs qj h l=some (e,t)->walkF rs qj (h+d) l=some (e,t+d)
 |[],qj,h,e,t,q=>by
  have:(qj,h)=(e,t):=Option.some.inj q
  injection this with a b
  subst a b;rfl
 |n::rest,qj,h,e,t,q=>by
  have q':(if 0<=n/\n<(rs.length:Int)then(match zbn (runAt rs n) qj with|some (e,d)=>walkF rs e (h+d) rest|none=>none)else none)=some (e,t):=q;by_cases c:0<=n/\n<(rs.length:Int)
  .rw[if_pos c]at q';cases hs:zbn (runAt rs n) qj with
   |none=>rw[hs]at q';cases q'
   |some ed=>
    rw[hs]at q';rw[zeo c.1 c.2 (show zbn (runAt rs n) qj=some (ed.1,ed.2)from hs),show h+d+ed.2=h+ed.2+d by omega];exact zgi d q'
  .rw[if_neg c]at q';cases q'
def zlt(hu:r.one≠r.qe)(h:zbn r qj=some (e,d)):zbn r e=some (qj,-d):=by
 unfold zbn at h ⊢;by_cases c:qj=r.one
 .rw[if_pos c]at h;injection h with h;injection h with h1 h2
  rw[<-h1,<-h2,if_neg (Ne.symm hu),if_pos rfl,c]
 .rw[if_neg c]at h;by_cases c2:qj=r.qe
  .rw[if_pos c2]at h;injection h with h;injection h with h1 h2
   rw[<-h1,<-h2,if_pos rfl,c2,Int.neg_neg]
  .rw[if_neg c2]at h;cases h
theorem ziq(hu:∀r∈rs,r.one≠r.qe):∀{l:List Int}{qj h e t:Int},walkF rs qj h l=some (e,t)->walkF rs e t l.reverse=some (qj,h)
 |[],qj,h,e,t,q=>by
  have:(qj,h)=(e,t):=Option.some.inj q
  injection this with a b
  subst a b;rfl
 |n::rest,qj,h,e,t,q=>by
  have q':(if 0<=n/\n<(rs.length:Int)then(match zbn (runAt rs n) qj with|some (e,d)=>walkF rs e (h+d) rest|none=>none)else none)=some (e,t):=q;by_cases c:0<=n/\n<(rs.length:Int)
  .rw[if_pos c]at q';cases hs:zbn (runAt rs n) qj with
   |none=>rw[hs]at q';cases q'
   |some ed=>
    rw[hs]at q';rw[YDr,zfV (ziq hu q'),zeo c.1 c.2 (zlt (hu _ (zeD c.1 c.2).2.2) (show zbn (runAt rs n) qj=some (ed.1,ed.2)from hs))];show some (qj,h+ed.2+-ed.2)=_;rw[show h+ed.2+-ed.2=h by omega]
  .rw[if_neg c]at q';cases q'
def zjF{rs:List Run}(hu:∀r∈rs,r.one≠r.qe){start:Int}{A B:List Int}{a ha b hb:Int}(h1:walkF rs start 0 A=some (a,ha))(h2:walkF rs start 0 B=some (b,hb)):walkF rs a ha (zbj A B)=some (b,hb):=by
 obtain⟨_,_,e,_⟩:=zex A B;rw[<-YBZ (comm A B) A]at h1;rw[<-YBZ (comm A B) B]at h2;obtain⟨p,hp,q1,q2⟩:=zf4 h1;obtain⟨p',hp',q3,q4⟩:=zf4 h2;rw[<-e,q1]at q3;injection q3 with q3;injection q3 with z1 z2
 subst z1 z2;unfold zbj;rw[zfV (ziq hu q2)];exact q4
theorem zfv{rs:List Run}{f:Int->Int}:∀{l:List Int}{qj h e t:Int},(∀z∈l,f (runAt rs z).qe-f (runAt rs z).one=(runAt rs z).rise)->walkF rs qj h l=some (e,t)->t-h=f e-f qj
 |[],qj,h,e,t,_,q=>by
  have:(qj,h)=(e,t):=Option.some.inj q
  injection this with a b
  subst a b;omega
 |n::rest,qj,h,e,t,hf,q=>by
  have q':(if 0<=n/\n<(rs.length:Int)then(match zbn (runAt rs n) qj with|some (e,d)=>walkF rs e (h+d) rest|none=>none)else none)=some (e,t):=q;by_cases c:0<=n/\n<(rs.length:Int)
  .rw[if_pos c]at q';cases hs:zbn (runAt rs n) qj with
   |none=>rw[hs]at q';cases q'
   |some ed=>
    rw[hs]at q';have ih:=zfv (λz hz=>hf z (YAj _ hz)) q';have hn:=hf n YAh;unfold zbn at hs;by_cases c1:qj=(runAt rs n).one
    .rw[if_pos c1]at hs;injection hs with hs;subst hs
     rw[c1];simp only at ih;omega
    .rw[if_neg c1]at hs;by_cases c2:qj=(runAt rs n).qe
     .rw[if_pos c2]at hs;injection hs with hs;subst hs
      rw[c2];simp only at ih;omega
     .rw[if_neg c2]at hs;cases hs
  .rw[if_neg c]at q';cases q'
def zgN(h:z∈zbj A B):z∈A\/z∈B:=by
 unfold zbj at h;rcases YAm.mp h with h|h
 .exact .inl (List.mem_of_mem_drop (YDz.mp h))
 .exact .inr (List.mem_of_mem_drop h)
def zgO(A B:List Int):(zbj A B).length<=A.length+B.length:=by
 unfold zbj;rw[YAo,YCz,YCw,YCw];omega
def TreeOk.acrossNodup{rs:List Run}{hs:List Int}{start:Int}{n:Nat}{ns:List Nd}(X:TreeOk rs hs start n ns){x y:Nd}(hx:x∈ns)(hy:y∈ns):(zbj x.line y.line).Nodup:=by
 obtain⟨c1,c2,c3,c4⟩:=zex x.line y.line;unfold zbj;rw[YCr];refine⟨List.pairwise_reverse.mpr (((X.lineNodup hx).sublist (List.drop_sublist _ _)).imp λh=>Ne.symm h),(X.lineNodup hy).sublist (List.drop_sublist _ _),λa ha b hb e=>?_⟩;subst e;obtain⟨i,hi⟩:=YBK (YDz.mp ha);obtain⟨j,hj⟩:=YBK hb;rw[List.getElem?_drop]at hi hj;have h:=X.uniq x hx y hy _ _ a hi hj;have li:=(YAi.mp hi).1;have lj:=(YAi.mp hj).1;have hl:=congrArg List.length h;rw[YBz,YBz]at hl;have ij:i=j:=by omega
 subst ij;have p1:x.line[comm x.line y.line]?=some (x.line[comm x.line y.line]'(by omega)):=YAe (by omega);have p2:y.line[comm x.line y.line]?=some (y.line[comm x.line y.line]'(by omega)):=YAe (by omega);refine c4 _ _ p1 p2 ?_;have q1:(x.line.take (comm x.line y.line+i+1))[comm x.line y.line]?=(y.line.take (comm x.line y.line+i+1))[comm x.line y.line]?:=by rw[h]
 rw[YB7 (by omega),YB7 (by omega),p1,p2]at q1;exact Option.some.inj q1
def zhF(K:qq):Sp:=λvs H Q _=>∃(a b:Addr)(A B:List Int),vs=[.ref a,.ref b]/\SqT K H a (A.map V.int)/\SqT K H b (B.map V.int)/\A.length<=100/\B.length<=100/\∀p H',Same H H'->SqT K H' p ((zbj A B).map V.int)->Q (.ref p) H'
def zkK{A:List Int}{k:Nat}(h:k<=A.length):cutV (A.map V.int) (some (k:Int)) none=(A.drop k).map V.int:=by
 unfold cutV;rw[HT.sIx_nat,HT.sIx_none,YAc,Nat.min_eq_left h,List.map_drop];exact YCH (by simp)
def zne{A B:List Int}{k:Nat}(h:A.take k=B.take k)(ha:k<A.length)(hb:k<B.length)(e:gI A k=gI B k):A.take (k+1)=B.take (k+1):=by
 have g:∀L:List Int,k<L.length->L.take (k+1)=L.take k++[gI L k]:=λL hl=>by
  rw[YDt,YAe hl];unfold gI;rw[YAD,YAt,YAe hl];rfl
 rw[g A ha,g B hb,h,e]
def ringF(cs:List PN)(hs:List Int):Nat->List Run->Option (Int×List Int)
 |_,[]=>none
 |i,r::rest=>if hs.contains r.hand=false/\(zbU cs r.qe).2.1-(zbU cs r.one).2.1≠r.rise then some (r.one,(i:Int)::zbj (zbU cs r.qe).2.2 (zbU cs r.one).2.2)else ringF cs hs (i+1) rest
def zeH{cs:List PN}{hs:List Int}{i:Nat}{r:Run}{rest:List Run}:ringF cs hs i (r::rest)=if hs.contains r.hand=false/\(zbU cs r.qe).2.1-(zbU cs r.one).2.1≠r.rise then some (r.one,(i:Int)::zbj (zbU cs r.qe).2.2 (zbU cs r.one).2.2)else ringF cs hs (i+1) rest:=rfl
theorem zgz :∀{l:List Run}{i:Nat}{m:Int}{line:List Int},ringF cs hs i l=some (m,line)->∃(j:Nat)(r:Run),l[j]?=some r/\hs.contains r.hand=false/\(zbU cs r.qe).2.1-(zbU cs r.one).2.1≠r.rise/\m=r.one/\line=((i+j:Nat):Int)::zbj (zbU cs r.qe).2.2 (zbU cs r.one).2.2
 |[],i,m,line,h=>by cases h
 |r::rest,i,m,line,h=>by
  unfold ringF at h;by_cases c:hs.contains r.hand=false/\(zbU cs r.qe).2.1-(zbU cs r.one).2.1≠r.rise
  .rw[if_pos c]at h;injection h with h;injection h with h1 h2
   exact⟨0,r,rfl,c.1,c.2,h1.symm,h2.symm⟩
  .rw[if_neg c]at h;obtain⟨j,r',a1,a2,a3,a4,a5⟩:=zgz h;refine⟨j+1,r',by simpa using a1,a2,a3,a4,?_⟩;rw[a5,show i+1+j=i+(j+1) by omega]
theorem zgG :∀{l:List Run}{i:Nat},ringF cs hs i l=none->∀r∈l,hs.contains r.hand=false->(zbU cs r.qe).2.1-(zbU cs r.one).2.1=r.rise
 |[],i,h,r,hr,_=>by cases hr
 |q::rest,i,h,r,hr,hc=>by
  unfold ringF at h;by_cases c:hs.contains q.hand=false/\(zbU cs q.qe).2.1-(zbU cs q.one).2.1≠q.rise
  .rw[if_pos c]at h;cases h
  .rw[if_neg c]at h;rcases YAk.mp hr with rfl|hr
   .by_cases e:(zbU cs r.qe).2.1-(zbU cs r.one).2.1=r.rise
    .exact e
    .exact absurd ⟨hc,e⟩ c
   .exact zgG h r hr hc
def zbc(ts:List TR):List Nd:=ts.flatMap TR.ns
def zpO(K:qq)(H:Hp)(r:Option (Int×List Int))(v:V):Prop:=match r with
 |none=>v=.non
 |some ml=>∃p lt,v=.ref p/\H p=some (.tup [.int ml.1,.ref lt])/\SqT K H lt (ml.2.map V.int)
structure Reach(K:qq)(H:Hp)(n:Nat)(rs:List Run)(hs:List Int)(ts:List TR):Prop where
 trees:∀t∈ts,TreeAt K H n rs hs t
 firsts:Firsts n (usable hs rs) (ts.map TR.st)
 nod:(zax (zbc ts)).Nodup
theorem Reach.same(x:Reach K H n rs hs ts)(S:Same H H'):Reach K H' n rs hs ts:=⟨λt ht=>(x.trees t ht).same S,x.firsts,x.nod⟩
def mem_reach:x∈zbc ts↔∃t∈ts,x∈t.ns:=YCk
def zjX{K:qq}{H:Hp}{n:Nat}{rs:List Run}{hs:List Int}{ts:List TR}(ht:∀t∈ts,TreeAt K H n rs hs t)(hF:Firsts n (usable hs rs) (ts.map TR.st)){i j:Nat}{t u:TR}(hi:ts[i]?=some t)(hj:ts[j]?=some u)(ij:i<j){k:Int}(h1:k∈zax t.ns)(h2:k∈zax u.ns):False:=by
 have c1:=((ht t (YAz hi)).keys k).mp h1;have c2:=((ht u (YAz hj)).keys k).mp h2;have li:=(YAi.mp hi).1;have lj:=(YAi.mp hj).1;have lt:=YA1.mp hF.1 i j (by rw[YAc];exact li) (by rw[YAc];exact lj) ij;rw[YBV,YBV,(YAi.mp hi).2,(YAi.mp hj).2]at lt;have hu:=(hF.2 u.st).mp (YAG (YAz hj));exact hu.2.2 t.st (ht t (YAz hi)).b0 lt (c1.trans c2.symm)
noncomputable def zr8(K:qq):Sp:=λvs H Q _=>∃(n:Nat)(a s:Addr)(rs:List Run)(hs:List Int),vs=[.int n,.ref a,.ref s]/\SqL K H a (rs.map runV)/\Runs K H rs/\zaE n rs/\SqL K H s (hs.map V.int)/\n<=40/\rs.length<=1000 /\
 ∀(v:V)(ts:List TR) H',Same H H'->Reach K H' n rs hs ts->zpO K H' (ringF ((zbc ts).map zbb) hs 0 rs) v->Q v H'
abbrev Nr:List Str:=["size","runs","struck","reached","tree","number","one","other","rise","hand","low","to_one","high","to_other"]
def ziL(hn:(zax ns).Nodup)(hx:x∈ns)(hu:u∈ns)(e:x.m=u.m):x.h=u.h:=by
 have a:=zcn hn hx;have b:=zcn hn hu;rw[e,b]at a;unfold zbb at a;injection a with _ a
 exact(Prod.mk.inj a).1.symm
def zpP{K:qq}{H:Hp}{n:Nat}{rs:List Run}{hs:List Int}{ts:List TR}(X:Reach K H n rs hs ts)(VM:zaE n rs)(hn:n<=40)(hu:∀r∈rs,r.one≠r.qe){m:Int}{line:List Int}(h:ringF ((zbc ts).map zbb) hs 0 rs=some (m,line)) :
  0<=m/\m<n/\line≠[]/\line.length<=90/\line.Nodup/\(∀z∈line,0<=z/\z<(rs.length:Int)/\hs.contains (runAt rs z).hand=false)/\∃t,walkF rs m 0 line=some (m,t)/\t≠0:=by
 obtain⟨j,r,hr,hc,hd,rfl,rfl⟩:=zgz h;rw[Nat.zero_add];have hrm:=YAz hr;have V0:=VM r hrm;have hjl:j<rs.length:=(YAi.mp hr).1;have era:runAt rs (j:Int)=r:=by
  have:=(zeD (rs:=rs) (i:=(j:Int)) (by omega) (by omega)).1
  rw[YAD,hr]at this;exact(Option.some.inj this).symm
 have hus:r∈usable hs rs:=by unfold usable;exact YA6.mpr ⟨hrm,by rw[hc];rfl⟩
 obtain⟨t,ht,x,hx,ex⟩:=zdS X.trees X.firsts V0.1 V0.2.1;have Tt:=X.trees t ht;have ho:r.qe∈zax t.ns:=(Tt.keys _).mpr (((Tt.keys _).mp (mem_keys.mpr ⟨x,hx,ex⟩)).trans (Conn.edge hus));obtain⟨y,hy,ey⟩:=mem_keys.mp ho;have lx:=zcn X.nod (mem_reach.mpr ⟨t,ht,hx⟩);have ly:=zcn X.nod (mem_reach.mpr ⟨t,ht,hy⟩);rw[ex]at lx;rw[ey]at ly;rw[lx,ly]at hd ⊢;have hd':y.h-x.h≠r.rise:=hd;show 0<=r.one/\r.one<(n:Int)/\(j:Int)::zbj y.line x.line≠[]/\((j:Int)::zbj y.line x.line).length<=90/\((j:Int)::zbj y.line x.line).Nodup/\(∀z∈(j:Int)::zbj y.line x.line,_)/\∃t,walkF rs r.one 0 ((j:Int)::zbj y.line x.line)=some (r.one,t)/\t≠0;have few1:=Tt.tok.few x hx;have few2:=Tt.tok.few y hy;have tl:=Tt.tok.len;have al:=zgO y.line x.line;have nokeep:∀q:Nd,q∈t.ns->(j:Int)∉q.line:=λq hq hz=>by
  obtain⟨u,hu1,v,hv1,e1,e2,e3⟩:=Tt.tok.keep q hq _ hz;rw[era]at e1 e2 e3;have h1:=ziL Tt.tok.nod hx hu1 (ex.trans e1.symm);have h2:=ziL Tt.tok.nod hy hv1 (ey.trans e2.symm);omega
 refine⟨V0.1,V0.2.1,List.cons_ne_nil _ _,by rw[YAK];omega,YBh.mpr ⟨λhz=>?_,Tt.tok.acrossNodup hy hx⟩,λz hz=>?_,?_⟩
 .rcases zgN hz with q|q
  .exact nokeep y hy q
  .exact nokeep x hx q
 .rcases YAk.mp hz with rfl|hz
  .rw[era];exact⟨by omega,by omega,hc⟩
  .rcases zgN hz with q|q
   .obtain⟨a,b,c,_⟩:=Tt.tok.runs y hy z q;exact⟨a,b,c⟩
   .obtain⟨a,b,c,_⟩:=Tt.tok.runs x hx z q;exact⟨a,b,c⟩
 .have st:zbn (runAt rs (j:Int)) r.one=some (r.qe,r.rise):=by rw[era];unfold zbn;rw[if_pos rfl]
  have w1:=zjF hu (Tt.tok.walk y hy) (Tt.tok.walk x hx);rw[ey,ex]at w1;have w2:=zgi (r.rise-y.h) w1;refine⟨x.h+(r.rise-y.h),?_,by omega⟩;rw[zeo (by omega) (by omega) st,show(0:Int)+r.rise=y.h+(r.rise-y.h) by omega];exact w2
end Fen
namespace Fd
open PySem L2
def zaS(h:F ds P)(k:∀d,P d->Q d):up F ds Q:=⟨P,h,k⟩
def zk3(t:Tg)(C:WT)(E:WE)(Zc:Env)(x:D)(o:Option D):Prop:=∀(qo:D->Prop)(N:Prop),(match o with|some d=>qo d|none=>N)->gD t x Zc λZ2=>C Z2 λb=>if b=true then E Z2 qo else N
theorem zcT{α:Type}(emb:α->D)(g:α->Option D):∀(xs:List α)(acc:List D),(∀x∈xs,zk3 t C E Zc (emb x) (g x))->Q (acc++xs.filterMap g)->zbd t C E Zc Q (xs.map emb) acc
 |[],acc,_,q=>by simpa[zbd]using q
 |x::xs,acc,h,q=>by
  show gD t (emb x) Zc λZ2=>C Z2 λb=>if b=true then E Z2 λd=>zbd t C E Zc Q (xs.map emb) (acc++[d])else zbd t C E Zc Q (xs.map emb) acc;refine h x YAh _ _ ?_;cases e:g x with
  |none=>
   refine zcT emb g xs acc (λy hy=>h y (YAj _ hy)) ?_;rw[YAY,e]at q;exact q
  |some d=>
   refine zcT emb g xs (acc++[d]) (λy hy=>h y (YAj _ hy)) ?_;rw[YAY,e]at q;rw[YAJ];exact q
theorem zew{α β:Type}(emb:α->D)(out:β->D)(R:α->β->Prop):∀(xs:List α)(ys:List β),(∀x∈xs,∀qo:D->Prop,(∀y,R x y->qo (out y))->gD t (emb x) Zc λZ2=>C Z2 λb=>b=true/\E Z2 qo) ->
  zdX C->(∀zs:List β,zs.length=xs.length->(∀z∈zs,∃x∈xs,R x z)->Q ((ys++zs).map out))->zbd t C E Zc Q (xs.map emb) (ys.map out)
 |[],ys,_,_,q=>by simpa[zbd]using q [] rfl (λz h=>by cases h)
 |x::xs,ys,h,mC,q=>by
  show gD t (emb x) Zc λZ2=>C Z2 λb=>if b=true then E Z2 λd=>zbd t C E Zc Q (xs.map emb) (ys.map out++[d])else zbd t C E Zc Q (xs.map emb) (ys.map out);refine zbv t (emb x) Zc (λZ2 z=>mC Z2 _ _ (λb z=>?_) z) (h x YAh (λd=>zbd t C E Zc Q (xs.map emb) (ys.map out++[d])) λy hy=>?_)
  .rw[z.1,if_pos rfl];exact z.2
  .have:=zew (t:=t) (C:=C) (E:=E) (Zc:=Zc) (Q:=Q) emb out R xs (ys++[y]) (λx' hx'=>h x' (YAj _ hx')) mC (λzs hl hz=>by
    have:=q (y::zs) (by simp[hl]) (λz hz'=>by
     rcases YAk.mp hz' with e|e
     .exact⟨x,YAh,e▸hy⟩
     .obtain⟨x',h1,h2⟩:=hz z e;exact⟨x',YAj _ h1,h2⟩)
    simpa using this)
   simpa using this
def zdY:zdX noIf:=λZ Q Q' k q=>k _ q
theorem zaY(I:List D->Env->Prop)
  (hs:∀x rest Z (E':En),(∀ Z,I rest Z->E'.nx Z)->(∀ Z,I rest Z->E'.ct Z)->(∀d,E.rt d->E'.rt d)->(∀ Z,E.nx Z->E'.bk Z)->I (x::rest) Z->gD t x Z λZ'=>B E' Z') (hd:∀ Z,I [] Z->E.nx Z) :
  ∀(xs:List D)(Z:Env),I xs Z->zbB t B E xs Z
 |[],Z,h=>hd Z h
 |x::xs,Z,h=>hs x xs Z {nx:=zbB t B E xs,ct:=zbB t B E xs,bk:=E.nx,rt:=E.rt} (zaY I hs hd xs) (zaY I hs hd xs) (λd z=>z) (λZ z=>z) h
theorem zfQ(P:D->Prop)(I:List D->Env->Prop)
  (hs:∀x rest Z (E':En),P x->(∀ Z,I rest Z->E'.nx Z)->(∀ Z,I rest Z->E'.ct Z)->(∀d,E.rt d->E'.rt d)->(∀ Z,E.nx Z->E'.bk Z)->I (x::rest) Z->gD t x Z λZ'=>B E' Z') (hd:∀ Z,I [] Z->E.nx Z) :
  ∀(xs:List D)(Z:Env),(∀d∈xs,P d)->I xs Z->zbB t B E xs Z
 |[],Z,_,h=>hd Z h
 |x::xs,Z,hp,h=>hs x xs Z {nx:=zbB t B E xs,ct:=zbB t B E xs,bk:=E.nx,rt:=E.rt} (hp x YAh) (λZ=>zfQ P I hs hd xs Z λd hd=>hp d (YAj _ hd)) (λZ=>zfQ P I hs hd xs Z λd hd=>hp d (YAj _ hd)) (λd z=>z) (λZ z=>z) h
def zoa(h:d∈rngL m n):∃k:Int,d=.int k/\m<=k/\k<m+n:=by
 unfold rngL at h;obtain⟨k,hk,rfl⟩:=YAF.mp h;exact⟨_,rfl,by omega,by have:=YBc.mp hk;omega⟩
theorem zf2{α:Type}(emb:α->D)(g:α->Option Int):∀(xs:List α)(acc:List Int),(∀x∈xs,zk3 t C E Zc (emb x) ((g x).map D.int))->(∀ns:List Int,(∀k,k∈ns↔k∈acc\/k∈xs.filterMap g)->Q ns)->zdu t C E Zc Q (xs.map emb) acc
 |[],acc,_,q=>by simpa[zdu]using q acc (λk=>by simp)
 |x::xs,acc,h,q=>by
  show gD t (emb x) Zc λZ2=>C Z2 λb=>if b=true then E Z2 λd=>intD d λk=>zdu t C E Zc Q (xs.map emb) (k::acc)else zdu t C E Zc Q (xs.map emb) acc;refine h x YAh _ _ ?_;cases e:g x with
  |none=>
   refine zf2 emb g xs acc (λy hy=>h y (YAj _ hy)) λns hn=>q ns λk=>?_;rw[YAY,e];exact hn k
  |some d=>
   refine zf2 emb g xs (d::acc) (λy hy=>h y (YAj _ hy)) λns hn=>q ns λk=>?_;rw[YAY,e,hn k,YAk,YAk];constructor
   .rintro((h|h)|h)
    .exact .inr (.inl h)
    .exact .inl h
    .exact .inr (.inr h)
   .rintro(h|h|h)
    .exact .inl (.inr h)
    .exact .inl (.inl h)
    .exact .inr h
def zal(i:Int):D.old (.int i)=.int i:=by unfold D.old;rfl
def zbm(a:Bool)(ns:List Int):D.old (.lst a (ns.map D.int))=.lst false (ns.map D.int):=by
 unfold D.old;congr 1;rw[YAM];exact YBe λi _=>zal i
def zdj(ns:List Int):D.old (.tup (ns.map D.int))=.tup (ns.map D.int):=by
 unfold D.old;congr 1;rw[YAM];exact YBe λi _=>zal i
abbrev Rn:=Fen.Run
def runD(r:Fen.Run):D:=.tup [.int r.one,.int r.qe,.int r.rise,.int r.hand]
def zqv(r:Rn):(runD r).old=runD r:=by unfold runD;simp[D.old]
def zaM(a:Bool)(rs:List Rn):D.old (.lst a (rs.map runD))=.lst false (rs.map runD):=by
 unfold D.old;congr 1;rw[YAM];exact YBe λr _=>zqv r
theorem zcV(x:Int):∀hs:List Int,inB (.int x) (hs.map D.int)=hs.contains x
 |[]=>rfl
 |y::hs=>by
  have:=zcV x hs
  unfold inB at this ⊢;rw[YAb,zb3,YBY,this,List.contains_cons];congr 1;show(y==x)=(x==y);exact Bool.beq_comm
theorem zcr:∀hs:List Int,zcH (hs.map D.int)=true
 |[]=>rfl
 |y::hs=>by rw[YAb,zcH,zcr hs];rfl
theorem zdz:∀hs:List Int,PyData.depthAll (zb3 (hs.map D.int))=0
 |[]=>rfl
 |y::hs=>by rw[YAb,zb3,PyData.depthAll,zdz hs];rfl
def zcJ(x:Int)(hs:List Int):inOk (.int x) (hs.map D.int):=⟨rfl,zcr hs,by rw[zdz];exact YAQ (Nat.min_le_left _ _) (by decide)⟩
def zay(x y:Int):eqOk (.int x) (.int y):=⟨rfl,rfl,by show min 0 0<=50;decide⟩
def zaZ(x y:Int):eqB (.int x) (.int y)=decide (x=y):=by
 show(x==y)=_;by_cases h:x=y<;>simp[h]
def zbX(x y:Bool):eqOk (.bl x) (.bl y):=⟨rfl,rfl,by show min 0 0<=50;decide⟩
def zm7{x:Int}{hs:List Int}{n:Bool}{Q:D->Prop}(q:Q (.bl (hs.contains x))):inD false (.int x) (.lst n (hs.map D.int)) Q:=⟨zcJ _ _,by
 have:(if false=true then !inB (.int x) (hs.map D.int)else inB (.int x) (hs.map D.int))=hs.contains x:=zcV x hs
 rw[this];exact q⟩
def zqX(q:Q (.bl (decide (x=y)))):eqD (.int x) (.int y) Q:=⟨zay _ _,by rw[zaZ];exact q⟩
def zaL(rs:List Rn)(hs:List Int):List Rn:=rs.filter λr=>!hs.contains r.hand
def zap(rs:List Rn):List Int:=zbw (rs.map Fen.Run.hand)
def gI(hs:List Int)(i:Int):Int:=hs.getD i.toNat 0
def zgu(hts:List Int)(r:Rn):Bool:=decide (gI hts r.qe-gI hts r.one=r.rise)
def InM(n:Int)(rs:List Rn):Prop:=∀r∈rs,0<=r.one/\r.one<n/\0<=r.qe/\r.qe<n
def znl(h:∀k,k∈xs↔k∈ys):zbw xs=zbw ys:=zm9 (zbl _) (zbl _) λk=>((za6 xs k).trans (h k)).trans (za6 ys k).symm
def zds(a:Bool)(rs:List Rn)(hl:rs.length<64):zbt [.lst a (rs.map runD)] (·=.lst true ((zap rs).map D.int)):=by
 unfold zbt fnW zaF;rw[YAb,zaM];refine⟨by simpa using hl,zf2 runD (λr=>some r.hand) rs [] (λr hr qo N y=>⟨rfl,y⟩) λns hn=>?_⟩;show D.lst true ((zbw ns).map D.int)=_;rw[zap,znl (ys:=rs.map Fen.Run.hand)];intro k;rw[hn k,List.filterMap_eq_map']
 simp
def zh0(a b:Bool)(rs:List Rn)(hs:List Int)(hl:rs.length<=1000):zd0 [.lst a (rs.map runD),.lst b (hs.map D.int)] (·=.lst true ((zaL rs hs).map runD)):=by
 unfold zd0 fnW zaF;rw[YAb,YAb,zaM,zbm];refine⟨by simp;omega,zcT runD (λr=>if hs.contains r.hand then none else some (runD r)) rs [] (λr hr qo N y=>⟨rfl,zcJ _ _,?_⟩) ?_⟩
 .show if (if true=true then !inB (.int r.hand) (hs.map D.int)else _)=true then _ else _;rw[if_pos rfl,zcV];revert y;cases hs.contains r.hand with
  |true=>exact λy=>y
  |false=>exact λy=>⟨by show 4<=100000;decide,y⟩
 .show D.lst true _=_;congr 1;unfold zaL;rw[YA4]
  induction rs with
  |nil=>rfl
  |cons r rs ih=>
   rw[YAY,YBb];cases hs.contains r.hand with
   |true=>exact ih (by simp at hl;omega)
   |false=>simp only[Bool.not_false,YCO,YAb,YAX,YBX];rw[ih (by simp at hl;omega)]
def zel{hs:List Int}{i:Int}(h0:0<=i)(h1:i<hs.length):atI (hs.map D.int) i=some (.int (gI hs i)):=by
 unfold atI ixN gI;have hn:i.toNat<hs.length:=by omega
 rw[if_pos h0,YAc,if_pos h1,YDC,YAq,YAe hn,YAt,YAe hn];rfl
def zb9{hs:List Int}{i:Int}{Q:D->Prop}(h0:0<=i)(h1:i<hs.length)(q:Q (.int (gI hs i))):itD (hs.map D.int) (.int i) Q:=by
 show(match atI (hs.map D.int) i with|some d=>Q d|none=>False);rw[zel h0 h1];exact q
def zpr{α:Type}(f:α->Bool)(xs:List α):(xs.map λx=>D.bl (f x))=(xs.map f).map D.bl:=by rw[YAM];rfl
def zcS{α:Type}{f:α->Bool}{xs:List α}{n:Bool}{Q:D->Prop}(q:Q (.bl (xs.all f))):allF [.lst n (xs.map λx=>D.bl (f x))] Q:=
 ⟨xs.map f,zpr f xs,by rw[List.all_map];exact q⟩
def zoL{α:Type}{f:α->Bool}{xs:List α}{n:Bool}{Q:D->Prop}(q:Q (.bl (xs.any f))):anyF [.lst n (xs.map λx=>D.bl (f x))] Q:=
 ⟨xs.map f,zpr f xs,by rw[List.any_map];exact q⟩
def zgq{α β:Type}(f:α->β)(xs:List α):xs.filterMap (λx=>some (f x))=xs.map f:=by rw[List.filterMap_eq_map']
def zaX{α:Type}(emb:α->D)(g:α->D)(xs:List α)(h:∀x∈xs,zk3 t C E Zc (emb x) (some (g x)))(q:Q (xs.map g)):zbd t C E Zc Q (xs.map emb) []:=
 zcT emb (λx=>some (g x)) xs [] h (by rw[zgq];exact q)
def zgn:List Int->Bool
 |x::y::r=>decide (x<y)&&zgn (y::r)
 |_=>true
theorem zei:∀ns:List Int,zgn ns=true↔ns.Pairwise (·<·)
 |[]=>by simp[zgn]
 |[x]=>by simp[zgn]
 |x::y::r=>by
  rw[zgn,YAI,zei (y::r),YCq,YA7 (a:=x)];constructor
  .rintro⟨h1,h2⟩;refine⟨λk hk=>?_,h2⟩;rcases YAk.mp hk with e|e
   .rw[e];exact h1
   .exact YDL h1 ((YA7.mp h2).1 k e)
  .rintro⟨h1,h2⟩;exact⟨h1 y YAh,h2⟩
def zhv(size:Int)(rs:List Rn)(qf:Int)(fs hs:List Int):Bool:=
 decide ((fs.length:Int)<=qf)&&zgn fs&&fs.all (λh=>(zap rs).contains h)&&decide ((hs.length:Int)=size)&&(zaL rs fs).all (zgu hs)
def zes(rs:List Rn)(hs:List Int):(zaL rs hs).length<=rs.length:=YB0 ..
def zkG(h:InM n rs)(hs:List Int):InM n (zaL rs hs):=λr hr=>h r (YA6.mp hr).1
def zdw(x y:D):D.old (.tup [x,y])=.tup [x.old,y.old]:=by rw[D.old];rfl
def zj3:D.old .box=.box:=by rw[D.old]
def zc2(x:Str):D.old (.str x)=.str x:=by rw[D.old]
def zaJ(h0:0<m)(h1:m<2^64)(k:∀x:Int,0<=x->x<m->Q (.int x)):up zak [.box,.int m] Q:=⟨Q,⟨⟨h0,h1⟩,k⟩,λd z=>z⟩
def zga(m:Int)(n:Nat):rngL m (n+1)=.int m::rngL (m+1) n:=by
 unfold rngL;rw[YCG,YAb,YAM];congr 1
 .simp
 .refine YBe λk _=>?_;simp only[Function.comp_apply,Nat.succ_eq_add_one];congr 1;omega
def zhT(n:Nat):rngL 0 n=(List.range n).map λ(k:Nat)=>D.int (k:Int):=by
 unfold rngL;refine YBe λk _=>?_;simp
def zbp(m:Int)(n:Nat):(rngL m n).length=n:=by unfold rngL;simp
def zjf:zbE [.box] (λd=>∃x:Int,d=.int x/\0<=x):=by
 unfold zbE fnW zaF;rw[YAb,zj3];refine⟨rfl,zaJ (by decide) (by decide) λx x0 x1=>?_⟩;refine⟨zay _ _,ite2 (λh=>?_) (λh=>?_)⟩
 .exact⟨rfl,zaJ (by decide) (by decide) λy y0 y1=>⟨y,rfl,y0⟩⟩
 refine⟨zay _ _,ite2 (λh=>?_) (λh=>?_)⟩
 .exact⟨rfl,zaJ (by decide) (by decide) λy y0 y1=>⟨y,rfl,y0⟩⟩
 refine⟨⟨by decide,by decide⟩,?_⟩;refine zaY (λ_ Z=>∃(z:Int)(s:Sl),Z=[.val .box,.val (.int x),.val (.int z),s]/\0<=z) ?_ ?_ _ _ ⟨0,.un,rfl,Int.le_refl _⟩
 .rintro k rest Z E' hn hc hr hb ⟨z,s,rfl,z0⟩;refine⟨.inr ⟨by decide,by decide⟩,rfl,zaJ (by decide) (by decide) λy y0 y1=>hn _ ⟨z*1000000+y,.val k,rfl,by omega⟩⟩
 .rintro Z ⟨z,s,rfl,z0⟩;exact⟨z,rfl,z0⟩
def zgx(r:Int):za9 [.box,.int r] (λd=>∃x:Int,d=.int x):=by
 unfold za9 fnW zaF;rw[YAb,YAb,zj3,zal];refine⟨rfl,zaJ (by decide) (by decide) λx x0 x1=>⟨rfl,zaS zjf λd ⟨y,hd,y0⟩=>?_⟩⟩;subst hd;refine⟨rfl,zaS zjf λd ⟨z,hd,z0⟩=>?_⟩;subst hd;refine⟨by show 5<=100000;decide,rfl,zaJ (by decide) (by decide) λw w0 w1=>?_⟩;exact zb9 (hs:=[1,-1,1+x,y,-z]) w0 w1 ⟨_,rfl⟩
def zea(a b:Bool)(rs:List Rn)(hs:List Int)(hl:rs.length<=1000):zbC [.lst a (rs.map runD),.lst b (hs.map D.int)] (·=.lst true ((zaL rs hs).map runD)):=by
 unfold zbC fnW zaF;rw[YAb,YAb,zaM,zbm];refine⟨by simp;omega,zcT runD (λr=>if hs.contains r.hand then none else some (runD r)) rs [] (λr hr qo N y=>⟨zcJ _ _,?_⟩) ?_⟩
 .show if (if true=true then !inB (.int r.hand) (hs.map D.int)else _)=true then _ else _;rw[if_pos rfl,zcV];revert y;cases hs.contains r.hand with
  |true=>exact λy=>y
  |false=>exact λy=>y
 .show D.lst true _=_;congr 1;unfold zaL;rw[YA4]
  induction rs with
  |nil=>rfl
  |cons r rs ih=>
   rw[YAY,YBb];cases hs.contains r.hand with
   |true=>exact ih (by simp at hl;omega)
   |false=>simp only[Bool.not_false,YCO,YAb,YAX,YBX];rw[ih (by simp at hl;omega)]
def zcz(a:Bool)(rs:List Rn)(hl:rs.length<64):za0 [.lst a (rs.map runD)] (·=.lst true ((zap rs).map D.int)):=by
 unfold za0 fnW zaF;rw[YAb,zaM];refine⟨by simp;omega,zaX runD (λr=>.int r.hand) rs (λr hr qo N y=>y) ?_⟩;exact⟨rs.map Fen.Run.hand,by rw[YAM];rfl,by simpa using hl,rfl⟩
def zc5(a:Bool)(ns:List Int)(k:Int)(hl:ns.length<=1000):zbf [.lst a (ns.map D.int),.int k] (·=.bl (decide ((ns.length:Int)=k))):=by
 unfold zbf fnW zaF;rw[YAb,YAb,zbm,zal];refine⟨zay _ _,?_⟩;show if (!eqB (.int ((ns.map D.int).length:Int)) (.int k))=true then _ else _;rw[zaZ,YAc];cases decide ((ns.length:Int)=k)with
 |false=>rfl
 |true=>
  refine⟨by simp;omega,zaX D.int (λ_=>.bl true) ns (λr hr qo N y=>y) ?_⟩;exact zcS (f:=λ_=>true) (xs:=ns) (n:=true) (by show D.bl _=_;congr 1;simp)
mutual
def zaG:D->Nat->Bool
 |.non,_=>true
 |.bl _,_=>true
 |.int _,_=>true
 |.str x,_=>PyData.canLay0 (.str x)
 |.box,_=>false
 |.tup xs,n+1=>decide (xs.length<=1000)&&zbs xs n
 |.lst _ xs,n+1=>decide (xs.length<=1000)&&zbs xs n
 |.tup _,0=>false
 |.lst _ _,0=>false
def zbs:List D->Nat->Bool
 |[],_=>true
 |x::xs,n=>zaG x n&&zbs xs n
end
theorem zdQ:∀{xs:List D}{n:Nat}{x:D},zbs xs n=true->x∈xs->zaG x n=true
 |y::ys,n,x,h,hx=>by
  rw[zbs,YAI]at h;rcases YAk.mp hx with e|e
  .rw[e];exact h.1
  .exact zdQ h.2 e
theorem zfM:∀xs:List D,zipL xs xs=xs.map λx=>.tup [x,x]
 |[]=>rfl
 |x::xs=>by rw[zipL,zfM xs];rfl
mutual
theorem znw:∀d:D,d.old.old=d.old
 |.non=>by simp[D.old]
 |.bl _=>by simp[D.old]
 |.int _=>by simp[D.old]
 |.str _=>by simp[D.old]
 |.box=>by simp[D.old]
 |.tup xs=>by rw[D.old,D.old,YAM];congr 1;exact zhQ xs
 |.lst _ xs=>by rw[D.old,D.old,YAM];congr 1;exact zhQ xs
theorem zhQ:∀xs:List D,xs.map (D.old∘D.old)=xs.map D.old
 |[]=>rfl
 |x::xs=>by rw[YAb,YAb,zhQ xs,Function.comp_apply,znw x]
end
mutual
theorem zgB:∀(d:D)(n:Nat),zaG d.old n=zaG d n
 |.non,_=>by rw[D.old]
 |.bl _,_=>by rw[D.old]
 |.int _,_=>by rw[D.old]
 |.str _,_=>by rw[D.old]
 |.box,_=>by rw[D.old]
 |.tup xs,n+1=>by rw[D.old,zaG,zaG,YAc,zdW xs n]
 |.lst _ xs,n+1=>by rw[D.old,zaG,zaG,YAc,zdW xs n]
 |.tup xs,0=>by rw[D.old,zaG,zaG]
 |.lst _ xs,0=>by rw[D.old,zaG,zaG]
theorem zdW:∀(xs:List D)(n:Nat),zbs (xs.map D.old) n=zbs xs n
 |[],_=>rfl
 |x::xs,n=>by rw[YAb,zbs,zbs,zgB x n,zdW xs n]
end
def lay_sc:∀{d:D}{n:Nat},zaG d n=true->(∀xs,d≠.tup xs)->(∀b xs,d≠.lst b xs)->layD d=true
 |.non,_,_,_,_=>rfl
 |.bl _,_,_,_,_=>rfl
 |.int _,_,_,_,_=>rfl
 |.str x,_,h,_,_=>by rw[zaG]at h;rw[layD];exact h
 |.box,_,h,_,_=>by rw[zaG]at h;cases h
 |.tup xs,_,_,h,_=>absurd rfl (h xs)
 |.lst b xs,_,_,_,h=>absurd rfl (h b xs)
theorem zen:∀(n:Nat)(d e:D),d.old=e.old->zaG d n=true->za7 (n+1) [d,e] (·=.bl true)
 |n,d,e,he,h=>by
  have ho:=h;rw[<-zgB]at ho;unfold za7 fnW zaF;rw[YAb,YAb,<-he];have hoo:d.old.old=d.old:=znw d;revert ho hoo;generalize d.old=x;intro ho hoo;cases x with
  |non=>rfl
  |bl b=>exact⟨zbX _ _,zbX _ _,zbX _ _,⟨rfl,rfl,by show min 0 0<=50;decide⟩,by show D.bl (b==b)=_;simp⟩
  |int i=>exact⟨zbX _ _,zbX _ _,zbX _ _,zay _ _,by show D.bl (i==i)=_;simp⟩
  |str z=>exact⟨zbX _ _,zbX _ _,zbX _ _,⟨lay_sc ho (λ_ h=>by cases h) (λ_ _ h=>by cases h),lay_sc ho (λ_ h=>by cases h) (λ_ _ h=>by cases h),by show min 0 0<=50;decide⟩,by show D.bl (z==z)=_;simp⟩
  |box=>rw[zaG]at ho;cases ho
  |tup xs=>
   cases n with
   |zero=>rw[zaG]at ho;cases ho
   |succ n=>
    rw[zaG,YAI]at ho;have hl:=YA3 ho.1;refine⟨zbX _ _,zbX _ _,zay _ _,?_⟩;show blD (.bl (eqB (.int (xs.length:Int)) (.int (xs.length:Int)))) _;rw[zaZ,YAw rfl];show _/\zbd _ _ _ _ _ (zipL xs xs) [];rw[zfM];refine⟨by rw[YAc];omega,zaX (λx=>.tup [x,x]) (λ_=>.bl true) xs (λx hx qo N y=>⟨rfl,rfl,zaS (zen n x x rfl (zdQ ho.2 hx)) λd hd=>by subst hd;exact y⟩) ?_⟩;exact zcS (f:=λ_=>true) (xs:=xs) (n:=true) (by show D.bl _=_;congr 1;simp)
  |lst b xs=>
   cases n with
   |zero=>rw[zaG]at ho;cases ho
   |succ n=>
    rw[zaG,YAI]at ho;have hl:=YA3 ho.1;refine⟨zbX _ _,zbX _ _,zay _ _,?_⟩;show blD (.bl (eqB (.int (xs.length:Int)) (.int (xs.length:Int)))) _;rw[zaZ,YAw rfl];show _/\zbd _ _ _ _ _ (zipL xs xs) [];rw[zfM];refine⟨by rw[YAc];omega,zaX (λx=>.tup [x,x]) (λ_=>.bl true) xs (λx hx qo N y=>⟨rfl,rfl,zaS (zen n x x rfl (zdQ ho.2 hx)) λd hd=>by subst hd;exact y⟩) ?_⟩;exact zcS (f:=λ_=>true) (xs:=xs) (n:=true) (by show D.bl _=_;congr 1;simp)
structure Wd(mm mh mr size:Int)(rs:List Rn)(hts fs:List Int):Prop where
 s1:1<=size
 s2:size<=mm
 few:(rs.length:Int)<=mr
 marks:InM size rs
 apart:∀r∈rs,r.one≠r.qe
 hand:∀r∈rs,0<=r.hand/\r.hand<10
 names:∃nm:List Int,(nm.length:Int)<=mh/\∀r∈rs,r.hand∈nm
 hl:(hts.length:Int)=size
 h0:∀h∈hts,0<=h
 up:fs.Pairwise (·<·)
 fl:fs.length<=3
 fr:∀h∈fs,0<=h/\h<10
 truth:∀r∈rs,r.hand∉fs->r.rise=gI hts r.qe-gI hts r.one
theorem zdd:∀ns:List Int,(zbw ns).length<=ns.length
 |[]=>YAn _
 |x::xs=>by
  have h:=zdd xs;unfold zbw
  have:∀ys:List Int,(insU x ys).length<=ys.length+1:=λys=>by
   induction ys with
   |nil=>simp[insU]
   |cons y ys ih=>
    unfold insU;split
    .simp
    .split
     .simp
     .simp;exact ih
  have:=this (zbw xs)
  simp;omega
def zmb(h0:0<=i)(h1:i<hs.length):gI hs i∈hs:=by
 unfold gI;have hn:i.toNat<hs.length:=by omega
 rw[YAt,YAe hn];exact YBT hn
def znc(mm mh mr:Int)(a1:1<=mm)(a2:mm<=12)(b1:1<=mh)(b2:mh<=10)(c1:0<=mr)(c2:mr<=40) :
  zbH [.box,.int mm,.int mh,.int mr] (λd=>∃size rs hts fs,d=.tup [.int size,.lst true (rs.map runD),.lst true (hts.map D.int),.lst true (fs.map D.int)]/\Wd mm mh mr size rs hts fs):=by
 unfold zbH fnW zaF;rw[YAb,YAb,YAb,YAb,zj3,zal,zal,zal];refine⟨rfl,zaJ (by omega) (by omega) λx x0 x1=>?_⟩;refine⟨rfl,zaJ (by omega) (by omega) λy y0 y1=>?_⟩;refine⟨⟨by decide,by decide,by decide⟩,by show 3<=100000;decide,rfl,zaJ (by decide) (by decide) λz z0 z1=>?_⟩;refine zb9 (hs:=[4,1000,10^12]) z0 z1 ?_;have hw:0<gI [4,1000,10^12] z/\gI [4,1000,10^12] z<2^64:=by
  have:=zmb (hs:=[4,1000,10^12]) z0 z1
  simp only[YAk,YAO,YBG]at this;rcases this with e|e|e<;>rw[e]<;>decide
 generalize gI [4,1000,10^12] z=wide at hw;refine⟨⟨by omega,by omega⟩,by rw[zbp];omega,?_⟩;rw[zhT];refine zew (λ(k:Nat)=>D.int (k:Int)) D.int (λ_ h=>0<=h) _ [] (λk hk qo hy=>⟨rfl,rfl,zaJ hw.1 hw.2 λh h0 h1=>hy h h0⟩) zdY λhts hhl hh0=>?_;rw[YBC]at hhl;rw[YA4];refine⟨⟨by omega,by omega⟩,by rw[zbp];omega,?_⟩;rw[zhT];refine zew (λ(k:Nat)=>D.int (k:Int)) D.int (λk h=>k<10/\0<=h/\h<10\/10<=k) _ [] (λk hk qo hy=>⟨rfl,rfl,zaJ (by decide) (by decide) λh h0 h1=>⟨zay _ _,ite2 (λ_=>?_) (λ_=>?_)⟩⟩) zdY λnms hnl hn0=>?_
 .refine⟨.inl ⟨by decide,by decide⟩,by decide,hy _ ?_⟩;by_cases hk10:k<10
  .exact .inl ⟨hk10,by omega,by omega⟩
  .exact .inr (by omega)
 .refine hy _ ?_;by_cases hk10:k<10
  .exact .inl ⟨hk10,by omega,by omega⟩
  .exact .inr (by omega)
 rw[YBC]at hnl;rw[YA4];have hnm:∀h∈nms,0<=h/\h<10:=λh hh=>by
  obtain⟨k,hk,q⟩:=hn0 h hh;have hk:=YBc.mp hk;rcases q with q|q
  .exact q.2
  .omega
 refine⟨rfl,zaJ (by decide) (by decide) λu u0 u1=>⟨⟨by omega,by omega⟩,by rw[zbp];omega,?_⟩⟩;rw[zhT];refine zew (λ(k:Nat)=>D.int (k:Int)) D.int (λ_ h=>h∈nms) _ [] (λk hk qo hy=>⟨rfl,rfl,zaJ (by omega) (by omega) λh h0 h1=>zb9 (hs:=nms) h0 (by omega) (hy _ (zmb h0 (by omega)))⟩) zdY λfns hfl hf0=>?_;rw[YBC]at hfl;rw[YA4];refine⟨fns,rfl,by omega,?_⟩;have hf1:∀h∈zbw fns,h∈nms:=λh hh=>by
  obtain⟨k,_,q⟩:=hf0 h ((za6 fns h).mp hh);exact q
 have hfl3:(zbw fns).length<=3:=YAQ (zdd fns) (by omega);have hup:=zbl fns;generalize hfs:zbw fns=fs at hf1 hfl3 hup;refine⟨rfl,zaJ (by decide) (by decide) λbad bad0 bad1=>?_⟩;refine⟨by show 0<=100000;decide,rfl,zaJ (by omega) (by omega) λv v0 v1=>?_⟩;have hrun:∀(b:Bool),CMul v (if b then 1 else 0):=λb=>.inl ⟨by omega,by omega⟩;refine⟨hrun _,⟨by split<;>omega,by split<;>omega⟩,?_⟩;refine zaY (λrest Z=>∃(rs:List Rn)(s12 s13 s14 s15 s16:Sl),Z=[.val .box,.val (.int mm),.val (.int mh),.val (.int mr),.val (.int (1+x)),.val (.int (1+y)),.val (.int wide),.val (.lst true (hts.map D.int)),.val (.lst true (nms.map D.int)),.val (.lst true (fs.map D.int)),.val (.int (1+bad)),.own (rs.map runD),s12,s13,s14,s15,s16] /\
  (rs.length:Int)+rest.length<=mr/\(rest=[]\/1<1+x)/\InM (1+x) rs/\(∀r∈rs,r.one≠r.qe)/\(∀r∈rs,r.hand∈nms)/\∀r∈rs,r.hand∉fs->r.rise=gI hts r.qe-gI hts r.one) ?_ ?_ _ _ ?_
 .rintro k rest Z E' hn hc hr hb ⟨rs,s12,s13,s14,s15,s16,rfl,hlen,hx,hin,hap,hnms,htr⟩;have hx:1<1+x:=hx.elim (λz=>by cases z) id;refine⟨rfl,zaJ (by omega) (by omega) λone o0 o1=>?_⟩;refine⟨rfl,zaJ (by omega) (by omega) λst t0 t1=>⟨by omega,?_⟩⟩;have q0:0<=(one+1+st) % (1+x):=YBQ _ (by omega);have q1:(one+1+st) % (1+x)<1+x:=YBy _ (by omega);have qne:one≠(one+1+st) % (1+x):=λe=>by
   have e1:=Int.emod_emod_of_dvd (one+1+st) (Int.dvd_refl (1+x));by_cases hlt:one+1+st<1+x
   .rw[Int.emod_eq_of_lt (by omega) hlt]at e;omega
   .have:(one+1+st) % (1+x)=one+1+st-(1+x):=by
     rw[<-Int.sub_emod_right,Int.emod_eq_of_lt (by omega) (by omega)]
    omega
  generalize (one+1+st) % (1+x)=qe at q0 q1 qne;refine⟨rfl,zaJ (by omega) (by omega) λhi h0 h1=>zb9 (hs:=nms) h0 (by omega) ?_⟩;have hm:=zmb (hs:=nms) h0 (by omega);generalize gI nms hi=hand at hm;refine zb9 (hs:=hts) q0 (by omega) (zb9 (hs:=hts) o0 (by omega) ?_);have app:∀(rise:Int)(s16:Sl),(hand∉fs->rise=gI hts qe-gI hts one)->s16=.val (.int rise)->appW 11 (tupW (zab (vW 13) (zab (vW 14) (zab (vW 16) (zab (vW 15) nilA))))) E' [.val .box,.val (.int mm),.val (.int mh),.val (.int mr),.val (.int (1+x)),.val (.int (1+y)),.val (.int wide),.val (.lst true (hts.map D.int)),.val (.lst true (nms.map D.int)),.val (.lst true (fs.map D.int)),.val (.int (1+bad)),.own (rs.map runD),.val k,.val (.int one),.val (.int qe),.val (.int hand),s16]:=by
   intro rise s16 hrise hs16;subst hs16;have hl:rs.length<100000:=by omega
   refine⟨by show 4<=100000;decide,by simpa using hl,hn _ ⟨rs++[⟨0,one,qe,rise,hand⟩],_,_,_,_,_,by rw[YAx];rfl,?_,.inr hx,?_,?_,?_,?_⟩⟩
   .rw[YAK]at hlen;rw[YAo];simp;omega
   .intro r hr;rcases YAm.mp hr with e|e
    .exact hin r e
    .rw[YAg.mp e];exact⟨o0,o1,q0,q1⟩
   .intro r hr;rcases YAm.mp hr with e|e
    .exact hap r e
    .rw[YAg.mp e];exact qne
   .intro r hr;rcases YAm.mp hr with e|e
    .exact hnms r e
    .rw[YAg.mp e];exact hm
   .intro r hr;rcases YAm.mp hr with e|e
    .exact htr r e
    .rw[YAg.mp e];exact hrise
  refine⟨zcJ _ _,?_⟩;show if (if false=true then !inB (.int hand) (fs.map D.int)else inB (.int hand) (fs.map D.int))=true then _ else _;rw[show(if false=true then !inB (.int hand) (fs.map D.int)else inB (.int hand) (fs.map D.int))=fs.contains hand from zcV _ _];cases hc:fs.contains hand with
  |false=>exact app _ _ (λ_=>rfl) rfl
  |true=>
   have hmem:hand∈fs:=by simpa using hc
   refine⟨rfl,zaJ (by decide) (by decide) λdr d0 d1=>ite2 (λ_=>?_) (λ_=>?_)⟩
   .refine⟨rfl,zaS (zgx _) λd ⟨rise,hd⟩=>?_⟩;subst hd;exact app rise _ (λz=>absurd hmem z) rfl
   .exact app _ _ (λz=>absurd hmem z) rfl
 .rintro Z ⟨rs,s12,s13,s14,s15,s16,rfl,hlen,hx,hin,hap,hnms,htr⟩;refine⟨by show 4<=100000;decide,1+x,rs,hts,fs,rfl,by omega,by omega,by simpa using hlen,hin,hap,λr hr=>hnm _ (hnms r hr),⟨nms,by omega,hnms⟩,by omega,λh hh=>?_,hup,hfl3,λh hh=>hnm h (hf1 h hh),htr⟩;obtain⟨_,_,q⟩:=hh0 h hh;exact q
 .refine⟨[],.un,.un,.un,.un,.un,by rw[<-hfs];rfl,?_,?_,(λr h=>by cases h),(λr h=>by cases h),(λr h=>by cases h),(λr h=>by cases h)⟩
  .rw[zbp];show((0:Nat):Int)+_<=_;split<;>omega
  .by_cases h:(1:Int)<1+x
   .exact .inr h
   .left;rw[if_neg (by simpa using h)];simp[rngL]
end Fd
namespace Fen
open PySem L2
def Er(rs qs:List Run):Prop:=rs.map zcw=qs.map zcw
theorem Er.symm(h:Er rs qs):Er qs rs:=Eq.symm h
def Er.len(h:Er rs qs):rs.length=qs.length:=by have:=congrArg List.length h;simpa using this
def zbZ(h:zcw r=zcw q):r.one=q.one/\r.qe=q.qe/\r.rise=q.rise/\r.hand=q.hand:=by
 unfold zcw at h;simp only[Prod.mk.injEq]at h;exact h
def Er.mem(h:Er rs qs)(hr:r∈rs):∃q∈qs,zcw q=zcw r:=by
 have:zcw r∈qs.map zcw:=by rw[<-h];exact YAG hr
 obtain⟨q,hq,e⟩:=YAF.mp this;exact⟨q,hq,e⟩
def Er.get{rs qs:List Run}(h:Er rs qs){i:Nat}{r:Run}(hr:rs[i]?=some r):∃q,qs[i]?=some q/\zcw q=zcw r:=by
 have e:(qs.map zcw)[i]?=some (zcw r):=by rw[<-h,YAq,hr];rfl
 rw[YAq]at e;cases z:qs[i]? with
 |none=>rw[z]at e;cases e
 |some q=>rw[z]at e;exact⟨q,rfl,Option.some.inj e⟩
def Er.conn(h:Er rs qs)(c:Conn rs i j):Conn qs i j:=by
 induction c with
 |refl=>exact .refl _
 |go r c m e ih=>
  obtain⟨q,hq,eq⟩:=h.mem m;obtain⟨e1,e2,_,_⟩:=zbZ eq;exact .go q ih hq (by rw[e1,e2];exact e)
def Er.conn_iff(h:Er rs qs)(i j:Int):Conn rs i j↔Conn qs i j:=⟨h.conn,h.symm.conn⟩
def Er.htOk(h:Er rs qs)(x:HtOk rs hts):HtOk qs hts:=λq hq=>by
 obtain⟨r,hr,e⟩:=h.symm.mem hq;obtain⟨e1,e2,e3,_⟩:=zbZ e
 have:=x r hr
 rw[e1,e2,e3]at this;exact this
def Er.noHts(h:Er rs qs)(x:zfX rs):zfX qs:=λf hf=>x f λr hr=>by
 obtain⟨q,hq,e⟩:=h.mem hr;obtain⟨e1,e2,e3,_⟩:=zbZ e;rw[<-e1,<-e2,<-e3];exact hf q hq
def Er.inMarks(h:Er rs qs)(x:zaE n rs):zaE n qs:=λq hq=>by
 obtain⟨r,hr,e⟩:=h.symm.mem hq;obtain⟨e1,e2,_,_⟩:=zbZ e;rw[<-e1,<-e2];exact x r hr
def Er.flatOk(h:Er rs qs)(x:zdG n rs hts):zdG n qs hts:=
 ⟨x.1,h.htOk x.2.1,λm m0 m1 k=>x.2.2 m m0 m1 λj j0 j1 c=>k j j0 j1 (h.conn c)⟩
def Er.cons{r q:Run}{rs qs:List Run}(h:Er (r::rs) (q::qs)):zcw r=zcw q/\Er rs qs:=by
 unfold Er at h;rw[YAb,YAb]at h;injection h with h1 h2
 exact⟨h1,h2⟩
theorem Er.usable:∀{rs qs:List Run}(hs:List Int),Er rs qs->Er (usable hs rs) (usable hs qs)
 |[],[],_,_=>rfl
 |[],_::_,_,h=>by cases h
 |_::_,[],_,h=>by cases h
 |r::rs,q::qs,hs,h=>by
  obtain⟨h1,h2⟩:=h.cons;have ih:=Er.usable hs h2;unfold Fen.usable at ih ⊢;obtain⟨_,_,_,e⟩:=zbZ h1;rw[YBb,YBb,e];split
  .unfold Er;rw[YAb,YAb,h1,ih]
  .exact ih
theorem Er.runAt{rs qs:List Run}(h:Er rs qs)(i:Int):zcw (Fen.runAt rs i)=zcw (Fen.runAt qs i):=by
 unfold Fen.runAt;rw[YAt,YAt];cases e:rs[i.toNat]? with
 |none=>
  have:qs[i.toNat]?=none:=by
   rw[YB3]at e ⊢;rw[<-h.len];exact e
  rw[this]
 |some r=>
  obtain⟨q,e2,eq⟩:=h.get e;rw[e2];exact eq.symm
def zlr(h:zcw r=zcw q)(m:Int):zbn r m=zbn q m:=by
 obtain⟨e1,e2,e3,_⟩:=zbZ h;unfold zbn;rw[e1,e2,e3]
theorem Er.walkF(h:Er rs qs):∀(qj t:Int)(l:List Int),Fen.walkF rs qj t l=Fen.walkF qs qj t l
 |_,_,[]=>rfl
 |qj,t,n::rest=>by
  unfold Fen.walkF;rw[h.len,zlr (h.runAt n) qj];split
  .split
   .exact h.walkF _ _ rest
   .rfl
  .rfl
theorem Er.stepsF{rs qs:List Run}(h:Er rs qs)(hs:List Int):∀(k m:Nat),Fen.stepsF rs hs k m=Fen.stepsF qs hs k m
 |0,_=>rfl
 |k+1,m=>by
  unfold Fen.stepsF;rw[h.stepsF hs k m];cases e:rs[k]? with
  |none=>
   have:qs[k]?=none:=by rw[YB3]at e ⊢;rw[<-h.len];exact e
   rw[this]
  |some r=>
   obtain⟨q,e2,eq⟩:=h.get e;obtain⟨e1,e3,e4,e5⟩:=zbZ eq;rw[e2];simp only[e1,e3,e4,e5]
def Er.treeOk{rs qs:List Run}(h:Er rs qs){hs:List Int}{start:Int}{n:Nat}{ns:List Nd}(x:TreeOk rs hs start n ns):TreeOk qs hs start n ns where
 nod:=x.nod
 inm:=x.inm
 walk:=λy hy=>by rw[<-h.walkF];exact x.walk y hy
 runs:=λy hy z hz=>by
  obtain⟨a,b,c,d,e⟩:=x.runs y hy z hz;obtain⟨e1,e2,_,e4⟩:=zbZ (h.runAt z);rw[<-e4,<-e1,<-e2,<-h.len];exact⟨a,b,c,d,e⟩
 uniq:=x.uniq
 start:=x.start
 few:=x.few
 keep:=λy hy z hz=>by
  obtain⟨u,hu,v,hv,a,b,c⟩:=x.keep y hy z hz;obtain⟨e1,e2,e3,_⟩:=zbZ (h.runAt z);exact⟨u,hu,v,hv,by rw[<-e1];exact a,by rw[<-e2];exact b,by rw[<-e3];exact c⟩
def Er.firsts(h:Er rs qs)(x:Firsts n rs sts):Firsts n qs sts:=
 ⟨x.1,λm=>(x.2 m).trans ⟨λ⟨a,b,c⟩=>⟨a,b,λj j0 j1 z=>c j j0 j1 (h.symm.conn z)⟩,λ⟨a,b,c⟩=>⟨a,b,λj j0 j1 z=>c j j0 j1 (h.conn z)⟩⟩⟩
theorem Er.ringF :∀{rs qs:List Run}(i:Nat),Er rs qs->Fen.ringF cs hs i rs=Fen.ringF cs hs i qs
 |[],[],_,_=>rfl
 |[],_::_,_,h=>by cases h
 |_::_,[],_,h=>by cases h
 |r::rs,q::qs,i,h=>by
  obtain⟨h1,h2⟩:=h.cons;obtain⟨e1,e2,e3,e4⟩:=zbZ h1;rw[zeH,zeH,e1,e2,e3,e4,Er.ringF (i+1) h2]
def Er.treeAt(h:Er rs qs)(x:TreeAt K H n rs hs t):TreeAt K H n qs hs t where
 th:=x.th
 tok:=h.treeOk x.tok
 keys:=λj=>(x.keys j).trans ((h.usable hs).conn_iff _ _)
 is:=by
  have e:Fen.stepsF rs hs rs.length=Fen.stepsF qs hs qs.length:=by
   funext m;rw[h.stepsF hs,h.len]
  rw[<-e];exact x.is
 b0:=x.b0
 b1:=x.b1
def Er.reach(h:Er rs qs)(x:Reach K H n rs hs ts):Reach K H n qs hs ts:=
 ⟨λt ht=>h.treeAt (x.trees t ht),(h.usable hs).firsts x.firsts,x.nod⟩
def LineIs(n:Nat)(rs:List Run)(hs:List Int)(one qe:Int)(o:Option (List Int)):Prop:=
 ∃ns:List Nd,TreeOk rs hs one n ns/\TreeIs (stepsF rs hs rs.length) one (ns.map zbb)/\(∀j,j∈zax ns↔Conn (usable hs rs) one j)/\((o=none/\qe∉zax ns)\/∃x∈ns,x.m=qe/\o=some x.line)
theorem LineIs.uniq(h1:LineIs n rs hs one qe o)(h2:LineIs n rs hs one qe p):o=p:=by
 obtain⟨ns,a1,b1,c1,d1⟩:=h1;obtain⟨ms,a2,b2,c2,d2⟩:=h2;have e:=b1.uniq b2;rcases d1 with⟨rfl,k1⟩|⟨x,hx,ex,rfl⟩
 .rcases d2 with⟨rfl,_⟩|⟨y,hy,ey,rfl⟩
  .rfl
  .exact absurd ((c1 qe).mpr ((c2 qe).mp (ey▸YAG hy))) k1
 .rcases d2 with⟨rfl,k2⟩|⟨y,hy,ey,rfl⟩
  .exact absurd ((c2 qe).mpr ((c1 qe).mp (ex▸YAG hx))) k2
  .have q1:=zfJ a1.nod hx ex;have q2:=zfJ a2.nod hy ey;rw[e]at q1
   have:=q1.trans q2.symm
   unfold zbb at this;simp only[Prod.mk.injEq]at this;rw[this.2.2]
def LineIs.none_iff(h:LineIs n rs hs one qe o):o=none↔¬ Conn (usable hs rs) one qe:=by
 obtain⟨ns,a,b,c,d⟩:=h;rcases d with⟨rfl,k⟩|⟨x,hx,ex,rfl⟩
 .exact⟨λ_ z=>k ((c qe).mpr z),λ_=>rfl⟩
 .refine⟨(λz=>by cases z),λz=>absurd ((c qe).mp (ex▸YAG hx)) z⟩
theorem LineIs.some(h:LineIs n rs hs one qe (some l)) :
  (∃t,walkF rs one 0 l=some (qe,t))/\l.Nodup/\(∀z∈l,0<=z/\z<(rs.length:Int)/\hs.contains (runAt rs z).hand=false)/\l.length<=n:=by
 obtain⟨ns,a,b,c,d⟩:=h;rcases d with⟨e,_⟩|⟨x,hx,ex,e⟩
 .cases e
 .cases e;refine⟨⟨x.h,by rw[<-ex];exact a.walk x hx⟩,a.lineNodup hx,λz hz=>let⟨p,q,r,_⟩:=a.runs x hx z hz;⟨p,q,r⟩,?_⟩;have l1:=a.few x hx;have l2:ns.length<=n:=by
   have hk:(zax ns).length=ns.length:=by unfold zax;simp
   have hin:∀k∈zax ns,0<=k/\k<n:=λk hk=>by
    obtain⟨y,hy,e⟩:=YAF.mp hk;rw[<-e];exact a.inm y hy
   have hd:∀k∈zax ns,k∈(List.range n).map Int.ofNat:=λk hk=>by
    obtain⟨k0,k1⟩:=hin k hk;refine YAF.mpr ⟨k.toNat,YBc.mpr (by omega),?_⟩;show((k.toNat:Nat):Int)=k;omega
   have:=zaB (ks:=zax ns) (xs:=(List.range n).map Int.ofNat) a.nod hd
   rw[YAc,YBC]at this;omega
  omega
def RingIs(n:Nat)(rs:List Run)(hs:List Int)(o:Option (Int×List Int)):Prop:=∃K H ts,Reach K H n rs hs ts/\o=ringF ((zbc ts).map zbb) hs 0 rs
def zjK(x:Reach K H n rs hs ts)(y:Reach K' H' n rs hs us):(zbc ts).map zbb=(zbc us).map zbb:=by
 have e:=x.firsts.uniq y.firsts;have hl:ts.length=us.length:=by rw[<-YAc TR.st,e,YAc]
 have e2:ts.map (λt=>t.ns.map zbb)=us.map (λt=>t.ns.map zbb):=by
  apply YBU
  .rw[YAc,YAc,hl]
  .intro i h1 h2;rw[YAc]at h1 h2;rw[YBV,YBV];have hs1:ts[i].st=us[i].st:=by
    have:(ts.map TR.st)[i]?=(us.map TR.st)[i]?:=by rw[e]
    rw[YAq,YAq,YAe h1,YAe h2]at this;exact Option.some.inj this
   have t1:=(x.trees _ (YBT h1)).is;have t2:=(y.trees _ (YBT h2)).is;rw[<-hs1]at t2;exact t1.uniq t2
 have g:∀l:List TR,(zbc l).map zbb=(l.map (λt=>t.ns.map zbb)).flatten:=λl=>by
  unfold zbc;rw[YCQ,List.flatMap_def]
 rw[g,g,e2]
def RingIs.uniq(h1:RingIs n rs hs o)(h2:RingIs n rs hs p):o=p:=by
 obtain⟨K,H,ts,a,rfl⟩:=h1;obtain⟨K',H',us,b,rfl⟩:=h2;rw[zjK a b]
theorem RingIs.some(h:RingIs n rs hs (some (m,line)))(VM:zaE n rs)(hn:n<=40)(hu:∀r∈rs,r.one≠r.qe) :
  0<=m/\m<n/\line≠[]/\line.length<=90/\line.Nodup/\(∀z∈line,0<=z/\z<(rs.length:Int)/\hs.contains (runAt rs z).hand=false)/\∃t,walkF rs m 0 line=some (m,t)/\t≠0:=by
 obtain⟨K,H,ts,a,e⟩:=h;exact zpP a VM hn hu e.symm
def Er.ringIs(h:Er rs qs)(x:RingIs n rs hs o):RingIs n qs hs o:=by
 obtain⟨K,H,ts,a,rfl⟩:=x;exact⟨K,H,ts,h.reach a,Er.ringF 0 h⟩
def Er.lineIs(h:Er rs qs)(x:LineIs n rs hs one qe o):LineIs n qs hs one qe o:=by
 obtain⟨ns,a,b,c,d⟩:=x;have e:Fen.stepsF rs hs rs.length=Fen.stepsF qs hs qs.length:=by
  funext m;rw[h.stepsF hs,h.len]
 exact⟨ns,h.treeOk a,e▸b,λj=>(c j).trans ((h.usable hs).conn_iff _ _),d⟩
def zkC(n:Nat)(rs:List Run)(gs:List (List Int)):Prop:=∃ds:List GR,(∀g∈ds,zqA n rs g)/\Firsts n rs (ds.map GR.st)/\gs=ds.map GR.ms
def Er.grpsIs(h:Er rs qs)(x:zkC n rs gs):zkC n qs gs:=by
 obtain⟨ds,a,b,c⟩:=x;exact⟨ds,λg hg=>⟨(a g hg).1,λj=>((a g hg).2 j).trans ⟨λ⟨p,q,r⟩=>⟨p,q,h.conn r⟩,λ⟨p,q,r⟩=>⟨p,q,h.symm.conn r⟩⟩⟩,h.firsts b,c⟩
end Fen
namespace Fd
open PySem L2
def zrn:Option (List Int)->D
 |none=>.non
 |some l=>.tup (l.map D.int)
def zrm:Option (Int×List Int)->D
 |none=>.non
 |some ml=>.tup [.int ml.1,.tup (ml.2.map D.int)]
def zc0:Fn:=λds Q=>∃(n:Nat)(a b:Bool)(rs:List Rn)(hs:List Int)(one qe:Int),ds=[.int n,.lst a (rs.map runD),.lst b (hs.map D.int),.int one,.int qe]/\Fen.zaE n rs/\0<=one/\one<n/\n<=1000/\rs.length<=1000/\∀o,Fen.LineIs n rs hs one qe o->Q (zrn o)
def zcP:Fn:=λds Q=>∃(n:Nat)(a b:Bool)(rs:List Rn)(hs:List Int),ds=[.int n,.lst a (rs.map runD),.lst b (hs.map D.int)]/\Fen.zaE n rs/\n<=40/\rs.length<=1000/\∀o,Fen.RingIs n rs hs o->Q (zrm o)
def ze0:Fn:=λds Q=>∃(n:Nat)(a:Bool)(rs:List Rn),ds=[.int n,.lst a (rs.map runD)]/\Fen.zaE n rs/\n<=1000/\rs.length<=1000/\(Fen.zfX rs->Q .non)/\∀hts,Fen.zdG n rs hts->Q (.lst true (hts.map D.int))
def zfr:Fn:=λds Q=>∃(n:Nat)(a:Bool)(rs:List Rn),ds=[.int n,.lst a (rs.map runD)]/\Fen.zaE n rs/\n<=60/\rs.length<=1000/\∀gs,Fen.zkC n rs gs->Q (.lst true (gs.map λg=>.lst true (g.map D.int)))
theorem zdr :∀{rs:List Rn}{vs:List V},Reps c G (rs.map runD) vs->∃rs':List Rn,vs=rs'.map Fen.runV/\Fen.Runs c.K G rs'/\Fen.Er rs' rs
 |[],vs,h=>by cases h;exact⟨[],rfl,(λr hr=>by cases hr),rfl⟩
 |r::rs,vs,⟨v,ws,e,h1,h2⟩=>by
  obtain⟨rs',e1,e2,e3⟩:=zdr h2;obtain⟨a,us,ea,ha,hu⟩:=h1;obtain⟨u1,u2,eu,i1,j1⟩:=hu;obtain⟨u3,u4,eu2,i2,j2⟩:=j1;obtain⟨u5,u6,eu3,i3,j3⟩:=j2;obtain⟨u7,u8,eu4,i4,j4⟩:=j3;cases i1;cases i2;cases i3;cases i4;cases j4;subst eu4 eu3 eu2 eu;refine⟨{r with p:=a}::rs',?_,?_,?_⟩
  .rw[e,ea,e1];rfl
  .intro q hq;rcases YAk.mp hq with rfl|hq
   .exact ha
   .exact e2 q hq
  .show List.map _ _=List.map _ _;rw[YAb,YAb,show rs'.map Fen.zcw=rs.map Fen.zcw from e3];rfl
def zff(G H':Hp)(nl:Addr->Prop)[DecidablePred nl]:Hp:=λa=>match G a with
 |some o=>some o
 |none=>if nl a then H' a else match H' a with
  |some (.tup xs)=>some (.tup xs)
  |some (.frz o b)=>some (.frz o b)
  |_=>none
def zdg[DecidablePred nl](gh:Same G H)(bx:BoxD β H G)(S:Same H H')(hn:∀a,nl a->H a=none):Stp β H G H' (zff G H' nl)where
 bc:=λcc p r d h=>⟨p,r,d,S _ _ h⟩
 gg:=λa o e=>by unfold zff;rw[e]
 gh:=λa o e=>by
  unfold zff at e;cases z:G a with
  |some u=>rw[z]at e;cases e;exact S _ _ (gh _ _ z)
  |none=>
   rw[z]at e;simp only at e;split at e
   .exact e
   .split at e
    .cases e;assumption
    .cases e;assumption
    .cases e
 fr:=λa o _ e=>S a o e
 nw:=λa e=>by
  unfold zff at e;cases z:G a with
  |some u=>exact .inl (λw=>by cases w)
  |none=>
   rw[z]at e;simp only at e;refine .inr ?_;split at e
   .exact .inl (hn a (by assumption))
   .cases y:H a with
    |none=>exact .inl rfl
    |some o=>
     have:=S a o y
     rw[this]at e;refine .inr ⟨o,rfl,?_⟩;cases o<;>first|trivial|exact(e rfl)
 bx:=by
  obtain⟨cc,p,r,d,ns,h,a,b,c,f,g,i⟩:=bx.ex;refine⟨⟨cc,p,r,d,ns,S _ _ h,a,b,c,f,by unfold zff;rw[g],i⟩,?_⟩;unfold zff;rw[bx.still];simp only;rw[if_neg (λz=>by rw[hn _ z]at h;cases h),S _ _ h];rfl
 b0:=λz=>by obtain⟨o,h⟩:=bx.at;rw[z]at h;cases h
def zfS[DecidablePred nl](gh:Same G H')(h:SqT K H' a vs):SqT K (zff G H' nl) a vs:=by
 rcases h with h|h
 .rcases h with h|⟨o,h⟩
  .refine .inl (.inl ?_);unfold zff;cases z:G a with
   |some u=>simp only;rw[<-h,gh _ _ z]
   |none=>simp only;rw[h];split<;>rfl
  .refine .inl (.inr ⟨o,?_⟩);unfold zff;cases z:G a with
   |some u=>simp only;rw[<-h,gh _ _ z]
   |none=>simp only;rw[h];split<;>rfl
 .exact .inr h
def zfC[DecidablePred nl](gh:Same G H')(hn:nl a)(h:H' a=some o):zff G H' nl a=some o:=by
 unfold zff;cases z:G a with
 |some u=>simp only;rw[<-h,gh _ _ z]
 |none=>simp only;rw[if_pos hn,h]
def zeQ(h:Rep c G (.lst n xs) v):∃a vs,v=.ref a/\G a=some (.lst vs)/\Reps c G xs vs:=by
 obtain⟨a,vs,h1,h2,_,h3⟩:=h;exact⟨a,vs,h1,h2,h3⟩
def zi9{c:Bk}{G:Hp}{a:Addr}{ns:List Int}(h:SqT c.K G a (ns.map V.int)):Rep c G (.tup (ns.map D.int)) (.ref a):=⟨a,_,rfl,h,reps_ints.mpr rfl⟩
noncomputable def zbx:Fn:=fnW 11 ((seqW (ownW 2 (zkY (vW 0)))
  (seqW (ownW 3 (mulL (valW (lstW (zab (kW (.int 0)) nilA))) (vW 0)))
  (seqW (forW (seqI (vW 1)) (.tp 4 (.cons (.nm 4) (.cons (.nm 5) (.cons (.nm 6) (.cons (.nm 7) .nil))))) (seqW (asgW (.nm 8) (binW subD (binW addD (ixvW 3 (vW 4)) (vW 6)) (ixvW 3 (vW 5))))
  (ifS (blW (binW eqD (ixvW 2 (vW 4)) (ixvW 2 (vW 5)))) (ifS (blW (binW neD (vW 8) (kW (.int 0)))) (retW (kW .non)) nilS) (seqW (asgW (.nm 9) (valW (lstW (zab (ixvW 2 (vW 4)) (zab (ixvW 2 (vW 5)) nilA)))))
  (forW (zfc (vW 0)) (.nm 10) (ifS (blW (binW eqD (ixvW 2 (vW 10)) (ixvW 9 (kW (.int 1))))) (seqW (putW 2 (vW 10) (ixvW 9 (kW (.int 0))))
  (zgj 3 (vW 10) (vW 8))) nilS))))))
  (frzW 3 (frzW 2 (retW (tupW (zab (vW 2) (zab (vW 3) nilA))))))))))
theorem zdU:∀xs ys:List Int,PyData.eqvAll (zb3 (xs.map D.int)) (zb3 (ys.map D.int))=decide (xs=ys)
 |[],[]=>rfl
 |[],_::_=>by simp[zb3,PyData.eqvAll]
 |_::_,[]=>by simp[zb3,PyData.eqvAll]
 |x::xs,y::ys=>by
  rw[YAb,YAb,zb3,zb3,PyData.eqvAll,zdU xs ys];show((x==y)&&_)=_;by_cases h:x=y<;>by_cases h2:xs=ys<;>simp[h,h2]
def zkx(a b:Bool)(xs ys:List Int):eqB (.lst a (xs.map D.int)) (.lst b (ys.map D.int))=decide (xs=ys):=by
 unfold eqB toPy;rw[PyData.eqv];exact zdU xs ys
def zfF(a b:Bool)(xs ys:List Int):eqOk (.lst a (xs.map D.int)) (.lst b (ys.map D.int)):=by
 refine⟨by unfold layD;exact zcr xs,by unfold layD;exact zcr ys,?_⟩;unfold toPy PyData.depth;rw[zdz,zdz];decide
mutual
theorem zoX:∀d:D,PyData.eqv (toPy d) (toPy d)=true
 |.non=>by unfold toPy;rfl
 |.bl b=>by unfold toPy;rw[PyData.eqv];simp
 |.int b=>by unfold toPy;rw[PyData.eqv];simp
 |.str b=>by unfold toPy;rw[PyData.eqv];simp
 |.box=>by unfold toPy;rfl
 |.tup xs=>by unfold toPy;rw[PyData.eqv];exact zer xs
 |.lst _ xs=>by unfold toPy;rw[PyData.eqv];exact zer xs
theorem zer:∀xs:List D,PyData.eqvAll (zb3 xs) (zb3 xs)=true
 |[]=>rfl
 |x::xs=>by rw[zb3,PyData.eqvAll,zoX x,zer xs];rfl
end
def zot(r:Rn):toPy (runD r)=.tuple [.int r.one,.int r.qe,.int r.rise,.int r.hand]:=rfl
theorem zhL:∀rs:List Rn,zcH (rs.map runD)=true
 |[]=>rfl
 |r::rs=>by rw[YAb,zcH,zhL rs];rfl
theorem zkR:∀rs:List Rn,PyData.depthAll (zb3 (rs.map runD))<=1
 |[]=>by simp[zb3,PyData.depthAll]
 |r::rs=>by
  rw[YAb,zb3,PyData.depthAll,zot]
  have:=zkR rs
  simp only[PyData.depth,PyData.depthAll];omega
def zmS(a b:Bool)(rs ss:List Rn):eqOk (.lst a (rs.map runD)) (.lst b (ss.map runD)):=by
 refine⟨by unfold layD;exact zhL rs,by unfold layD;exact zhL ss,?_⟩
 have:=zkR rs
 unfold toPy PyData.depth;omega
def zoy(a b:Bool)(rs:List Rn):eqB (.lst a (rs.map runD)) (.lst b (rs.map runD))=true:=by unfold eqB toPy;rw[PyData.eqv];exact zer _
def zj1(fs:List Int):zgn fs=decide (fs=zbw fs):=by
 by_cases h:fs=zbw fs
 .rw[YAw h,zei,h];exact zbl fs
 .rw[YAC h];cases e:zgn fs with
  |false=>rfl
  |true=>exact absurd (zqs ((zei fs).mp e) λk=>Iff.rfl) h
def zeJ(a b c:Bool)(size qf:Int)(rs:List Rn)(fs hs:List Int)(hl:rs.length<64)(hf:fs.length<64)(hh:hs.length<=1000)(hm:InM size rs) :
  zbo [.int size,.lst a (rs.map runD),.int qf,.tup [.lst b (fs.map D.int),.lst c (hs.map D.int)]] (·=.bl (zhv size rs qf fs hs)):=by
 unfold zbo fnW zaF;rw[YAb,YAb,YAb,YAb,zaM,zdw,zbm,zbm,zal,zal];refine⟨zay _ _,rfl,rfl,zaS (zc5 _ fs _ (by omega)) λd hd=>?_⟩;have hd:d=.bl true:=by rw[hd,YAc,YAw rfl]
 subst hd;refine⟨rfl,zaS (zc5 _ hs size hh) λd hd=>?_⟩;subst hd;cases hz:decide ((hs.length:Int)=size)with
 |false=>
  show D.bl false=_;unfold zhv;rw[hz,YDX];rfl
 |true=>
  show if decide (qf<((fs.map D.int).length:Int))=true then _ else _;rw[YAc];have hz':=YA3 hz;by_cases hmn:qf<(fs.length:Int)
  .rw[YAw hmn];show D.bl false=_;unfold zhv;rw[YAC (by omega)];rfl
  .rw[YAC hmn];refine⟨fs,rfl,hf,zfF _ _ _ _,?_⟩;show if (!eqB (.lst false (fs.map D.int)) (.lst true ((zbw fs).map D.int)))=true then _ else _;rw[zkx,<-zj1];cases hg:zgn fs with
   |false=>
    show D.bl false=_;unfold zhv;rw[hg,YDX];rfl
   |true=>
    refine⟨by simp;omega,zaX D.int (λh=>.bl ((zap rs).contains h)) fs (λx hx qo N y=>⟨rfl,zaS (zcz _ rs hl) λd hd=>?_⟩) ?_⟩
    .subst hd;exact zm7 y
    refine zcS (n:=true) (f:=λh=>(zap rs).contains h) (xs:=fs) ?_;cases ha:fs.all λh=>(zap rs).contains h with
    |false=>
     show D.bl false=_;unfold zhv;rw[ha,YDX];rfl
    |true=>
     refine⟨rfl,zaS (zea _ _ rs fs (by omega)) λd hd=>?_⟩;subst hd;have ll:=zes rs fs;refine⟨by simp;omega,zaX runD (λr=>.bl (zgu hs r)) _ (λr hr qo N y=>?_) ?_⟩
     .obtain⟨h1,h2,h3,h4⟩:=zkG hm fs r hr;refine zb9 h3 (by omega) (zb9 h1 (by omega) (zqX ?_));exact y
     .refine zcS (n:=true) (f:=zgu hs) (xs:=zaL rs fs) ?_;show D.bl _=_;unfold zhv;rw[hg,ha,hz,YAw (by omega)];rfl
def ziM(a b:Bool)(xs ys:List Int):D.old (.tup [.lst a (xs.map D.int),.lst b (ys.map D.int)])=.tup [.lst false (xs.map D.int),.lst false (ys.map D.int)]:=by rw[zdw,zbm,zbm]
theorem ze8{α β:Type}(p:α->Bool)(f:α->β):∀xs:List α,xs.filterMap (λx=>if p x=true then some (f x)else none)=(xs.filter p).map f
 |[]=>rfl
 |x::xs=>by
  rw[YAY,YBb,ze8 p f xs];cases p x<;>rfl
def zoM{hs:List Int}{i:Int}{Q:Nat->Prop}(h0:0<=i)(h1:i<hs.length)(q:Q i.toNat):ixS (hs.map D.int) (.int i) Q:=by
 show(match ixN (hs.map D.int).length i with|some m=>Q m|none=>False);unfold ixN;rw[if_pos h0,YAc,if_pos h1];exact q
def znr(h0:0<=i)(h1:i<hs.length)(q:Q i.toNat (Fen.gI hs i)):getI (hs.map D.int) (.int i) Q:=by
 show(match (hs.map D.int)[i.toNat]? with|some (.int a)=>0<=i/\Q i.toNat a|_=>False);have hn:i.toNat<hs.length:=by omega
 have e:Fen.gI hs i=hs[i.toNat]:=by unfold Fen.gI;rw[YAt,YAe hn];rfl
 rw[YAq,YAe hn];rw[e]at q;exact⟨h0,q⟩
def zkc(hs:List Int)(m:Nat)(v:Int):(hs.map D.int).set m (.int v)=(hs.set m v).map D.int:=by rw[List.map_set]
def zaN(h0:0<=i)(h1:i<hs.length)(q:Q (.int (Fen.gI hs i))):itD (hs.map D.int) (.int i) Q:=zb9 h0 h1 q
def zmn{i:Nat}{I A:WE}{E:En}{Z:Env}{hs:List Int}{k b:Int}(h:Z[i]?=some (.own (hs.map D.int)))(hI:∀Q:D->Prop,Q (.int k)->I Z Q)(hA:∀Q:D->Prop,Q (.int b)->A Z Q)(k0:0<=k)(k1:k<hs.length)
  (q:E.nx (Z.set i (.own ((hs.set k.toNat (Fen.gI hs k+b)).map D.int)))):zgj i I A E Z:=by
 unfold zgj;rw[h];refine hI _ (znr k0 k1 (hA _ ?_));show E.nx _;rw[zkc];exact q
def zfb(a:Bool)(n:Nat)(rs:List Rn)(hn:n<=1000)(hm:Fen.zaE n rs) :
  zbx [.int n,.lst a (rs.map runD)] (λd=>(d=.non/\Fen.zfX rs)\/∃lab hts:List Int,d=.tup [.lst true (lab.map D.int),.lst true (hts.map D.int)]/\lab.length=n/\hts.length=n/\Fen.zgm n rs lab/\Fen.HtOk rs hts):=by
 unfold zbx fnW zaF;rw[YAb,YAb,zaM,zal];refine⟨⟨by omega,by omega⟩,by show 1<=100000;decide,⟨by omega,by omega,by show 1<=1000;decide⟩,?_⟩;have e1:((List.range (n:Int).toNat).map λ(k:Nat)=>D.int (k:Int))=((List.range n).map Int.ofNat).map D.int:=by rw[YAM,YAD];rfl
 have e2:(List.replicate (n:Int).toNat [D.int 0]).flatten=(List.replicate n (0:Int)).map D.int:=by
  rw[YAD,YDi];clear hn hm e1
  induction n with
  |zero=>rfl
  |succ n ih=>rw[YAT,YBm,ih,YAT];rfl
 refine zaY (λrest Z=>∃(done qi:List Rn)(lab hts:List Int)(s4 s5 s6 s7 s8 s9 s10:Sl),Z=[.val (.int n),.val (.lst false (rs.map runD)),.own (lab.map D.int),.own (hts.map D.int),s4,s5,s6,s7,s8,s9,s10] /\
  rest=qi.map runD/\rs=done++qi/\lab.length=n/\hts.length=n/\Fen.zgm n done lab/\Fen.HtOk done hts) ?_ ?_ _ _ ⟨[],rs,(List.range n).map Int.ofNat,List.replicate n 0,.un,.un,.un,.un,.un,.un,.un,by rw[<-e1,<-e2];rfl,rfl,rfl,by simp,by simp,(Fen.zi2 n).1,(Fen.zi2 n).2⟩
 .rintro x rest Z E' hn' hc hr hb ⟨done,qi,lab,hts,s4,s5,s6,s7,s8,s9,s10,rfl,er,ers,ll,lh,LO,HO⟩;cases qi with
  |nil=>cases er
  |cons r qi=>
   rw[YAb]at er;injection er with er1 er2
   subst er1;have V0:=hm r (by rw[ers];exact YAp _ YAh);have VD:Fen.zaE n done:=λq hq=>hm q (by rw[ers];exact YAy _ hq);have esplit:rs=(done++[r])++qi:=by rw[ers,YAJ];rfl
   refine⟨rfl,zaN V0.1 (by omega) (zaN V0.2.2.1 (by omega) ?_)⟩;refine zaN V0.1 (by omega) (zaN V0.2.2.1 (by omega) ⟨zay _ _,?_⟩);rw[zaZ];by_cases hlab:Fen.gI lab r.one=Fen.gI lab r.qe
   .rw[YAw hlab];refine⟨zay _ _,?_⟩;rw[zaZ];by_cases hb0:Fen.gI hts r.one+r.rise-Fen.gI hts r.qe=0
    .rw[YAw hb0];obtain⟨a1,a2⟩:=Fen.znS V0 LO HO hlab hb0;exact hn' _ ⟨done++[r],qi,lab,hts,_,_,_,_,_,_,_,rfl,er2,esplit,ll,lh,a1,a2⟩
    .rw[YAC hb0];refine hr _ (.inl ⟨rfl,?_⟩);rw[ers];exact Fen.zoR V0 LO HO hlab hb0
   .rw[YAC hlab];refine zaN V0.1 (by omega) (zaN V0.2.2.1 (by omega) ⟨by show 2<=100000;decide,⟨by omega,by omega⟩,?_⟩);rw[YAD];refine zaY (λrest Z=>∃(k:Nat)(lab' hts':List Int)(s10:Sl),Z=[.val (.int n),.val (.lst false (rs.map runD)),.own (lab'.map D.int),.own (hts'.map D.int),.val (.int r.one),.val (.int r.qe),.val (.int r.rise),.val (.int r.hand),.val (.int (Fen.gI hts r.one+r.rise-Fen.gI hts r.qe)),.val (.lst true ([Fen.gI lab r.one,Fen.gI lab r.qe].map D.int)),s10] /\
     k<=n/\rest=rngL k (n-k)/\lab'.length=n/\hts'.length=n/\(∀i:Int,0<=i->i<n->Fen.gI lab' i=if i<k/\Fen.gI lab i=Fen.gI lab r.qe then Fen.gI lab r.one else Fen.gI lab i) /\
     ∀i:Int,0<=i->i<n->Fen.gI hts' i=if i<k/\Fen.gI lab i=Fen.gI lab r.qe then Fen.gI hts i+(Fen.gI hts r.one+r.rise-Fen.gI hts r.qe)else Fen.gI hts i) ?_ ?_ _ _ ⟨0,lab,hts,s10,rfl,by omega,rfl,ll,lh,λi i0 i1=>by rw[if_neg (by omega)],λi i0 i1=>by rw[if_neg (by omega)]⟩
    .rintro x2 rest2 Z E2 hn2 hc2 hr2 hb2 ⟨k,lab',hts',s10,rfl,hk,er3,ll2,lh2,q1,q2⟩;have hk2:k<n:=by
      rcases YDN k n with h|h
      .exact h
      .rw[YCM h]at er3;cases er3
     obtain⟨m,hm2⟩:∃m,n-k=m+1:=⟨n-k-1,by omega⟩;rw[hm2,zga]at er3;injection er3 with er4 er5
     subst er4;have er6:rest2=rngL ((k+1:Nat):Int) (n-(k+1)):=by rw[er5,show n-(k+1)=m by omega];rfl
     refine zaN (by omega) (by omega) ⟨zay _ _,?_⟩;rw[zaZ];have qk:=q1 k (by omega) (by omega);rw[if_neg (by omega)]at qk;show if decide (Fen.gI lab' k=Fen.gI lab r.qe)=true then _ else _;by_cases hc3:Fen.gI lab k=Fen.gI lab r.qe
     .rw[YAw (qk.trans hc3)];refine zoM (by omega) (by omega) ?_;dsimp only;refine zmn (hs:=hts') (k:=k) (b:=Fen.gI hts r.one+r.rise-Fen.gI hts r.qe) rfl (λQ q=>q) (λQ q=>q) (by omega) (by omega) ?_;refine hn2 _ ⟨k+1,lab'.set k (Fen.gI lab r.one),hts'.set k (Fen.gI hts' k+(Fen.gI hts r.one+r.rise-Fen.gI hts r.qe)),.val (.int k),by rw[<-zkc lab',YAD];rfl,by omega,er6,by simpa using ll2,by simpa using lh2,λi i0 i1=>?_,λi i0 i1=>?_⟩
      .rw[Fen.zgI (by omega) i0];by_cases e:i=(k:Int)
       .rw[if_pos e,if_pos ⟨by omega,by rw[e];exact hc3⟩]
       .rw[if_neg e,q1 i i0 i1];by_cases z:i<(k:Int)/\Fen.gI lab i=Fen.gI lab r.qe
        .rw[if_pos z,if_pos ⟨by omega,z.2⟩]
        .rw[if_neg z,if_neg (λy=>z ⟨by omega,y.2⟩)]
      .rw[Fen.zgI (by omega) i0];by_cases e:i=(k:Int)
       .rw[if_pos e,if_pos ⟨by omega,by rw[e];exact hc3⟩,e,q2 k (by omega) (by omega),if_neg (by omega)]
       .rw[if_neg e,q2 i i0 i1];by_cases z:i<(k:Int)/\Fen.gI lab i=Fen.gI lab r.qe
        .rw[if_pos z,if_pos ⟨by omega,z.2⟩]
        .rw[if_neg z,if_neg (λy=>z ⟨by omega,y.2⟩)]
     .rw[YAC (λz=>hc3 (qk.symm.trans z))];refine hn2 _ ⟨k+1,lab',hts',.val (.int k),rfl,by omega,er6,ll2,lh2,λi i0 i1=>?_,λi i0 i1=>?_⟩
      .rw[q1 i i0 i1];by_cases z:i<(k:Int)/\Fen.gI lab i=Fen.gI lab r.qe
       .rw[if_pos z,if_pos ⟨by omega,z.2⟩]
       .rw[if_neg z,if_neg (λy=>z ⟨by
         have:i≠(k:Int):=λe=>hc3 (e▸y.2)
         omega,y.2⟩)]
      .rw[q2 i i0 i1];by_cases z:i<(k:Int)/\Fen.gI lab i=Fen.gI lab r.qe
       .rw[if_pos z,if_pos ⟨by omega,z.2⟩]
       .rw[if_neg z,if_neg (λy=>z ⟨by
         have:i≠(k:Int):=λe=>hc3 (e▸y.2)
         omega,y.2⟩)]
    .rintro Z ⟨k,lab',hts',s10,rfl,hk,er3,ll2,lh2,q1,q2⟩;have hkn:n-k=0:=by
      have:=congrArg List.length er3
      rw[zbp]at this;simpa using this.symm
     have hkn:k=n:=by omega
     subst hkn;obtain⟨a1,a2⟩:=Fen.zow VD V0 LO HO hlab (λi i0 i1=>by
      rw[q1 i i0 i1];by_cases z:Fen.gI lab i=Fen.gI lab r.qe
      .rw[if_pos ⟨i1,z⟩,if_pos z]
      .rw[if_neg (λy=>z y.2),if_neg z]) (λi i0 i1=>by
      rw[q2 i i0 i1];by_cases z:Fen.gI lab i=Fen.gI lab r.qe
      .rw[if_pos ⟨i1,z⟩,if_pos z]
      .rw[if_neg (λy=>z y.2),if_neg z])
     exact hn' _ ⟨done++[r],qi,lab',hts',_,_,_,_,_,_,_,rfl,er2,esplit,ll2,lh2,a1,a2⟩
 .rintro Z ⟨done,qi,lab,hts,s4,s5,s6,s7,s8,s9,s10,rfl,er,ers,ll,lh,LO,HO⟩;cases qi with
  |cons r qi=>cases er
  |nil=>
   rw[YAN]at ers;subst ers;exact⟨by show 2<=100000;decide,.inr ⟨lab,hts,rfl,ll,lh,LO,HO⟩⟩
def ziC(rs:List Rn)(hs:List Int):zaL rs hs=Fen.usable hs rs:=by
 unfold zaL Fen.usable;rfl
noncomputable def zbY:Fn:=fnW 4 ((seqW (asgW (.nm 2) (valW (lstW (zab (valW (lstW nilA)) nilA))))
  (seqW (forW (zfc (vW 1)) (.nm 3) (asgW (.nm 2) (valW (zfI [none,none,some 0] (seqI (vW 2)) (.nm 0) (seqI (vW 2)) (.nm 1) (orT (notT (truW (vW 0))) (blW (binW ltD (ixvW 0 (unW negD (kW (.int 1)))) (vW 1)))) (binW addD (vW 0) (valW (lstW (zab (vW 1) nilA))))))))
  (retW (vW 2)))))
noncomputable def zb1:Fn:=fnW 7 ((seqW (asgW (.nm 3) (zau 1 zbt (zab (vW 1) nilA)))
  (seqW (ownW 4 (lstW nilA))
  (seqW (forW (zfc (binW addD (cbW minF (zab (vW 2) (zab (zcy 3) nilA))) (kW (.int 1)))) (.nm 5) (forW (seqI (zau 2 zbY (zab (vW 3) (zab (vW 5) nilA)))) (.nm 6) (ifS (blW (zlh (zau 2 ze0 (zab (vW 0) (zab (zau 2 zd0 (zab (vW 1) (zab (vW 6) nilA))) nilA))))) (appW 4 (vW 6)) nilS)))
  (frzW 4 (retW (vW 4)))))))
noncomputable def zdi:Fn:=fnW 7 ((seqW (asgW (.nm 3) (zau 1 zbt (zab (vW 1) nilA)))
  (seqW (forW (zfc (binW addD (cbW minF (zab (vW 2) (zab (zcy 3) nilA))) (kW (.int 1)))) (.nm 4) (forW (seqI (zau 2 zbY (zab (vW 3) (zab (vW 4) nilA)))) (.nm 5) (seqW (asgW (.nm 6) (zau 2 ze0 (zab (vW 0) (zab (zau 2 zd0 (zab (vW 1) (zab (vW 5) nilA))) nilA))))
  (ifS (blW (zlh (vW 6))) (retW (tupW (zab (vW 5) (zab (vW 6) nilA)))) nilS))))
  (retW (kW .non)))))
def zbG:Fn:=fnW 2 ((retW (zau 1 zbt (zab (valW (zaP [none,some 0] (seqI (vW 1)) (.nm 0) noIf (ixvW 1 (vW 0)))) nilA))))
noncomputable def zaC:Nat->Fn
 |0=>λ_ _=>False
 |n+1=>fnW 13 ((seqW (asgW (.nm 5) (kW (.str "ring")))
  (seqW (asgW (.nm 6) (zau 3 zcP (zab (vW 0) (zab (vW 1) (zab (vW 3) nilA)))))
  (seqW (ifS (blW (isNW (vW 6))) (seqW (asgW (.nm 5) (kW (.str "line")))
  (seqW (asgW (.tp 2 (.cons (.nm 7) (.cons (.nm 8) .nil))) (vW 4))
  (asgW (.nm 6) (tupW (zab (vW 7) (zab (zau 5 zc0 (zab (vW 0) (zab (vW 1) (zab (vW 3) (zab (vW 7) (zab (vW 8) nilA)))))) nilA)))))) nilS)
  (seqW (asgW (.tp 2 (.cons (.nm 9) (.cons (.nm 10) .nil))) (vW 6))
  (seqW (asgW (.nm 11) (ifW (blW (binW gtD (vW 2) (kW (.int 0)))) (zau 2 zbG (zab (vW 1) (zab (vW 10) nilA))) (valW (lstW nilA))))
  (seqW (asgW (.nm 12) (valW (zaP [none,some 0,some 1,some 4,some 2,some 3] (seqI (vW 11)) (.nm 0) noIf (tupW (zab (vW 0) (zab (zau 5 (zaC n) (zab (vW 1) (zab (vW 2) (zab (binW subD (vW 4) (kW (.int 1))) (zab (binW addD (vW 5) (valW (lstW (zab (vW 0) nilA)))) (zab (vW 3) nilA)))))) nilA))))))
  (retW (tupW (zab (vW 5) (zab (vW 9) (zab (vW 10) (zab (cbW ze6 (zab (vW 12) nilA)) nilA)))))))))))))
def zbq:Fn:=fnW 5 ((retW (zau 5 (zaC 6) (zab (vW 0) (zab (vW 1) (zab (vW 2) (zab (valW (lstW nilA)) (zab (tupW (zab (vW 3) (zab (vW 4) nilA))) nilA))))))))
def zb0:Fn:=fnW 3 ((seqW (ifS (blW (zlh (zau 3 zdi (zab (vW 0) (zab (vW 1) (zab (vW 2) nilA)))))) (retW (kW .non)) nilS)
  (retW (zau 5 zbq (zab (vW 0) (zab (vW 1) (zab (vW 2) (zab (kW (.int 0)) (zab (kW (.int 0)) nilA)))))))))
def lsD(l:List Int):D:=.lst true (l.map D.int)
def okN(l:List Int)(h:Int):Bool:=l.isEmpty || decide (l.getLastD 0<h)
def nxt(qh l:List Int):List Int:=qh.filter (okN l)
def za1(qh:List Int):Nat->List (List Int)
 |0=>[[]]
 |k+1=>(za1 qh k).flatMap λl=>(nxt qh l).map λh=>l++[h]
def wt(qh l:List Int):Nat:=2^(nxt qh l).length
theorem znD:∀s:List Int,s.Pairwise (·<·)->(s.map λh=>2^(s.filter λx=>decide (h<x)).length).sum+1=2^s.length
 |[],_=>rfl
 |x::s,h=>by
  obtain⟨h1,h2⟩:=YA7.mp h;have e1:(x::s).filter (λy=>decide (x<y))=s:=by
   rw[YBb,if_neg (by simp)];exact YC9.mpr λy hy=>YAw (h1 y hy)
  have e2:s.map (λh=>2^((x::s).filter λy=>decide (h<y)).length)=s.map (λh=>2^(s.filter λy=>decide (h<y)).length):=YBe λy hy=>by
   rw[YBb,if_neg (by have:=h1 y hy;simp;omega)]
  rw[YAb,YCY,e1,e2,YAK,Nat.pow_succ]
  have:=znD s h2
  omega
def snocs(l:List Int):l=[]\/∃m a,l=m++[a]:=(List.eq_nil_or_concat l).imp id λ⟨m,a,e⟩=>⟨m,a,by rw[e,List.concat_eq_append]⟩
def zed(l:List Int)(h:Int):(l++[h]).getLastD 0=h:=by simp
def zkT(l:List Int)(h x:Int):okN (l++[h]) x=decide (h<x):=by
 unfold okN;rw[zed];simp
def zmu(h1:okN l h=true)(h2:h<x):okN l x=true:=by
 unfold okN at h1 ⊢;rw[Bool.or_eq_true]at h1 ⊢;rcases h1 with e|e
 .exact .inl e
 .exact .inr (YAw (YDL (YA3 e) h2))
def zn7(hh:h∈nxt qh l):nxt qh (l++[h])=(nxt qh l).filter λx=>decide (h<x):=by
 unfold nxt;rw[List.filter_filter];refine List.filter_congr λx _=>?_;rw[zkT];have ho:=(YA6.mp hh).2;by_cases z:h<x
 .rw[YAw z,zmu ho z];rfl
 .rw[YAC z];rfl
def zr3(u:qh.Pairwise (·<·))(l:List Int):(nxt qh l).Pairwise (·<·):=u.filter _
def zrt(u:qh.Pairwise (·<·))(l:List Int):(((nxt qh l).map λh=>l++[h]).map (wt qh)).sum+1=wt qh l:=by
 rw[YAM]
 have:=znD _ (zr3 u l)
 unfold wt;rw[<-this];congr 2;refine YBe λh hh=>?_;show 2^(nxt qh (l++[h])).length=_;rw[zn7 hh]
theorem zky{α β:Type}(f:α->List β)(w:β->Nat):∀xs:List α,((xs.flatMap f).map w).sum=(xs.map λx=>((f x).map w).sum).sum
 |[]=>rfl
 |x::xs=>by rw[YCs,YAx,List.sum_append,zky f w xs,YAb,YCY]
theorem zpc{α:Type}{f g:α->Nat}:∀{xs:List α},(∀x∈xs,f x<=g x)->(xs.map f).sum<=(xs.map g).sum
 |[],_=>YAn _
 |x::xs,h=>by
  rw[YAb,YAb,YCY,YCY];exact Nat.add_le_add (h x YAh) (zpc λy hy=>h y (YAj _ hy))
theorem zkS{qh:List Int}(u:qh.Pairwise (·<·)):∀k,((za1 qh k).map (wt qh)).sum<=2^qh.length
 |0=>by
  have:nxt qh []=qh:=YC9.mpr λx _=>rfl
  show(2^(nxt qh []).length)+0<=_;rw[this];exact YAn _
 |k+1=>by
  refine YAQ ?_ (zkS u k);show(((za1 qh k).flatMap λl=>(nxt qh l).map λh=>l++[h]).map (wt qh)).sum<=_;rw[zky];exact zpc (f:=λl=>(((nxt qh l).map λh=>l++[h]).map (wt qh)).sum) (g:=wt qh) λl _=>by have:=zrt u l;show _<=_;omega
theorem zgC{α:Type}{f:α->Nat}:∀{xs:List α},(∀x∈xs,1<=f x)->xs.length<=(xs.map f).sum
 |[],_=>YAn _
 |x::xs,h=>by
  rw[YAb,YCY,YAK]
  have:=h x YAh
  have:=zgC λy hy=>h y (YAj x hy)
  omega
def zje{qh:List Int}(u:qh.Pairwise (·<·))(k:Nat):(za1 qh k).length<=2^qh.length:=
 YAQ (zgC λl _=>Nat.one_le_two_pow) (zkS u k)
def up_snoc :(l++[h]).Pairwise (·<·)↔l.Pairwise (·<·)/\okN l h=true:=by
 rcases snocs l with rfl|⟨m,a,rfl⟩
 .simp[okN]
 .rw[YBJ,zkT,YCq];constructor
  .rintro⟨h1,_,h3⟩;exact⟨h1,h3 a (by simp) h (by simp)⟩
  .rintro⟨h1,h2⟩;refine⟨h1,List.pairwise_singleton _ _,λx hx y hy=>?_⟩;rw[YAg.mp hy];rcases YAm.mp hx with e|e
   .exact YDL ((YBJ.mp h1).2.2 x e a (by simp)) h2
   .rw[YAg.mp e];exact h2
theorem mem_lists:∀{k:Nat}{l:List Int},l∈za1 qh k↔l.length=k/\l.Pairwise (·<·)/\∀h∈l,h∈qh
 |0,l=>by
  unfold za1;constructor
  .intro h;rw[YAg.mp h];exact⟨rfl,List.Pairwise.nil,λh z=>by cases z⟩
  .rintro⟨h,_⟩;rw[YCF.mp h];exact YAg.mpr rfl
 |k+1,l=>by
  unfold za1;rw[YCk];constructor
  .rintro⟨m,hm,hl⟩;obtain⟨h,hh,rfl⟩:=YAF.mp hl;obtain⟨e1,e2,e3⟩:=mem_lists.mp hm;obtain⟨e4,e5⟩:=YA6.mp hh;refine⟨by simp[e1],up_snoc.mpr ⟨e2,e5⟩,λx hx=>?_⟩;rcases YAm.mp hx with e|e
   .exact e3 x e
   .rw[YAg.mp e];exact e4
  .rintro⟨e1,e2,e3⟩;rcases snocs l with rfl|⟨m,a,rfl⟩
   .cases e1
   .obtain⟨e4,e5⟩:=up_snoc.mp e2;refine⟨m,mem_lists.mpr ⟨by simpa using e1,e4,λh hh=>e3 h (YAy _ hh)⟩,YAF.mpr ⟨a,YA6.mpr ⟨e3 a (by simp),e5⟩,rfl⟩⟩
theorem zif{α:Type}(M:Nat)(emb:α->D)(f:α->List D):∀(xs:List α)(acc:List D),
  (∀x∈xs,∀(R:List D->Prop)(acc:List D),acc.length<=M->R (acc++f x)->gD t (emb x) Zc λZ2=>I2 Z2 λys=>acc.length+ys.length<=100000/\zbd t2 C E Z2 R ys acc) ->
  acc.length+(xs.flatMap f).length<=M->Q (acc++xs.flatMap f)->zdk t I2 t2 C E Zc Q (xs.map emb) acc
 |[],acc,_,_,q=>by simpa[zdk]using q
 |x::xs,acc,h,hl,q=>by
  rw[YCs,YAo]at hl;refine h x YAh _ acc (by omega) ?_;refine zif M emb f xs _ (λy hy=>h y (YAj _ hy)) (by rw[YAo];omega) ?_;rw[YCs]at q;rw[YAJ];exact q
def zoN(h:l≠[])(q:Q (.int (l.getLastD 0))):itD (l.map D.int) (.int (-1)) Q:=by
 rcases snocs l with rfl|⟨m,a,rfl⟩
 .exact absurd rfl h
 rw[zed]at q;show(match atI ((m++[a]).map D.int) (-1)with|some d=>Q d|none=>False);have e:atI ((m++[a]).map D.int) (-1)=some (.int a):=by
  unfold atI ixN;rw[if_neg (by decide),if_pos (by simp;omega),YDC,YAq]
  have:(-1+(((m++[a]).map D.int).length:Int)).toNat=m.length:=by simp;omega
  rw[this];simp
 rw[e];exact q
def ze4(a:Bool)(qh:List Int)(k:Nat)(u:qh.Pairwise (·<·))(hh:qh.length<=10)(hk:k<=1000):zbY [.lst a (qh.map D.int),.int k] (·=.lst true ((za1 qh k).map lsD)):=by
 unfold zbY fnW zaF;rw[YAb,YAb,zbm,zal];refine⟨by show 0<=100000;decide,by show 1<=100000;decide,⟨by omega,by omega⟩,?_⟩;rw[YAD];refine zaY (λrest Z=>∃(j:Nat)(s3:Sl),Z=[.val (.lst false (qh.map D.int)),.val (.int k),.val (.lst true ((za1 qh j).map lsD)),s3]/\j+rest.length=k) ?_ ?_ _ _ ⟨0,.un,rfl,by rw[zbp];omega⟩
 .rintro x rest Z E' hn hc hr hb ⟨j,s3,rfl,hj⟩;rw[YAK]at hj;have hp:2^qh.length<=1024:=YAQ (Nat.pow_le_pow_right (by decide) hh) (by decide);have hl:=zje u (j+1);show zdk _ _ _ _ _ _ _ ((za1 qh j).map lsD) [];refine zif 1024 lsD (λl=>(nxt qh l).map λh=>lsD (l++[h])) (za1 qh j) [] (λl hl R acc ha q=>?_) ?_ ?_
  .obtain⟨l1,_,_⟩:=mem_lists.mp hl;refine⟨by rw[YAc];omega,zcT D.int (λh=>if okN l h=true then some (lsD (l++[h]))else none) qh acc (λh hh' qo N y=>?_) ?_⟩
   .have yes:okN l h=true->binW addD (vW 0) (valW (lstW (zab (vW 1) nilA))) [.val (lsD l),.val (.int h),.val (.lst false (qh.map D.int))] qo:=λe=>by
     rw[if_pos e]at y;refine⟨by show 1<=100000;decide,by simp;omega,?_⟩;have y:qo (lsD (l++[h])):=y;unfold lsD at y;rw[YAx]at y;exact y
    cases l with
    |nil=>exact yes rfl
    |cons b m=>
     refine zoN (by simp) ?_;show if decide ((b::m).getLastD 0<h)=true then _ else _;have e:okN (b::m) h=decide ((b::m).getLastD 0<h):=rfl;rw[<-e];cases z:okN (b::m) h with
     |true=>exact yes z
     |false=>rw[z]at y;exact y
   .rw[ze8];exact q
  .rw[YC2,Nat.zero_add]
   have:((za1 qh j).flatMap λl=>(nxt qh l).map λh=>lsD (l++[h]))=(za1 qh (j+1)).map lsD:=by
    show _=((za1 qh j).flatMap λl=>(nxt qh l).map λh=>l++[h]).map lsD;rw[YCQ];congr 1;funext l;rw[YAM];rfl
   rw[this,YAc];omega
  .have:((za1 qh j).flatMap λl=>(nxt qh l).map λh=>lsD (l++[h]))=(za1 qh (j+1)).map lsD:=by
    show _=((za1 qh j).flatMap λl=>(nxt qh l).map λh=>l++[h]).map lsD;rw[YCQ];congr 1;funext l;rw[YAM];rfl
   rw[YA4,this];exact hn _ ⟨j+1,.val x,rfl,by omega⟩
 .rintro Z ⟨j,s3,rfl,hj⟩;rw[YC2]at hj;rw[<-hj];rfl
noncomputable def hasH(rs:List Rn):Bool:=@decide (¬ Fen.zfX rs) (Classical.propDecidable _)
def hasH_t:hasH rs=true↔¬ Fen.zfX rs:=by unfold hasH;exact @decide_eq_true_iff _ (Classical.propDecidable _)
def hasH_f:hasH rs=false↔Fen.zfX rs:=by
 constructor
 .intro h;by_cases z:Fen.zfX rs
  .exact z
  .rw[hasH_t.mpr z]at h;cases h
 .intro h;cases e:hasH rs with
  |false=>rfl
  |true=>exact absurd h (hasH_t.mp e)
def znF(h:Fen.zdG n rs hts):hasH rs=true:=hasH_t.mpr λno=>no (Fen.gI hts) h.2.1
def zhW(hm:Fen.zaE n rs)(hn:n<=1000)(hl:rs.length<=1000)(h0:hasH rs=false->Q .non)(h1:∀hts,hasH rs=true->Fen.zdG n rs hts->Q (.lst true (hts.map D.int))):up ze0 [.int n,.lst a (rs.map runD)] Q:=
 ⟨Q,⟨n,a,rs,rfl,hm,hn,hl,λno=>h0 (hasH_f.mpr no),λhts fo=>h1 hts (znF fo) fo⟩,λd z=>z⟩
structure FirstR(rs:List Rn)(c:Nat)(l:List Int):Prop where
 yes:hasH (zaL rs l)=true
 ex:∃j,j<c/\(∀i,i<j->∀m∈za1 (zap rs) i,hasH (zaL rs m)=false)/\∃done qi,za1 (zap rs) j=done++l::qi/\∀m∈done,hasH (zaL rs m)=false
def zrs(rs:List Rn)(c:Nat):Prop:=∀i,i<c->∀m∈za1 (zap rs) i,hasH (zaL rs m)=false
def cntR(qf:Int)(rs:List Rn):Nat:=((if ((zap rs).length:Int)<qf then((zap rs).length:Int)else qf)+1).toNat
structure Few(n:Nat)(rs:List Rn):Prop where
 marks:Fen.zaE n rs
 n1:n<=40
 len:rs.length<64
 qh:(zap rs).length<=10
def Few.left(F:Few n rs)(l:List Int):Fen.zaE n (zaL rs l):=zkG (n:=n) F.marks l
def zj4(a:Bool)(n:Nat)(rs:List Rn)(qf:Int)(F:Few n rs)(m0:0<=qf)(m1:qf<=1000) :
  zdi [.int n,.lst a (rs.map runD),.int qf] (λd=>(d=.non/\zrs rs (cntR qf rs))\/∃l hts,d=.tup [lsD l,.lst true (hts.map D.int)]/\FirstR rs (cntR qf rs) l/\Fen.zdG n (zaL rs l) hts):=by
 have hh:=F.qh;have hl:=F.len;have hn:=F.n1;unfold zdi fnW zaF;rw[YAb,YAb,YAb,zaM,zal,zal];refine⟨rfl,zaS (zds _ rs hl) λd hd=>?_⟩;subst hd;have eL:(((zap rs).map D.int).length:Int)=((zap rs).length:Int):=by rw[YAc]
 have hup:=zbl (rs.map Fen.Run.hand)
 change(zap rs).Pairwise (·<·)at hup
 show(_/\_)/\zbB _ _ _ (rngL 0 ((if (((zap rs).map D.int).length:Int)<qf then(((zap rs).map D.int).length:Int)else qf)+1).toNat) _;rw[eL];have hc:cntR qf rs<=11/\(cntR qf rs:Int)=(if ((zap rs).length:Int)<qf then((zap rs).length:Int)else qf)+1:=by
  unfold cntR;split<;>constructor<;>omega
 refine⟨⟨by omega,by omega⟩,?_⟩
 change zbB _ _ _ (rngL 0 (cntR qf rs)) _
 generalize cntR qf rs=c at hc;refine zaY (λrest Z=>∃(j:Nat)(s4 s5 s6:Sl),Z=[.val (.int n),.val (.lst false (rs.map runD)),.val (.int qf),.val (.lst true ((zap rs).map D.int)),s4,s5,s6]/\j<=c/\rest=rngL j (c-j)/\∀i,i<j->∀m∈za1 (zap rs) i,hasH (zaL rs m)=false) ?_ ?_ _ _
  ⟨0,.un,.un,.un,rfl,by omega,rfl,λi hi=>by omega⟩
 .rintro x rest Z E' hn' hc' hr hb ⟨j,s4,s5,s6,rfl,hj,er,hno⟩;have hj2:j<c:=by
   rcases YDN j c with h|h
   .exact h
   .rw[YCM h]at er;cases er
  obtain⟨m,hm2⟩:∃m,c-j=m+1:=⟨c-j-1,by omega⟩;rw[hm2,zga]at er;injection er with er4 er5
  subst er4;have er6:rest=rngL ((j+1:Nat):Int) (c-(j+1)):=by rw[er5,show c-(j+1)=m by omega];rfl
  refine⟨rfl,zaS (ze4 _ (zap rs) j hup hh (by omega)) λd hd=>?_⟩;subst hd;show zbB _ _ _ ((za1 (zap rs) j).map lsD) _;refine zaY (λrest Z=>∃(done qi:List (List Int))(s5 s6:Sl),Z=[.val (.int n),.val (.lst false (rs.map runD)),.val (.int qf),.val (.lst true ((zap rs).map D.int)),.val (.int j),s5,s6]/\rest=qi.map lsD/\za1 (zap rs) j=done++qi/\∀m∈done,hasH (zaL rs m)=false) ?_ ?_ _ _
   ⟨[],_,s5,s6,rfl,rfl,rfl,λm h=>by cases h⟩
  .rintro x2 rest2 Z E2 hn2 hc2 hr2 hb2 ⟨done,qi,s5,s6,rfl,e1,e2,e3⟩;cases qi with
   |nil=>cases e1
   |cons l qi=>
    rw[YAb]at e1;injection e1 with e1 e4
    subst e1;refine⟨rfl,zaS (zh0 false true rs l (by omega)) λd hd=>?_⟩;subst hd;have ll:=zes rs l;refine⟨rfl,zhW (F.left l) (by omega) (by omega) (λh0=>?_) λhts h1 fo=>?_⟩
    .refine hn2 _ ⟨done++[l],qi,_,_,rfl,e4,by rw[e2,YAJ];rfl,λm hm=>?_⟩;rcases YAm.mp hm with e|e
     .exact e3 m e
     .rw[YAg.mp e];exact h0
    .refine⟨by show 2<=100000;decide,hr2 _ (hr _ (.inr ⟨l,hts,rfl,⟨h1,j,hj2,hno,done,qi,e2,e3⟩,fo⟩))⟩
  .rintro Z ⟨done,qi,s5,s6,rfl,e1,e2,e3⟩;cases qi with
   |cons l qi=>cases e1
   |nil=>
    rw[YAN]at e2;refine hn' _ ⟨j+1,_,_,_,rfl,by omega,er6,λi hi m hm=>?_⟩;rcases YDN i j with h|h
    .exact hno i h m hm
    .have:i=j:=by omega
     subst this;rw[e2]at hm;exact e3 m hm
 .rintro Z ⟨j,s4,s5,s6,rfl,hj,er,hno⟩;have hj:j=c:=by
   have:=congrArg List.length er
   rw[zbp]at this
   have:c-j=0:=by simpa using this.symm
   omega
  subst hj;exact .inl ⟨rfl,hno⟩
noncomputable def setsR(rs:List Rn)(c:Nat):List (List Int):=((List.range c).flatMap (za1 (zap rs))).filter λl=>hasH (zaL rs l)
def zeY(rs:List Rn)(j:Nat):setsR rs (j+1)=setsR rs j++(za1 (zap rs) j).filter λl=>hasH (zaL rs l):=by
 unfold setsR;rw[YDH,YDa,YB1];simp
theorem zgg(u:(zap rs).Pairwise (·<·))(hh:(zap rs).length<=10):∀c,(setsR rs c).length<=c*1024
 |0=>by simp[setsR]
 |c+1=>by
  rw[zeY,YAo]
  have:=zgg u hh c
  have h1:=zje u c;have h2:2^(zap rs).length<=1024:=YAQ (Nat.pow_le_pow_right (by decide) hh) (by decide);have h3:=YB0 (λl=>hasH (zaL rs l)) (za1 (zap rs) c);omega
def zhN(rs:List Rn):(zap rs).Pairwise (·<·):=zbl _
def zgs(a:Bool)(n:Nat)(rs:List Rn)(qf:Int)(F:Few n rs)(m0:0<=qf)(m1:qf<=1000) :
  zb1 [.int n,.lst a (rs.map runD),.int qf] (·=.lst true ((setsR rs (cntR qf rs)).map lsD)):=by
 have hh:=F.qh;have hl:=F.len;have hn:=F.n1;have hup:=zhN rs;unfold zb1 fnW zaF;rw[YAb,YAb,YAb,zaM,zal,zal];refine⟨rfl,zaS (zds _ rs hl) λd hd=>?_⟩;subst hd;have eL:(((zap rs).map D.int).length:Int)=((zap rs).length:Int):=by rw[YAc]
 refine⟨by show 0<=100000;decide,?_⟩;show(_/\_)/\zbB _ _ _ (rngL 0 ((if (((zap rs).map D.int).length:Int)<qf then(((zap rs).map D.int).length:Int)else qf)+1).toNat) _;rw[eL];have hc:cntR qf rs<=11/\(cntR qf rs:Int)=(if ((zap rs).length:Int)<qf then((zap rs).length:Int)else qf)+1:=by
  unfold cntR;split<;>constructor<;>omega
 refine⟨⟨by omega,by omega⟩,?_⟩
 change zbB _ _ _ (rngL 0 (cntR qf rs)) _
 generalize cntR qf rs=c at hc;refine zaY (λrest Z=>∃(j:Nat)(s5 s6:Sl),Z=[.val (.int n),.val (.lst false (rs.map runD)),.val (.int qf),.val (.lst true ((zap rs).map D.int)),.own ((setsR rs j).map lsD),s5,s6]/\j<=c/\rest=rngL j (c-j)) ?_ ?_ _ _
  ⟨0,.un,.un,rfl,by omega,rfl⟩
 .rintro x rest Z E' hn' hc' hr hb ⟨j,s5,s6,rfl,hj,er⟩;have hj2:j<c:=by
   rcases YDN j c with h|h
   .exact h
   .rw[YCM h]at er;cases er
  obtain⟨m,hm2⟩:∃m,c-j=m+1:=⟨c-j-1,by omega⟩;rw[hm2,zga]at er;injection er with er4 er5
  subst er4;have er6:rest=rngL ((j+1:Nat):Int) (c-(j+1)):=by rw[er5,show c-(j+1)=m by omega];rfl
  refine⟨rfl,zaS (ze4 _ (zap rs) j hup hh (by omega)) λd hd=>?_⟩;subst hd;show zbB _ _ _ ((za1 (zap rs) j).map lsD) _;have hz:=zgg hup hh (j+1);rw[zeY,YAo]at hz;refine zaY (λrest Z=>∃(done qi:List (List Int))(s6:Sl),Z=[.val (.int n),.val (.lst false (rs.map runD)),.val (.int qf),.val (.lst true ((zap rs).map D.int)),.own ((setsR rs j++done.filter λl=>hasH (zaL rs l)).map lsD),.val (.int j),s6]/\rest=qi.map lsD/\za1 (zap rs) j=done++qi) ?_ ?_ _ _
   ⟨[],_,s6,by rw[YDO,YAN];rfl,rfl,rfl⟩
  .rintro x2 rest2 Z E2 hn2 hc2 hr2 hb2 ⟨done,qi,s6,rfl,e1,e2⟩;cases qi with
   |nil=>cases e1
   |cons l qi=>
    rw[YAb]at e1;injection e1 with e1 e4
    subst e1;refine⟨rfl,zaS (zh0 false true rs l (by omega)) λd hd=>?_⟩;subst hd;have ll:=zes rs l;refine⟨rfl,zhW (F.left l) (by omega) (by omega) (λh0=>?_) λhts h1 fo=>?_⟩
    .refine hn2 _ ⟨done++[l],qi,.val (lsD l),?_,e4,by rw[e2,YAJ];rfl⟩;rw[YB1,YBb,if_neg (by rw[h0];decide),YDO,YAN];rfl
    .have hz2:(setsR rs j++done.filter λl=>hasH (zaL rs l)).length<100000:=by
      rw[e2,YB1,YAo]at hz;rw[YAo];omega
     refine⟨by rw[YAc];exact hz2,hn2 _ ⟨done++[l],qi,.val (lsD l),?_,e4,by rw[e2,YAJ];rfl⟩⟩;rw[YB1,YBb,if_pos h1,YDO,<-YAJ];simp only[YAx];rfl
  .rintro Z ⟨done,qi,s6,rfl,e1,e2⟩;cases qi with
   |cons l qi=>cases e1
   |nil=>
    rw[YAN]at e2;refine hn' _ ⟨j+1,.val (.int j),s6,?_,by omega,er6⟩;rw[zeY,e2]
 .rintro Z ⟨j,s5,s6,rfl,hj,er⟩;have hj:j=c:=by
   have:=congrArg List.length er
   rw[zbp]at this
   have:c-j=0:=by simpa using this.symm
   omega
  subst hj;rfl
def ziX(u:l.Pairwise (·<·))(hs:∀h∈l,h∈zap rs)(hl:(l.length:Int)<=qf):∃j,j<cntR qf rs/\l∈za1 (zap rs) j:=by
 refine⟨l.length,?_,mem_lists.mpr ⟨rfl,u,hs⟩⟩
 have:l.length<=(zap rs).length:=L2.zaB (zb7 u) hs
 unfold cntR;split<;>omega
def zms(W:Wd mm mh mr size rs hts fs):(zap rs).length<=10:=by
 have:∀h∈zap rs,h∈(List.range 10).map Int.ofNat:=λh hh=>by
  obtain⟨r,hr,rfl⟩:=YAF.mp ((za6 _ _).mp hh);obtain⟨h0,h1⟩:=W.hand r hr;exact YAF.mpr ⟨r.hand.toNat,YBc.mpr (by omega),by show((r.hand.toNat:Nat):Int)=_;omega⟩
 have:=L2.zaB (zb7 (zhN rs)) this
 simpa using this
def Wd.fewN{mm mh mr:Int}{n:Nat}{rs:List Rn}{hts fs:List Int}(W:Wd mm mh mr n rs hts fs)(h1:mm<=40)(h2:mr<64):Few n rs:=
 ⟨W.marks,by have:=W.s2;omega,by have:=W.few;omega,zms W⟩
def mem_sets{rs:List Rn}{c:Nat}{l:List Int}:l∈setsR rs c↔(∃j,j<c/\l∈za1 (zap rs) j)/\hasH (zaL rs l)=true:=by
 unfold setsR;rw[YA6,YCk];constructor
 .rintro⟨⟨j,h1,h2⟩,h3⟩;exact⟨⟨j,YBc.mp h1,h2⟩,h3⟩
 .rintro⟨⟨j,h1,h2⟩,h3⟩;exact⟨⟨j,YBc.mpr h1,h2⟩,h3⟩
def zoc{n:Nat}{rs:List Rn}{qf:Int}{l hts:List Int}(hl:(l.length:Int)<=qf)(u:l.Pairwise (·<·))(hs:∀x∈l,x∈zap rs)(hh:hts.length=n)(ok:Fen.HtOk (zaL rs l) hts):zhv n rs qf l hts=true:=by
 unfold zhv;have h1:zgn l=true:=(zei l).mpr u;have h2:(l.all λh=>(zap rs).contains h)=true:=YCh.mpr λx hx=>by simpa using hs x hx
 have h3:(zaL rs l).all (zgu hts)=true:=YCh.mpr λr hr=>YAw (ok r hr);rw[YAw hl,h1,h2,h3,YAw (by omega)];rfl
noncomputable def zqu(n:Nat):WS:=(seqW (asgW (.tp 2 (.cons (.nm 9) (.cons (.nm 10) .nil))) (vW 6))
  (seqW (asgW (.nm 11) (ifW (blW (binW gtD (vW 2) (kW (.int 0)))) (zau 2 zbG (zab (vW 1) (zab (vW 10) nilA))) (valW (lstW nilA))))
  (seqW (asgW (.nm 12) (valW (zaP [none,some 0,some 1,some 4,some 2,some 3] (seqI (vW 11)) (.nm 0) noIf (tupW (zab (vW 0) (zab (zau 5 (zaC n) (zab (vW 1) (zab (vW 2) (zab (binW subD (vW 4) (kW (.int 1))) (zab (binW addD (vW 5) (valW (lstW (zab (vW 0) nilA)))) (zab (vW 3) nilA)))))) nilA))))))
  (retW (tupW (zab (vW 5) (zab (vW 9) (zab (vW 10) (zab (cbW ze6 (zab (vW 12) nilA)) nilA)))))))))
def All2{α:Type}(R:α->D->Prop):List α->List D->Prop
 |[],[]=>True
 |x::xs,d::ds=>R x d/\All2 R xs ds
 |_,_=>False
theorem zgJ{α:Type}(emb:α->D)(R:α->D->Prop):∀(xs:List α)(acc:List D),(∀x∈xs,∀qo:D->Prop,(∀d,R x d->qo d)->gD t (emb x) Zc λZ2=>C Z2 λb=>b=true/\E Z2 qo) ->
  zdX C->(∀ds:List D,All2 R xs ds->Q (acc++ds))->zbd t C E Zc Q (xs.map emb) acc
 |[],acc,_,_,q=>by simpa[zbd]using q [] trivial
 |x::xs,acc,h,mC,q=>by
  show gD t (emb x) Zc λZ2=>C Z2 λb=>if b=true then E Z2 λd=>zbd t C E Zc Q (xs.map emb) (acc++[d])else zbd t C E Zc Q (xs.map emb) acc;refine zbv t (emb x) Zc (λZ2 z=>mC Z2 _ _ (λb z=>?_) z) (h x YAh (λd=>zbd t C E Zc Q (xs.map emb) (acc++[d])) λd hd=>?_)
  .rw[z.1,if_pos rfl];exact z.2
  .refine zgJ emb R xs (acc++[d]) (λx' hx'=>h x' (YAj _ hx')) mC λds hds=>?_
   have:=q (d::ds) ⟨hd,hds⟩
   rw[YAJ];exact this
theorem All2.len{α:Type}{R:α->D->Prop}:∀{xs:List α}{ds:List D},All2 R xs ds->xs.length=ds.length
 |[],[],_=>rfl
 |_::_,_::_,h=>by rw[YAK,YAK,All2.len h.2]
 |[],_::_,h=>h.elim
 |_::_,[],h=>h.elim
def zbF(rs:List Rn)(line:List Int):List Int:=zap (line.map (Fen.runAt rs))
def headIs(n:Nat)(rs:List Rn)(one qe:Int)(qg:List Int)(kind:Str)(mark:Int)(line:List Int):Prop:=
 (kind="ring" /\ Fen.RingIs n rs qg (some (mark,line)))\/(kind="line" /\ mark=one/\Fen.RingIs n rs qg none/\Fen.LineIs n rs qg one qe (some line))
noncomputable def PaperIs(n:Nat)(rs:List Rn)(one qe:Int):Nat->List Int->D->Prop
 |0,qg,d=>∃kind mark line,headIs n rs one qe qg kind mark line/\d=.tup [.str kind,.int mark,.tup (line.map D.int),.tup []]
 |k+1,qg,d=>∃kind mark line ds,headIs n rs one qe qg kind mark line/\All2 (λh p=>∃q,p=.tup [.int h,q]/\PaperIs n rs one qe k (qg++[h]) q) (zbF rs line) ds/\d=.tup [.str kind,.int mark,.tup (line.map D.int),.tup ds]
structure Few2(n:Nat)(rs:List Rn):Prop extends Few n rs where
 apart:∀r∈rs,r.one≠r.qe
def zfG(h:Fen.RingIs n rs hs none):hasH (zaL rs hs)=true:=by
 obtain⟨K,H,ts,a,e⟩:=h;have key:=Fen.zgG e.symm;refine hasH_t.mpr λno=>no (λi=>(Fen.zbU ((Fen.zbc ts).map Fen.zbb) i).2.1) λr hr=>?_;obtain⟨h1,h2⟩:=YA6.mp hr;exact key r h1 (by simpa using h2)
theorem headIs.line{n:Nat}{rs:List Rn}{one qe:Int}{qg:List Int}{kind:Str}{mark:Int}{line:List Int}(F:Few2 n rs)(h:headIs n rs one qe qg kind mark line) :
  line.Nodup/\(∀z∈line,0<=z/\z<(rs.length:Int)/\qg.contains (Fen.runAt rs z).hand=false):=by
 rcases h with⟨_,h⟩|⟨_,_,_,h⟩
 .obtain⟨_,_,_,_,a,b,_⟩:=h.some F.marks F.n1 F.apart;exact⟨a,b⟩
 .obtain⟨_,a,b,_⟩:=h.some;exact⟨a,b⟩
def zdv{rs:List Rn}{line:List Int}(hl:rs.length<64)(nd:line.Nodup)(hb:∀z∈line,0<=z/\z<(rs.length:Int)):line.length<64:=by
 have:=L2.zaB (xs:=(List.range rs.length).map Int.ofNat) nd λz hz=>by
  obtain⟨a,b⟩:=hb z hz;exact YAF.mpr ⟨z.toNat,YBc.mpr (by omega),by show((z.toNat:Nat):Int)=_;omega⟩
 rw[YAc,YBC]at this;omega
def zdA(h0:0<=z)(h1:z<(rs.length:Int))(q:Q (runD (Fen.runAt rs z))):itD (rs.map runD) (.int z) Q:=by
 show(match atI (rs.map runD) z with|some d=>Q d|none=>False);have hn:z.toNat<rs.length:=by omega
 have e:Fen.runAt rs z=rs[z.toNat]:=by unfold Fen.runAt;rw[YAt,YAe hn];rfl
 unfold atI ixN;rw[if_pos h0,YAc,if_pos h1,YDC,YAq,YAe hn];rw[e]at q;exact q
def zgl(a:Bool)(rs:List Rn)(line:List Int)(hl:line.length<64)(hb:∀z∈line,0<=z/\z<(rs.length:Int)):zbG [.lst a (rs.map runD),.tup (line.map D.int)] (·=.lst true ((zbF rs line).map D.int)):=by
 unfold zbG fnW zaF;rw[YAb,YAb,zaM,zdj];refine⟨by simp;omega,zaX D.int (λz=>runD (Fen.runAt rs z)) line (λz hz qo N y=>zdA (hb z hz).1 (hb z hz).2 y) ?_⟩;rw[show(line.map λz=>runD (Fen.runAt rs z))=(line.map (Fen.runAt rs)).map runD by rw[YAM];rfl];refine⟨rfl,zaS (zds _ (line.map (Fen.runAt rs)) (by simpa using hl)) λd hd=>?_⟩;subst hd;rfl
def zoj(F:Few n rs)(k:∀o,Fen.RingIs n rs hs o->Q (zrm o)):up zcP [.int n,.lst a (rs.map runD),.lst b (hs.map D.int)] Q:=
 ⟨Q,⟨n,a,b,rs,hs,rfl,F.marks,F.n1,by have:=F.len;omega,k⟩,λd z=>z⟩
def zoB{n:Nat}{a b:Bool}{rs:List Rn}{hs:List Int}{one qe:Int}{Q:D->Prop}(F:Few n rs)(h0:0<=one)(h1:one<n)(k:∀o,Fen.LineIs n rs hs one qe o->Q (zrn o)):up zc0 [.int n,.lst a (rs.map runD),.lst b (hs.map D.int),.int one,.int qe] Q:=
 ⟨Q,⟨n,a,b,rs,hs,one,qe,rfl,F.marks,h0,h1,by have:=F.n1;omega,by have:=F.len;omega,k⟩,λd z=>z⟩
def GoodS(rs:List Rn)(one qe:Int)(qg:List Int)(qf:Nat):Prop:=
 ∀ext:List Int,ext.length<=qf->(∀h∈ext,h∈zap rs)->hasH (zaL rs (qg++ext))=true->Fen.Conn (zaL rs (qg++ext)) one qe
def GoodS.next(g:GoodS rs one qe qg (k+1))(hh:h∈zap rs):GoodS rs one qe (qg++[h]) k:=λext hl he=>by
 have:=g (h::ext) (by rw[YAK];omega) (λx hx=>(YAk.mp hx).elim (λe=>e▸hh) (he x))
 rw[YAJ];exact this
def zeS(hb:∀z∈line,0<=z/\z<(rs.length:Int))(hh:h∈zbF rs line):h∈zap rs:=by
 obtain⟨r,hr,rfl⟩:=YAF.mp ((za6 _ _).mp hh);obtain⟨z,hz,rfl⟩:=YAF.mp hr;obtain⟨z0,z1⟩:=hb z hz;have hn:z.toNat<rs.length:=by omega
 have e:Fen.runAt rs z=rs[z.toNat]:=by unfold Fen.runAt;rw[YAt,YAe hn];rfl
 rw[e];exact(za6 _ _).mpr (YAG (YBT hn))
def zkj{n:Nat}{rs:List Rn}{one qe:Int}{N qf:Nat}{qg:List Int}{kind:Str}{mark:Int}{line:List Int}{s7 s8:Sl}{b:Bool}{nx bk ct:Env->Prop}(F:Few2 n rs)(hs:qg.length+qf<=1000)(hd:headIs n rs one qe qg kind mark line)
  (ih:∀k,qf=k+1->∀h∈zbF rs line,zaC N [.int n,.lst false (rs.map runD),.int k,.lst true ((qg++[h]).map D.int),.tup [.int one,.int qe]] (PaperIs n rs one qe k (qg++[h]))) :
  zqu N {nx:=nx,rt:=PaperIs n rs one qe qf qg,bk:=bk,ct:=ct} [.val (.int n),.val (.lst false (rs.map runD)),.val (.int qf),.val (.lst b (qg.map D.int)),.val (.tup [.int one,.int qe]),.val (.str kind),.val (.tup [.int mark,.tup (line.map D.int)]),s7,s8,.un,.un,.un,.un]:=by
 obtain⟨nd,hb⟩:=hd.line F;have hb':∀z∈line,0<=z/\z<(rs.length:Int):=λz hz=>⟨(hb z hz).1,(hb z hz).2.1⟩;have hll:=zdv F.len nd hb';refine⟨rfl,?_⟩;cases qf with
 |zero=>
  refine⟨by show 0<=100000;decide,by show 0<=100000;decide,by show 4<=100000;decide,?_⟩;exact⟨kind,mark,line,hd,rfl⟩
 |succ k=>
  show if decide ((0:Int)<((k+1:Nat):Int))=true then _ else _;rw[YAw (by omega),if_pos rfl];refine⟨rfl,zaS (zgl false rs line hll hb') λd hd'=>?_⟩;subst hd';have lh:(zbF rs line).length<=64:=by
   have:=zdd ((line.map (Fen.runAt rs)).map Fen.Run.hand)
   rw[YAc,YAc]at this;unfold zbF zap;omega
  refine⟨by rw[YAc];omega,zgJ D.int (λh p=>∃q,p=.tup [.int h,q]/\PaperIs n rs one qe k (qg++[h]) q) (zbF rs line) [] (λh hh qo y=>?_) zdY λds hds=>?_⟩
  .refine⟨rfl,by show 1<=100000;decide,by simp;omega,rfl,?_⟩
   have:=ih k rfl h hh
   rw[YAx]at this;rw[show((k+1:Nat):Int)-1=(k:Int) by omega];refine zaS this λq hq=>⟨by show 2<=100000;decide,y _ ⟨q,rfl,hq⟩⟩
  .rw[YA4];refine⟨by show 4<=100000;decide,kind,mark,line,ds,hd,hds,rfl⟩
theorem zi5(n:Nat)(rs:List Rn)(one qe:Int)(F:Few2 n rs)(h0:0<=one)(h1:one<n):∀(qf:Nat)(N:Nat)(a b:Bool)(qg:List Int),qf<N->qg.length+qf<=1000->GoodS rs one qe qg qf ->
  zaC N [.int n,.lst a (rs.map runD),.int qf,.lst b (qg.map D.int),.tup [.int one,.int qe]] (PaperIs n rs one qe qf qg)
 |qf,N+1,a,b,qg,hN,hs,g=>by
  unfold zaC fnW zaF;rw[YAb,YAb,YAb,YAb,YAb,zaM,zbm,zdw,zal,zal,zal,zal];have ih:∀{kind:Str}{mark:Int}{line:List Int},headIs n rs one qe qg kind mark line->∀k,qf=k+1->∀h∈zbF rs line,zaC N [.int n,.lst false (rs.map runD),.int k,.lst true ((qg++[h]).map D.int),.tup [.int one,.int qe]] (PaperIs n rs one qe k (qg++[h])):=λhd k hk h hh=>by
   subst hk;have hb:=(hd.line F).2;exact zi5 n rs one qe F h0 h1 k N false true (qg++[h]) (by omega) (by simp;omega) (g.next (zeS (λz hz=>⟨(hb z hz).1,(hb z hz).2.1⟩) hh))
  refine⟨rfl,zoj F.toFew λo ho=>?_⟩;cases o with
  |some ml=>
   have hd:headIs n rs one qe qg "ring" ml.1 ml.2:=.inl ⟨rfl,ho⟩;exact zkj F hs hd (ih hd)
  |none=>
   refine⟨rfl,rfl,zoB F.toFew h0 h1 λo hl=>?_⟩;have c:=g [] (YAH _) (λh z=>by cases z);rw[YAN]at c;have c:=c (zfG ho);cases o with
   |none=>exact absurd (ziC rs qg▸c) (hl.none_iff.mp rfl)
   |some line=>
    have hd:headIs n rs one qe qg "line" one line:=.inr ⟨rfl,rfl,ho,hl⟩;refine⟨by show 2<=100000;decide,?_⟩;exact zkj F hs hd (ih hd)
def zdH(a:Bool)(n:Nat)(rs:List Rn)(one qe:Int)(qf:Nat)(F:Few2 n rs)(h0:0<=one)(h1:one<n)(hm:qf<=5)(g:GoodS rs one qe [] qf):zbq [.int n,.lst a (rs.map runD),.int qf,.int one,.int qe] (PaperIs n rs one qe qf []):=by
 unfold zbq fnW zaF;rw[YAb,YAb,YAb,YAb,YAb,zaM,zal,zal,zal,zal];refine⟨by show 0<=100000;decide,by show 2<=100000;decide,rfl,?_⟩;exact zaS (zi5 n rs one qe F h0 h1 qf 6 false true [] (by omega) (by simp;omega) g) λd hd=>hd
def zca(rs:List Rn)(l:List Int):zaL rs (zbw l)=zaL rs l:=by
 unfold zaL;refine List.filter_congr λr _=>?_;congr 1;rw[YCA,YB2,YB2];exact za6 l r.hand
def zhw(hs:∀h∈l,h∈zap rs)(hl:(l.length:Int)<=qf):∃j,j<cntR qf rs/\zbw l∈za1 (zap rs) j:=
 ziX (zbl l) (λh hh=>hs h ((za6 l h).mp hh)) (by have:=zdd l;omega)
def zgy(a:Bool)(n:Nat)(rs:List Rn)(qf:Nat)(F:Few2 n rs)(n0:0<n)(hm:qf<=5):zb0 [.int n,.lst a (rs.map runD),.int qf] (λd=>(d=.non/\∃l,FirstR rs (cntR qf rs) l)\/(zrs rs (cntR qf rs)/\PaperIs n rs 0 0 qf [] d)):=by
 unfold zb0 fnW zaF;rw[YAb,YAb,YAb,zaM,zal,zal];refine⟨rfl,zaS (zj4 _ n rs qf F.toFew (by omega) (by omega)) λd hd=>?_⟩;rcases hd with⟨rfl,no⟩|⟨l,hts,rfl,fi,fo⟩
 .refine⟨rfl,zaS (zdH _ n rs 0 0 qf F (by omega) (by omega) hm ?_) λd hd=>.inr ⟨no,hd⟩⟩;intro ext hl he hy;obtain⟨j,hj,hm⟩:=zhw he (by omega:(ext.length:Int)<=qf)
  have:=no j hj _ hm
  rw[zca]at this;rw[YA4,this]at hy;cases hy
 .exact .inl ⟨rfl,l,fi⟩
def zef:Fn:=fnW 7 ((seqW (ownW 4 (ziW (vW 2)))
  (seqW (forW (seqI (zau 2 zfr (zab (vW 0) (zab (vW 1) nilA)))) (.nm 5) (ifS (blW (binW (inD false) (vW 3) (vW 5))) (forW (seqI (vW 5)) (.nm 6) (zgj 4 (vW 6) (kW (.int 1)))) nilS))
  (frzW 4 (retW (vW 4))))))
noncomputable def zaR:Fn:=fnW 8 ((seqW (ownW 4 (lstW nilA))
  (seqW (forW (seqI (zau 3 zb1 (zab (vW 0) (zab (vW 1) (zab (vW 2) nilA))))) (.nm 5) (seqW (asgW (.nm 6) (zau 2 zd0 (zab (vW 1) (zab (vW 5) nilA))))
  (seqW (asgW (.nm 7) (zau 2 ze0 (zab (vW 0) (zab (vW 6) nilA))))
  (seqW (appW 4 (tupW (zab (valW (ziW (vW 5))) (zab (vW 7) nilA))))
  (appW 4 (tupW (zab (valW (ziW (vW 5))) (zab (zau 4 zef (zab (vW 0) (zab (vW 6) (zab (vW 7) (zab (vW 3) nilA))))) nilA))))))))
  (frzW 4 (retW (vW 4))))))
def zbg:Fn:=fnW 3 ((retW (binW subD (ixvW 0 (vW 2)) (ixvW 0 (vW 1)))))
noncomputable def ze9:Fn:=fnW 11 ((seqW (asgW (.nm 5) (zau 4 zaR (zab (vW 0) (zab (vW 1) (zab (vW 2) (zab (vW 4) nilA))))))
  (seqW (ifS (notT (truW (vW 5))) (retW (tupW (zab (kW (.str "none")) (zab (zau 3 zb0 (zab (vW 0) (zab (vW 1) (zab (vW 2) nilA)))) nilA)))) nilS)
  (seqW (asgW (.tp 2 (.cons (.nm 6) (.cons (.nm 7) .nil))) (ixvW 5 (kW (.int 0))))
  (seqW (asgW (.nm 8) (zau 3 zbg (zab (vW 7) (zab (vW 3) (zab (vW 4) nilA)))))
  (seqW (forW (seqI (vW 5)) (.tp 2 (.cons (.nm 9) (.cons (.nm 10) .nil))) (ifS (blW (binW neD (zau 3 zbg (zab (vW 10) (zab (vW 3) (zab (vW 4) nilA)))) (vW 8))) (retW (tupW (zab (kW (.str "open")) (zab (tupW (zab (vW 6) (zab (vW 7) nilA))) (zab (tupW (zab (vW 9) (zab (vW 10) nilA))) nilA))))) nilS))
  (retW (tupW (zab (kW (.str "sure")) (zab (vW 8) (zab (zau 5 zbq (zab (vW 0) (zab (vW 1) (zab (vW 2) (zab (vW 3) (zab (vW 4) nilA)))))) nilA)))))))))))
structure LiftOk(n:Nat)(rs:List Rn)(mark:Int)(h h':List Int):Prop where
 len:h'.length=n
 yes:∀i:Int,0<=i->i<n->Fen.Conn rs mark i->Fen.gI h' i=Fen.gI h i+1
 no:∀i:Int,0<=i->i<n->¬ Fen.Conn rs mark i->Fen.gI h' i=Fen.gI h i
def zlq(hm:Fen.zaE n rs)(hn:n<=60)(hl:rs.length<=1000)(k:∀gs,Fen.zkC n rs gs->Q (.lst true (gs.map λg=>.lst true (g.map D.int)))):up zfr [.int n,.lst a (rs.map runD)] Q:=
 ⟨Q,⟨n,a,rs,rfl,hm,hn,hl,k⟩,λd z=>z⟩
def zlu(a b:Bool)(n:Nat)(rs:List Rn)(h:List Int)(mark:Int)(hm:Fen.zaE n rs)(hn:n<=60)(hl:rs.length<=1000)(hh:h.length=n)(m0:0<=mark)(m1:mark<n) :
  zef [.int n,.lst a (rs.map runD),.lst b (h.map D.int),.int mark] (λd=>∃h',d=.lst true (h'.map D.int)/\LiftOk n rs mark h h'):=by
 unfold zef fnW zaF;rw[YAb,YAb,YAb,YAb,zaM,zbm,zal,zal];refine⟨rfl,zlq hm hn hl λgs ⟨ds,ok,fi,hg⟩=>?_⟩;subst hg;rw[YAM];show zbB _ _ _ (ds.map λg=>D.lst true (g.ms.map D.int)) _
 -- one group holds the mark
 have one:∀g∈ds,∀g'∈ds,mark∈g.ms->mark∈g'.ms->g.st=g'.st:=λg hg g' hg' e e'=>by
  obtain⟨_,_,c1⟩:=((ok g hg).2 mark).mp e;obtain⟨_,_,c2⟩:=((ok g' hg').2 mark).mp e';have f1:=(fi.2 g.st).mp (YAG hg);have f2:=(fi.2 g'.st).mp (YAG hg');have c:=c1.trans c2.symm;rcases Int.lt_trichotomy g.st g'.st with z|z|z
  .exact absurd c (f2.2.2 _ f1.1 z)
  .exact z
  .exact absurd c.symm (f1.2.2 _ f2.1 z)
 have nd:(ds.map Fen.GR.st).Nodup:=fi.1.imp λh=>YDJ h;refine zaY (λrest Z=>∃(done qi:List Fen.GR)(h':List Int)(s5 s6:Sl),Z=[.val (.int n),.val (.lst false (rs.map runD)),.val (.lst false (h.map D.int)),.val (.int mark),.own (h'.map D.int),s5,s6]/\rest=qi.map (λg=>D.lst true (g.ms.map D.int))/\ds=done++qi/\h'.length=n /\
  (∀i:Int,0<=i->i<n->(∃g∈done,mark∈g.ms/\i∈g.ms)->Fen.gI h' i=Fen.gI h i+1)/\∀i:Int,0<=i->i<n->(¬ ∃g∈done,mark∈g.ms/\i∈g.ms)->Fen.gI h' i=Fen.gI h i) ?_ ?_ _ _
  ⟨[],ds,h,.un,.un,rfl,rfl,rfl,hh,(λi _ _ ⟨g,z,_⟩=>by cases z),λi _ _ _=>rfl⟩
 .rintro x rest Z E' hn' hc hr hb ⟨done,qi,h',s5,s6,rfl,e1,e2,hl',q1,q2⟩;cases qi with
  |nil=>cases e1
  |cons g qi=>
   rw[YAb]at e1;injection e1 with e1 e3
   subst e1;have hgd:g∈ds:=by rw[e2];simp
   have esp:ds=(done++[g])++qi:=by rw[e2,YAJ];rfl
   refine⟨zcJ _ _,?_⟩;show if (if false=true then !inB (.int mark) (g.ms.map D.int)else inB (.int mark) (g.ms.map D.int))=true then _ else _;rw[show(if false=true then !inB (.int mark) (g.ms.map D.int)else inB (.int mark) (g.ms.map D.int))=g.ms.contains mark from zcV _ _];cases hcm:g.ms.contains mark with
   |false=>
    have hnot:mark∉g.ms:=λz=>by rw[YB2.mpr z]at hcm;cases hcm
    refine hn' _ ⟨done++[g],qi,h',_,s6,rfl,e3,esp,hl',λi i0 i1 ⟨g',hg',k1,k2⟩=>?_,λi i0 i1 hno=>q2 i i0 i1 λ⟨g',hg',k⟩=>hno ⟨g',YAy _ hg',k⟩⟩;rcases YAm.mp hg' with e|e
    .exact q1 i i0 i1 ⟨g',e,k1,k2⟩
    .rw[YAg.mp e]at k1;exact absurd k1 hnot
   |true=>
    have hin:mark∈g.ms:=YB2.mp hcm;have hdn:∀i,¬ ∃g'∈done,mark∈g'.ms/\i∈g'.ms:=λi ⟨g',hg',k1,_⟩=>by
     have es:=one g' (by rw[e2];exact YAy _ hg') g hgd k1 hin;rw[e2,YAx,YAb]at nd
     have:=(YCr.mp nd).2.2 g'.st (YAG hg') g.st YAh
     exact this es
    have gup:=(ok g hgd).1;have gin:∀j∈g.ms,0<=j/\j<n:=λj hj=>let⟨a,b,_⟩:=((ok g hgd).2 j).mp hj;⟨a,b⟩
    show zbB _ _ _ (g.ms.map D.int) _;refine zaY (λrest Z=>∃(dn td:List Int)(h2:List Int)(s6:Sl),Z=[.val (.int n),.val (.lst false (rs.map runD)),.val (.lst false (h.map D.int)),.val (.int mark),.own (h2.map D.int),.val (.lst true (g.ms.map D.int)),s6]/\rest=td.map D.int/\g.ms=dn++td/\h2.length=n /\
     (∀i:Int,0<=i->i<n->i∈dn->Fen.gI h2 i=Fen.gI h i+1)/\∀i:Int,0<=i->i<n->i∉dn->Fen.gI h2 i=Fen.gI h i) ?_ ?_ _ _
     ⟨[],g.ms,h',s6,rfl,rfl,rfl,hl',(λi _ _ z=>by cases z),λi i0 i1 _=>q2 i i0 i1 (hdn i)⟩
    .rintro x2 rest2 Z E2 hn2 hc2 hr2 hb2 ⟨dn,td,h2,s6,rfl,f1,f2,hl2,p1,p2⟩;cases td with
     |nil=>cases f1
     |cons j td=>
      rw[YAb]at f1;injection f1 with f1 f3
      subst f1;obtain⟨j0,j1⟩:=gin j (by rw[f2];simp);have jn:j∉dn:=λz=>by
       rw[f2]at gup;exact absurd ((YBJ.mp gup).2.2 j z j YAh) (Int.lt_irrefl _)
      unfold gD;refine zmn (hs:=h2) (k:=j) (b:=1) rfl (λQ q=>q) (λQ q=>q) j0 (by omega) ?_;refine hn2 _ ⟨dn++[j],td,h2.set j.toNat (Fen.gI h2 j+1),_,rfl,f3,by rw[f2,YAJ];rfl,by simpa using hl2,λi i0 i1 hi=>?_,λi i0 i1 hi=>?_⟩
      .rw[Fen.zgI (by omega) i0];rcases YAm.mp hi with e|e
       .rw[if_neg (λz:i=((j.toNat:Nat):Int)=>jn ((show i=j by omega)▸e))];exact p1 i i0 i1 e
       .have:=YAg.mp e
        subst this;rw[if_pos (by omega),p2 i i0 i1 jn]
      .rw[Fen.zgI (by omega) i0,if_neg (λz:i=((j.toNat:Nat):Int)=>hi (YAp _ (YAg.mpr (by omega))))];exact p2 i i0 i1 λz=>hi (YAy _ z)
    .rintro Z ⟨dn,td,h2,s6,rfl,f1,f2,hl2,p1,p2⟩;cases td with
     |cons j td=>cases f1
     |nil=>
      rw[YAN]at f2;refine hn' _ ⟨done++[g],qi,h2,_,s6,rfl,e3,esp,hl2,λi i0 i1 ⟨g',hg',k1,k2⟩=>?_,λi i0 i1 hno=>p2 i i0 i1 λz=>hno ⟨g,by simp,hin,by rw[f2];exact z⟩⟩;rcases YAm.mp hg' with e|e
      .exact absurd ⟨g',e,k1,k2⟩ (hdn i)
      .rw[YAg.mp e,f2]at k2;exact p1 i i0 i1 k2
 .rintro Z ⟨done,qi,h',s5,s6,rfl,e1,e2,hl',q1,q2⟩;cases qi with
  |cons g qi=>cases e1
  |nil=>
   rw[YAN]at e2;subst e2;obtain⟨f,f0,f1,fc,ff⟩:=Fen.zkf (rs:=rs) (k:=n) mark.toNat mark (by omega) (by rw[show((mark.toNat:Nat):Int)=mark by omega];exact .refl _);have fin:f∈ds.map Fen.GR.st:=(fi.2 f).mpr ⟨f0,by omega,ff⟩;obtain⟨g,hg,rfl⟩:=YAF.mp fin;have gm:mark∈g.ms:=((ok g hg).2 mark).mpr ⟨m0,m1,fc⟩;refine⟨h',rfl,hl',λi i0 i1 c=>q1 i i0 i1 ⟨g,hg,gm,((ok g hg).2 i).mpr ⟨i0,i1,fc.trans c⟩⟩,λi i0 i1 c=>q2 i i0 i1 λ⟨g',hg',k1,k2⟩=>c ?_⟩;obtain⟨_,_,c1⟩:=((ok g' hg').2 mark).mp k1;obtain⟨_,_,c2⟩:=((ok g' hg').2 i).mp k2;exact c1.symm.trans c2
def zc1(l h:List Int):D:=.tup [lsD l,.lst true (h.map D.int)]
structure Tri where
 l:List Int
 h:List Int
 h':List Int
def triD(t:Tri):List D:=[zc1 t.l t.h,zc1 t.l t.h']
structure TriOk(n:Nat)(rs:List Rn)(mark:Int)(t:Tri):Prop where
 flat:Fen.zdG n (zaL rs t.l) t.h
 lift:LiftOk n (zaL rs t.l) mark t.h t.h'
def zjG(a:Bool)(n:Nat)(rs:List Rn)(qf:Nat)(mark:Int)(F:Few n rs)(hm:qf<=1000)(m0:0<=mark)(m1:mark<n) :
  zaR [.int n,.lst a (rs.map runD),.int qf,.int mark] (λd=>∃ts:List Tri,d=.lst true (ts.flatMap triD)/\ts.map Tri.l=setsR rs (cntR qf rs)/\∀t∈ts,TriOk n rs mark t):=by
 have hh:=F.qh;have hl:=F.len;have hn:=F.n1;unfold zaR fnW zaF;rw[YAb,YAb,YAb,YAb,zaM,zal,zal,zal];refine⟨by show 0<=100000;decide,rfl,zaS (zgs _ n rs qf F (by omega) (by omega)) λd hd=>?_⟩;subst hd;have hz:=zgg (zhN rs) hh (cntR qf rs);have hc:cntR qf rs<=11:=by unfold cntR;split<;>omega
 have hy:∀l∈setsR rs (cntR qf rs),hasH (zaL rs l)=true:=λl hl=>(mem_sets.mp hl).2;generalize setsR rs (cntR qf rs)=S at hz hy;show zbB _ _ _ (S.map lsD) _;refine zaY (λrest Z=>∃(ts:List Tri)(qi:List (List Int))(s5 s6 s7:Sl),Z=[.val (.int n),.val (.lst false (rs.map runD)),.val (.int qf),.val (.int mark),.own (ts.flatMap triD),s5,s6,s7]/\rest=qi.map lsD/\S=ts.map Tri.l++qi/\∀t∈ts,TriOk n rs mark t) ?_ ?_ _ _
  ⟨[],S,.un,.un,.un,rfl,rfl,rfl,λt h=>by cases h⟩
 .rintro x rest Z E' hn' hc' hr hb ⟨ts,qi,s5,s6,s7,rfl,e1,e2,ok⟩;cases qi with
  |nil=>cases e1
  |cons l qi=>
   rw[YAb]at e1;injection e1 with e1 e3
   subst e1;have hl1:hasH (zaL rs l)=true:=hy l (by rw[e2];simp);have ll:=zes rs l;have len2:∀ts:List Tri,(ts.flatMap triD).length=2*ts.length:=λts=>by
    induction ts with
    |nil=>rfl
    |cons t ts ih=>rw[YCs,YAo,ih,YAK];show 2+_=_;omega
   have tl:ts.length<12000:=by
    have:=congrArg List.length e2
    rw[YAo,YAc,YAK]at this;omega
   refine⟨rfl,zaS (zh0 false true rs l (by omega)) λd hd=>?_⟩;subst hd;refine⟨rfl,zhW (F.left l) (by omega) (by omega) (λh0=>by rw[hl1]at h0;cases h0) λh _ fo=>?_⟩;refine⟨by show 2<=100000;decide,by rw[len2];omega,?_⟩;refine⟨rfl,zaS (zlu true true n (zaL rs l) h mark (F.left l) (by omega) (by omega) fo.1 m0 m1) λd ⟨h',hd,lo⟩=>?_⟩;subst hd;refine⟨by show 2<=100000;decide,by rw[YAo,len2];show _+1<_;omega,?_⟩;refine hn' _ ⟨ts++[⟨l,h,h'⟩],qi,.val (lsD l),.val (.lst true ((zaL rs l).map runD)),.val (.lst true (h.map D.int)),?_,e3,by rw[e2,YAx,YAJ];rfl,λt ht=>?_⟩
   .rw[YDa,YCs,List.flatMap_nil,YAN];show _=[_,_,_,_,Sl.own (ts.flatMap triD++[zc1 l h,zc1 l h']),_,_,_];rw[show ts.flatMap triD++[zc1 l h,zc1 l h']=(ts.flatMap triD++[zc1 l h])++[zc1 l h'] by rw[YAJ];rfl];rfl
   .rcases YAm.mp ht with e|e
    .exact ok t e
    .rw[YAg.mp e];exact⟨fo,lo⟩
 .rintro Z ⟨ts,qi,s5,s6,s7,rfl,e1,e2,ok⟩;cases qi with
  |cons l qi=>cases e1
  |nil=>
   rw[YAN]at e2;exact⟨ts,rfl,e2.symm,ok⟩
def zkt(a:Bool)(h:List Int)(one qe:Int)(o0:0<=one)(o1:one<h.length)(p0:0<=qe)(p1:qe<h.length):zbg [.lst a (h.map D.int),.int one,.int qe] (·=.int (Fen.gI h qe-Fen.gI h one)):=by
 unfold zbg fnW zaF;rw[YAb,YAb,YAb,zbm,zal,zal];exact zaN p0 p1 (zaN o0 o1 rfl)
structure Rdg(rs:List Rn)(c:Nat)(l:List Int)(f:Int->Int):Prop where
 mem:l∈setsR rs c
 fit:∀r∈zaL rs l,f r.qe-f r.one=r.rise
def zpV(hm:Fen.zaE n rs)(L:LiftOk n rs mark h h')(ht:Fen.HtOk rs h):Fen.HtOk rs h':=λr hr=>by
 obtain⟨a,b,c,d⟩:=hm r hr
 have:=ht r hr
 by_cases z:Fen.Conn rs mark r.one
 .rw[L.yes _ a b z,L.yes _ c d (z.trans (Fen.Conn.edge hr))];omega
 .rw[L.no _ a b z,L.no _ c d (λy=>z (y.trans (Fen.Conn.edge' hr)))];exact this
structure ToldNone(n:Nat)(rs:List Rn)(qf:Nat)(d:D):Prop where
 emp:setsR rs (cntR qf rs)=[]
 pap:∃p,d=.tup [.str "none",p]/\PaperIs n rs 0 0 qf [] p
structure ToldSure(n:Nat)(rs:List Rn)(qf:Nat)(one qe rise:Int)(d:D):Prop where
 some:setsR rs (cntR qf rs)≠[]
 all:∀l f,Rdg rs (cntR qf rs) l f->f qe-f one=rise
 conn:∀l∈setsR rs (cntR qf rs),Fen.Conn (zaL rs l) one qe
 pap:∃p,d=.tup [.str "sure",.int rise,p]/\PaperIs n rs one qe qf [] p
structure RdOk(n:Nat)(rs:List Rn)(c:Nat)(l h:List Int):Prop where
 mem:l∈setsR rs c
 fit:Fen.HtOk (zaL rs l) h
 len:h.length=n
structure ToldOpen(n:Nat)(rs:List Rn)(qf:Nat)(one qe:Int)(d:D):Prop where
 ex:∃l h l' h',d=.tup [.str "open",zc1 l h,zc1 l' h']/\RdOk n rs (cntR qf rs) l h/\RdOk n rs (cntR qf rs) l' h'/\Fen.gI h' qe-Fen.gI h' one≠Fen.gI h qe-Fen.gI h one
def RdOk.rdg(x:RdOk n rs c l h):Rdg rs c l (Fen.gI h):=⟨x.mem,x.fit⟩
def prD(p:List Int×List Int):D:=zc1 p.1 p.2
def zkX(ts:List Tri):ts.flatMap triD=(ts.flatMap λt=>[(t.l,t.h),(t.l,t.h')]).map prD:=by
 rw[YCQ];rfl
def zop(q:Q x):itD (x::xs) (.int 0) Q:=by
 show(match atI (x::xs) 0 with|some d=>Q d|none=>False);have e:atI (x::xs) 0=some x:=by unfold atI ixN;rw[if_pos (by decide),if_pos (by simp)];rfl
 rw[e];exact q
def zpd(h:l∈setsR rs c):∃f,Rdg rs c l f:=by
 have:=hasH_t.mp (mem_sets.mp h).2
 unfold Fen.zfX at this;obtain⟨f,hf⟩:=Classical.not_forall.mp this;exact⟨f,h,Classical.not_not.mp hf⟩
def zd2(a b:Str)(ha:PyData.canLay0 (.str a)=true)(hb:PyData.canLay0 (.str b)=true):eqOk (.str a) (.str b):=⟨by rw[layD];exact ha,by rw[layD];exact hb,by show min 0 0<=50;decide⟩
def zid(p:D):D.old (.tup [.str "none",p])=.tup [.str "none",p.old]:=by rw[zdw,zc2]
def zjb(r:Int)(p:D):D.old (.tup [.str "sure",.int r,p])=.tup [.str "sure",.int r,p.old]:=by rw[D.old];simp only[YAb,YBM,zc2,zal]
def zjm(p q:D):D.old (.tup [.str "open",p,q])=.tup [.str "open",p.old,q.old]:=by rw[D.old];simp only[YAb,YBM,zc2]
def okSS:eqOk (.str "sure") (.str "none")/\eqOk (.str "none") (.str "none")/\eqOk (.str "sure") (.str "sure")/\eqOk (.str "open") (.str "none")/\eqOk (.str "open") (.str "sure")/\eqOk (.str "none") (.str "sure"):=by
 refine⟨?_,?_,?_,?_,?_,?_⟩<;>exact zd2 _ _ (by decide +kernel) (by decide +kernel)
def eqSS:eqB (.str "sure") (.str "none")=false/\eqB (.str "none") (.str "none")=true/\eqB (.str "sure") (.str "sure")=true/\eqB (.str "open") (.str "none")=false/\eqB (.str "open") (.str "sure")=false/\eqB (.str "none") (.str "sure")=false:=by
 refine⟨?_,?_,?_,?_,?_,?_⟩<;>decide +kernel
def Wd.few2{mm mh mr:Int}{n:Nat}{rs:List Rn}{hts fs:List Int}(W:Wd mm mh mr n rs hts fs)(h1:mm<=40)(h2:mr<64):Few2 n rs:=⟨W.fewN h1 h2,W.apart⟩
noncomputable def zce:Fn:=fnW 10 ((seqW (asgW (.nm 3) (vW 1))
  (seqW (asgW (.nm 4) (kW (.int 0)))
  (seqW (ifS (blW (binW neD (znz (vW 2)) (zcy 2))) (retW (kW .non)) nilS)
  (seqW (forW (seqI (vW 2)) (.nm 5) (seqW (ifS (orT (notT (blW (ziH leD ltD (kW (.int 0)) (vW 5) (zcy 0)))) (blW (binW (inD true) (vW 3) (slW (ixvW 0 (vW 5)) noO (zlB (kW (.int 2))))))) (retW (kW .non)) nilS)
  (seqW (asgW (.tp 4 (.cons (.nm 6) (.cons (.nm 7) (.cons (.nm 8) (.cons (.nm 9) .nil))))) (ixvW 0 (vW 5)))
  (ifS (blW (binW eqD (vW 3) (vW 6))) (parW 3 4 (vW 7) (binW addD (vW 4) (vW 8))) (parW 3 4 (vW 6) (binW subD (vW 4) (vW 8)))))))
  (retW (tupW (zab (vW 3) (zab (vW 4) nilA)))))))))
noncomputable def za4:Nat->Fn
 |0=>λ_ _=>False
 |n+1=>fnW 6 ((seqW (ifS (orT (notT (truW (isiW "tuple" (vW 0)))) (orT (blW (binW neD (zcy 0) (kW (.int 4)))) (blW (binW eqD (vW 1) (kW (.int 0)))))) (retW (kW (.bl false))) nilS)
  (seqW (asgW (.tp 4 (.cons (.nm 2) (.cons (.nm 3) (.cons (.nm 4) (.cons (.nm 5) .nil))))) (vW 0))
  (seqW (ifS (orT (notT (truW (isiW "str" (vW 2)))) (orT (notT (truW (isiW "tuple" (vW 4)))) (notT (truW (isiW "tuple" (vW 5)))))) (retW (kW (.bl false))) nilS)
  (seqW (ifS (notT (truW (cbW allF (zab (valW (zaP [none] (seqI (binW addD (tupW (zab (vW 3) nilA)) (vW 4))) (.nm 0) noIf (andW (isiW "int" (vW 0)) (notW (isiW "bool" (vW 0)))))) nilA)))) (retW (kW (.bl false))) nilS)
  (seqW (ifS (notT (truW (cbW allF (zab (valW (zaP [none] (seqI (vW 5)) (.nm 0) noIf (andW (isiW "tuple" (vW 0)) (binW eqD (zcy 0) (kW (.int 2)))))) nilA)))) (retW (kW (.bl false))) nilS)
  (seqW (ifS (notT (truW (cbW allF (zab (valW (zaP [none] (seqI (vW 5)) (.nm 0) noIf (andW (isiW "int" (ixvW 0 (kW (.int 0)))) (notW (isiW "bool" (ixvW 0 (kW (.int 0)))))))) nilA)))) (retW (kW (.bl false))) nilS)
  (retW (cbW allF (zab (valW (zaP [none,some 1] (seqI (vW 5)) (.nm 0) noIf (zau 2 (za4 n) (zab (ixvW 0 (kW (.int 1))) (zab (binW subD (vW 1) (kW (.int 1))) nilA))))) nilA))))))))))
noncomputable def zaQ:Nat->Fn
 |0=>λ_ _=>False
 |n+1=>fnW 12 ((seqW (asgW (.tp 4 (.cons (.nm 6) (.cons (.nm 7) (.cons (.nm 8) (.cons (.nm 9) .nil))))) (vW 2))
  (seqW (ifS (orT (notT (blW (ziH leD ltD (kW (.int 0)) (vW 7) (vW 0)))) (blW (binW (inD true) (vW 6) (tupW (zab (kW (.str "ring")) (zab (kW (.str "line")) nilA)))))) (retW (kW (.bl false))) nilS)
  (seqW (asgW (.nm 10) (zau 3 zce (zab (vW 1) (zab (vW 7) (zab (vW 8) nilA)))))
  (seqW (ifS (orT (blW (isNW (vW 10))) (truW (cbW anyF (zab (valW (zaP [none,some 4,some 1] (seqI (vW 8)) (.nm 0) noIf (binW (inD false) (binW ixD (ixvW 2 (vW 0)) (kW (.int 3))) (vW 1)))) nilA)))) (retW (kW (.bl false))) nilS)
  (seqW (ifS (andT (blW (binW eqD (vW 6) (kW (.str "ring")))) (orT (blW (binW eqD (vW 8) (tupW nilA))) (orT (blW (binW neD (ixvW 10 (kW (.int 0))) (vW 7))) (blW (binW eqD (ixvW 10 (kW (.int 1))) (kW (.int 0))))))) (retW (kW (.bl false))) nilS)
  (seqW (ifS (andT (blW (binW eqD (vW 6) (kW (.str "line")))) (andT (blW (binW neD (vW 5) (kW (.str "any")))) (blW (binW neD (binW addD (tupW (zab (vW 7) nilA)) (vW 10)) (vW 5))))) (retW (kW (.bl false))) nilS)
  (seqW (asgW (.nm 11) (binW mulD (zau 1 za0 (zab (valW (zaP [none,some 1] (seqI (vW 8)) (.nm 0) noIf (ixvW 1 (vW 0)))) nilA)) (cbW intF (zab (binW gtD (vW 3) (kW (.int 0))) nilA))))
  (seqW (ifS (blW (binW neD (valW (zaP [none] (seqI (vW 9)) (.nm 0) noIf (ixvW 0 (kW (.int 0))))) (vW 11))) (retW (kW (.bl false))) nilS)
  (retW (cbW allF (zab (valW (zaP [none,none,some 0,some 1,some 5,some 3,some 4] (seqI (vW 9)) (.tp 2 (.cons (.nm 0) (.cons (.nm 1) .nil))) noIf (zau 6 (zaQ n) (zab (vW 2) (zab (vW 3) (zab (vW 1) (zab (binW subD (vW 5) (kW (.int 1))) (zab (binW addD (vW 6) (valW (lstW (zab (vW 0) nilA)))) (zab (vW 4) nilA))))))))) nilA))))))))))))
def zbD:Fn:=fnW 5 ((retW (andW (zau 2 (za4 6) (zab (vW 2) (zab (binW addD (vW 3) (kW (.int 1))) nilA))) (zau 6 (zaQ 6) (zab (vW 0) (zab (vW 1) (zab (vW 2) (zab (vW 3) (zab (valW (lstW nilA)) (zab (vW 4) nilA))))))))))
noncomputable def zaw:Fn:=fnW 9 ((seqW (ifS (orT (notT (truW (isiW "tuple" (vW 5)))) (orT (blW (binW eqD (zcy 5) (kW (.int 0)))) (blW (binW neD (ixvW 5 (kW (.int 0))) (ixvW 6 (kW (.int 0))))))) (retW (kW (.bl false))) nilS)
  (seqW (ifS (blW (binW eqD (ixvW 5 (kW (.int 0))) (kW (.str "none")))) (retW (andW (binW eqD (zcy 5) (kW (.int 2))) (zau 5 zbD (zab (vW 0) (zab (vW 1) (zab (ixvW 5 (kW (.int 1))) (zab (vW 2) (zab (kW (.str "ring")) nilA)))))))) nilS)
  (seqW (ifS (blW (binW eqD (ixvW 5 (kW (.int 0))) (kW (.str "sure")))) (seqW (ifS (orT (blW (binW neD (zcy 5) (kW (.int 3)))) (notT (truW (zau 2 (za7 6) (zab (slW (vW 5) noO (zlB (kW (.int 2)))) (zab (vW 6) nilA)))))) (retW (kW (.bl false))) nilS)
  (retW (zau 5 zbD (zab (vW 0) (zab (vW 1) (zab (ixvW 5 (kW (.int 2))) (zab (vW 2) (zab (tupW (zab (vW 3) (zab (vW 4) (zab (ixvW 6 (kW (.int 1))) nilA)))) nilA)))))))) nilS)
  (seqW (ifS (orT (blW (binW neD (zcy 5) (kW (.int 3)))) (notT (truW (cbW allF (zab (valW (zaP [none,some 0,some 1,some 2] (seqI (slW (vW 5) (zlB (kW (.int 1))) noO)) (.nm 0) noIf (zau 4 zbo (zab (vW 1) (zab (vW 2) (zab (vW 3) (zab (vW 0) nilA))))))) nilA))))) (retW (kW (.bl false))) nilS)
  (seqW (asgW (.tp 2 (.cons (.nm 7) (.cons (.nm 8) .nil))) (valW (zaP [none,some 4,some 3] (seqI (slW (vW 5) (zlB (kW (.int 1))) noO)) (.nm 0) noIf (binW subD (binW ixD (ixvW 0 (kW (.int 1))) (vW 1)) (binW ixD (ixvW 0 (kW (.int 1))) (vW 2))))))
  (retW (binW neD (vW 7) (vW 8)))))))))
def zjL(h:xs.Nodup):(zbw xs).length=xs.length:=
 Nat.le_antisymm (L2.zaB (zb7 (zbl xs)) λk hk=>(za6 xs k).mp hk) (L2.zaB h λk hk=>(za6 xs k).mpr hk)
def zlo{rs:List Rn}{qj h z:Int}{rest:List Int}{r:Int×Int}(w:Fen.walkF rs qj h (z::rest)=some r):(0<=z/\z<(rs.length:Int))/\((qj=(Fen.runAt rs z).one/\Fen.walkF rs (Fen.runAt rs z).qe (h+(Fen.runAt rs z).rise) rest=some r)\/(qj≠(Fen.runAt rs z).one/\qj=(Fen.runAt rs z).qe/\Fen.walkF rs (Fen.runAt rs z).one (h-(Fen.runAt rs z).rise) rest=some r)):=by
 unfold Fen.walkF at w;split at w
 .rename_i hz
  refine⟨hz,?_⟩;unfold Fen.zbn at w;by_cases e1:qj=(Fen.runAt rs z).one
  .rw[if_pos e1]at w;exact .inl ⟨e1,w⟩
  .rw[if_neg e1]at w;by_cases e2:qj=(Fen.runAt rs z).qe
   .rw[if_pos e2]at w;exact .inr ⟨e1,e2,by rw[Int.sub_eq_add_neg];exact w⟩
   .rw[if_neg e2]at w;cases w
 .cases w
def zd3(a:Bool)(rs:List Rn)(mark:Int)(line:List Int)(e t:Int)(hl:line.length<64)(nd:line.Nodup)(hw:Fen.walkF rs mark 0 line=some (e,t)):zce [.lst a (rs.map runD),.int mark,.tup (line.map D.int)] (·=.tup [.int e,.int t]):=by
 unfold zce fnW zaF;rw[YAb,YAb,YAb,zaM,zdj,zal];refine⟨line,rfl,hl,zay _ _,?_⟩;show if (!eqB (.int ((zbw line).length:Int)) (.int ((line.map D.int).length:Int)))=true then _ else _;rw[zaZ,YAc,zjL nd,YAw rfl];show zbB _ _ _ (line.map D.int) _;refine zaY (λrest Z=>∃(qi:List Int)(qj h:Int)(s5 s6 s7 s8 s9:Sl),Z=[.val (.lst false (rs.map runD)),.val (.int mark),.val (.tup (line.map D.int)),.val (.int qj),.val (.int h),s5,s6,s7,s8,s9]/\rest=qi.map D.int/\Fen.walkF rs qj h qi=some (e,t)) ?_ ?_ _ _
  ⟨line,mark,0,.un,.un,.un,.un,.un,rfl,rfl,hw⟩
 .rintro x rest Z E' hn hc hr hb ⟨qi,qj,h,s5,s6,s7,s8,s9,rfl,e1,w⟩;cases qi with
  |nil=>cases e1
  |cons z qi=>
   rw[YAb]at e1;injection e1 with e1 e2
   subst e1;obtain⟨⟨z0,z1⟩,hw2⟩:=zlo w;show if decide ((0:Int)<=z)=true then _ else _;rw[YAw z0,if_pos rfl];show if (!decide (z<(((rs.map runD).length:Nat):Int)))=true then _ else _;rw[YAc,YAw z1];refine zdA z0 z1 ?_;show inOk (.int qj) [.int (Fen.runAt rs z).one,.int (Fen.runAt rs z).qe]/\_;refine⟨zcJ qj [(Fen.runAt rs z).one,(Fen.runAt rs z).qe],?_⟩;show if (!inB (.int qj) ([(Fen.runAt rs z).one,(Fen.runAt rs z).qe].map D.int))=true then _ else _;have hin:qj∈[(Fen.runAt rs z).one,(Fen.runAt rs z).qe]:=by
    rcases hw2 with⟨q,_⟩|⟨_,q,_⟩<;>simp[q]
   rw[zcV,YB2.mpr hin];refine zdA z0 z1 ⟨rfl,zay _ _,?_⟩;rw[zaZ];rcases hw2 with⟨q,w'⟩|⟨q1,q2,w'⟩
   .rw[YAw q];exact hn _ ⟨qi,_,_,_,_,_,_,_,rfl,e2,w'⟩
   .rw[YAC q1];exact hn _ ⟨qi,_,_,_,_,_,_,_,rfl,e2,w'⟩
 .rintro Z ⟨qi,qj,h,s5,s6,s7,s8,s9,rfl,e1,w⟩;cases qi with
  |cons z qi=>cases e1
  |nil=>
   have w:some (qj,h)=some (e,t):=w;cases w;exact⟨by show 2<=100000;decide,rfl⟩
theorem zkB{α:Type}{R:α->D->Prop}:∀{xs:List α}{ds:List D},(∀x∈xs,∀d,R x d->d.old=d)->All2 R xs ds->ds.map D.old=ds
 |[],[],_,_=>rfl
 |x::xs,d::ds,h,a=>by
  rw[YAb,h x YAh d a.1,zkB (λy hy=>h y (YAj _ hy)) a.2]
 |[],_::_,_,a=>a.elim
 |_::_,[],_,a=>a.elim
def zkb(a b c d:D):D.old (.tup [a,b,c,d])=.tup [a.old,b.old,c.old,d.old]:=by rw[D.old];rfl
theorem zcd{n:Nat}{rs:List Rn}{one qe:Int}:∀{k:Nat}{qg:List Int}{d:D},PaperIs n rs one qe k qg d->d.old=d
 |0,_,_,⟨kind,mark,line,_,e⟩=>by
  rw[e,zkb,zc2,zal,zdj,show D.old (.tup [])=.tup [] by rw[D.old];rfl]
 |k+1,_,_,⟨kind,mark,line,ds,_,ha,e⟩=>by
  have:ds.map D.old=ds:=zkB (λh _ p ⟨q,hp,hq⟩=>by rw[hp,zdw,zal,zcd hq]) ha
  rw[e,zkb,zc2,zal,zdj,D.old,this]
theorem zjS{α:Type}{R:α->D->Prop}{t:Tg}{C:WT}{E:WE}{Zc:Env}{Q:List D->Prop}:∀{xs:List α}{ds:List D}(acc:List D),All2 R xs ds->(∀x∈xs,∀d,R x d->zk3 t C E Zc d (some (.bl true)))->Q (acc++List.replicate ds.length (.bl true))->zbd t C E Zc Q ds acc
 |[],[],acc,_,_,q=>by simpa[zbd]using q
 |x::xs,d::ds,acc,a,h,q=>by
  refine h x YAh d a.1 _ _ ?_;refine zjS (acc++[.bl true]) a.2 (λy hy=>h y (YAj _ hy)) ?_;rw[YAJ];rw[YAK,YAT]at q;exact q
 |[],_::_,_,a,_,_=>a.elim
 |_::_,[],_,a,_,_=>a.elim
def zft(q:Q (.bl true)):allF [.lst n ([]++List.replicate m (.bl true))] Q:=by
 refine⟨List.replicate m true,by rw[YA4,YDi],?_⟩
 have:(List.replicate m true).all id=true:=by simp
 rw[this];exact q
def zgZ :(zbF rs line).length<=line.length:=by
 have:=zdd ((line.map (Fen.runAt rs)).map Fen.Run.hand)
 rw[YAc,YAc]at this;exact this
theorem zdo{n:Nat}{rs:List Rn}{one qe:Int}(F:Few2 n rs):∀(k N:Nat)(qg:List Int)(d:D),k<N->k<=900->PaperIs n rs one qe k qg d->za4 N [d,.int ((k:Int)+1)] (·=.bl true)
 |k,N+1,qg,d,hN,hk,hp=>by
  unfold za4 fnW zaF;rw[YAb,YAb,zcd hp,zal];obtain⟨kind,mark,line,ds,hd,hds,e⟩:∃kind mark line ds,headIs n rs one qe qg kind mark line/\(ds=[]/\k=0\/∃k',k=k'+1/\All2 (λh p=>∃q,p=.tup [.int h,q]/\PaperIs n rs one qe k' (qg++[h]) q) (zbF rs line) ds)/\d=.tup [.str kind,.int mark,.tup (line.map D.int),.tup ds]:=by
   cases k with
   |zero=>obtain⟨kind,mark,line,h1,h2⟩:=hp;exact⟨kind,mark,line,[],h1,.inl ⟨rfl,rfl⟩,h2⟩
   |succ k=>obtain⟨kind,mark,line,ds,h1,h2,h3⟩:=hp;exact⟨kind,mark,line,ds,h1,.inr ⟨k,rfl,h2⟩,h3⟩
  subst e;obtain⟨nd,hb⟩:=hd.line F;have hll:=zdv F.len nd λz hz=>⟨(hb z hz).1,(hb z hz).2.1⟩;have hdl:ds.length<=64:=by
   rcases hds with⟨rfl,_⟩|⟨k',_,h⟩
   .exact YAH _
   .have:=h.len
    have:=zgZ (rs:=rs) (line:=line)
    omega
  refine⟨zay _ _,?_⟩;show if (!eqB (.int 4) (.int 4))=true then _ else _;rw[zaZ];refine⟨zay _ _,?_⟩;rw[zaZ,YAC (by omega)];refine⟨rfl,by show 1<=100000;decide,by show 1+(line.map D.int).length<=100000;rw[YAc];omega,?_⟩;have em:[D.int mark]++line.map D.int=(mark::line).map D.int:=rfl;show _/\zbd _ _ _ _ _ ([D.int mark]++line.map D.int) [];rw[em];refine⟨by rw[YAc,YAK];omega,zaX D.int (λ_=>.bl true) (mark::line) (λz hz qo N y=>y) ?_⟩;refine zcS (f:=λ_=>true) (xs:=mark::line) (n:=true) ?_;rw[show((mark::line).all λ_=>true)=true by simp];have step:∀{t:Tg}{C:WT}{E:WE}{Zc:Env}{Q:List D->Prop},(∀k',k=k'+1->∀h∈zbF rs line,∀q,PaperIs n rs one qe k' (qg++[h]) q->zk3 t C E Zc (.tup [.int h,q]) (some (.bl true)))->Q ([]++List.replicate ds.length (.bl true))->ds.length<=100000/\zbd t C E Zc Q ds []:=λ{t C E Zc Q} h q=>by
   refine⟨by omega,?_⟩;rcases hds with⟨rfl,_⟩|⟨k',hk',ha⟩
   .simpa[zbd]using q
   .exact zjS [] ha (λx hx d ⟨q',e1,e2⟩=>by rw[e1];exact h k' hk' x hx q' e2) q
  refine step (λk' hk' h hh q hq qo N y=>⟨zay _ _,?_⟩) (zft ?_)
  .show qo (.bl (eqB (.int 2) (.int 2)));rw[zaZ];exact y
  refine step (λk' hk' h hh q hq qo N y=>y) (zft ?_);refine step (λk' hk' h hh q hq qo N0 y=>⟨rfl,?_⟩) (zft rfl);subst hk';show up (za4 N) [q,.int (((k'+1:Nat):Int)+1-1)] _;rw[show((k'+1:Nat):Int)+1-1=(k':Int)+1 by omega];exact zaS (zdo F k' _ (qg++[h]) q (by omega) (by omega) hq) λd hd=>by subst hd;exact y
noncomputable def zp0(n:Nat):WS:=(seqW (asgW (.nm 11) (binW mulD (zau 1 za0 (zab (valW (zaP [none,some 1] (seqI (vW 8)) (.nm 0) noIf (ixvW 1 (vW 0)))) nilA)) (cbW intF (zab (binW gtD (vW 3) (kW (.int 0))) nilA))))
  (seqW (ifS (blW (binW neD (valW (zaP [none] (seqI (vW 9)) (.nm 0) noIf (ixvW 0 (kW (.int 0))))) (vW 11))) (retW (kW (.bl false))) nilS)
  (retW (cbW allF (zab (valW (zaP [none,none,some 0,some 1,some 5,some 3,some 4] (seqI (vW 9)) (.tp 2 (.cons (.nm 0) (.cons (.nm 1) .nil))) noIf (zau 6 (zaQ n) (zab (vW 2) (zab (vW 3) (zab (vW 1) (zab (binW subD (vW 5) (kW (.int 1))) (zab (binW addD (vW 6) (valW (lstW (zab (vW 0) nilA)))) (zab (vW 4) nilA))))))))) nilA)))))
theorem zkk{α:Type}{R:α->D->Prop}{t:Tg}{C:WT}{E:WE}{Zc:Env}{Q:List D->Prop}(g:α->D):∀{xs:List α}{ds:List D}(acc:List D),All2 R xs ds->(∀x∈xs,∀d,R x d->zk3 t C E Zc d (some (g x)))->Q (acc++xs.map g)->zbd t C E Zc Q ds acc
 |[],[],acc,_,_,q=>by simpa[zbd]using q
 |x::xs,d::ds,acc,a,h,q=>by
  refine h x YAh d a.1 _ _ ?_;refine zkk g (acc++[g x]) a.2 (λy hy=>h y (YAj _ hy)) ?_;rw[YAJ];exact q
 |[],_::_,_,a,_,_=>a.elim
 |_::_,[],_,a,_,_=>a.elim
def zj5{n:Nat}{rs:List Rn}{one qe:Int}{N k:Nat}{qg:List Int}{kind:Str}{mark:Int}{line:List Int}{ds:List D}{wish found paper:D}{nx bk ct:Env->Prop}(F:Few2 n rs)(hs:qg.length+k<=900)(hd:headIs n rs one qe qg kind mark line)
  (hds:(ds=[]/\k=0)\/∃k',k=k'+1/\All2 (λh p=>∃q,p=.tup [.int h,q]/\PaperIs n rs one qe k' (qg++[h]) q) (zbF rs line) ds)
  (ih:∀k',k=k'+1->∀h∈zbF rs line,∀q,PaperIs n rs one qe k' (qg++[h]) q->zaQ N [.int n,.lst false (rs.map runD),q,.int k',.lst true ((qg++[h]).map D.int),wish] (·=.bl true)) :
  zp0 N {nx:=nx,rt:=λd=>d=.bl true,bk:=bk,ct:=ct} [.val (.int n),.val (.lst false (rs.map runD)),.val paper,.val (.int k),.val (.lst false (qg.map D.int)),.val wish,.val (.str kind),.val (.int mark),.val (.tup (line.map D.int)),.val (.tup ds),.val found,.un]:=by
 obtain⟨nd,hb⟩:=hd.line F;have hb':∀z∈line,0<=z/\z<(rs.length:Int):=λz hz=>⟨(hb z hz).1,(hb z hz).2.1⟩;have hll:=zdv F.len nd hb';have hlh:=zgZ (rs:=rs) (line:=line);refine⟨by rw[YAc];omega,zaX D.int (λz=>runD (Fen.runAt rs z)) line (λz hz qo N y=>zdA (hb' z hz).1 (hb' z hz).2 y) ?_⟩;rw[show(line.map λz=>runD (Fen.runAt rs z))=(line.map (Fen.runAt rs)).map runD by rw[YAM];rfl];refine⟨rfl,zaS (zcz _ (line.map (Fen.runAt rs)) (by rw[YAc];exact hll)) λd hd'=>?_⟩;subst hd';rcases hds with⟨rfl,rfl⟩|⟨k',rfl,ha⟩
 .refine⟨⟨by decide,by decide,by rw[YAc];show(zbF rs line).length<=_;omega⟩,?_⟩;refine⟨by show 0<=100000;decide,zfF true true [] [],by show 0<=100000;decide,[],rfl,rfl⟩
 .have hdl:=ha.len;show(_/\_/\_)/\_;have e1:(if decide ((0:Int)<((k'+1:Nat):Int))=true then(1:Int)else 0)=1:=by rw[YAw (by omega)];rfl
  show((0:Int)<=(if decide ((0:Int)<((k'+1:Nat):Int))=true then(1:Int)else 0)/\(if decide ((0:Int)<((k'+1:Nat):Int))=true then(1:Int)else 0)<=1000/\((zbF rs line).map D.int).length<=1000)/\gD (.nm 11) (.lst true (List.replicate (if decide ((0:Int)<((k'+1:Nat):Int))=true then(1:Int)else 0).toNat ((zbF rs line).map D.int)).flatten) _ _;rw[e1];have e2:(List.replicate (1:Int).toNat ((zbF rs line).map D.int)).flatten=(zbF rs line).map D.int:=by
   show(List.replicate 1 _).flatten=_
   simp
  rw[e2];refine⟨⟨by decide,by decide,by rw[YAc];omega⟩,?_⟩;refine⟨by omega,zkk D.int [] ha (λh hh d ⟨q,e,hq⟩ qo N y=>by subst e;exact y) ?_⟩;rw[YA4];refine⟨zfF true true _ _,?_⟩;rw[zkx,YAw rfl];refine⟨by omega,zjS [] ha (λh hh d ⟨q,e,hq⟩ qo N0 y=>by
   subst e;refine⟨rfl,by show 1<=100000;decide,by rw[YAc];show _+1<=_;omega,rfl,?_⟩
   have:=ih k' rfl h hh q hq
   rw[YAx]at this;show up (zaQ N) [.int n,.lst false (rs.map runD),q,.int (((k'+1:Nat):Int)-1),.lst true (qg.map D.int++[.int h]),wish] _;rw[show((k'+1:Nat):Int)-1=(k':Int) by omega];exact zaS this λd hd=>by subst hd;exact y) (zft rfl)⟩
def zrF:inOk (.str "ring") [.str "ring",.str "line"]/\inOk (.str "line") [.str "ring",.str "line"]/\inB (.str "ring") [.str "ring",.str "line"]=true/\inB (.str "line") [.str "ring",.str "line"]=true:=
 ⟨⟨by decide +kernel,by decide +kernel,by decide +kernel⟩,⟨by decide +kernel,by decide +kernel,by decide +kernel⟩,by decide +kernel,by decide +kernel⟩
def zqS:(eqOk (.str "ring") (.str "ring")/\eqB (.str "ring") (.str "ring")=true)/\(eqOk (.str "ring") (.str "line")/\eqB (.str "ring") (.str "line")=false)/\(eqOk (.str "line") (.str "ring")/\eqB (.str "line") (.str "ring")=false)/\(eqOk (.str "line") (.str "line")/\eqB (.str "line") (.str "line")=true):=by
 refine⟨⟨?_,?_⟩,⟨?_,?_⟩,⟨?_,?_⟩,?_,?_⟩<;>first|exact zd2 _ _ (by decide +kernel) (by decide +kernel)|decide +kernel
def zh5(xs ys:List Int):eqOk (.tup (xs.map D.int)) (.tup (ys.map D.int)):=by
 refine⟨by unfold layD;exact zcr xs,by unfold layD;exact zcr ys,?_⟩;unfold toPy PyData.depth;rw[zdz,zdz];decide
def zkP(xs ys:List Int):eqB (.tup (xs.map D.int)) (.tup (ys.map D.int))=decide (xs=ys):=by
 unfold eqB toPy;rw[PyData.eqv];exact zdU xs ys
def zlW(xs:List Int)(s:Str)(hs:PyData.canLay0 (.str s)=true):eqOk (.tup (xs.map D.int)) (.str s):=by
 refine⟨by unfold layD;exact zcr xs,by rw[layD];exact hs,?_⟩;exact YAQ (YDx _ _) (by show 0<=50;decide)
def zoU(xs:List Int)(s:Str):eqB (.tup (xs.map D.int)) (.str s)=false:=by
 unfold eqB toPy;rw[PyData.eqv]
noncomputable def WishOk(n:Nat)(rs:List Rn)(one qe:Int)(qg:List Int)(k:Nat)(wish:D):Prop:=
 ∀ext:List Int,ext.length<=k->(∀h∈ext,h∈zap rs)->∀line,Fen.RingIs n rs (qg++ext) none->Fen.LineIs n rs (qg++ext) one qe (some line)->∃t,Fen.walkF rs one 0 line=some (qe,t)/\wish=.tup ([one,qe,t].map D.int)
def WishOk.next(g:WishOk n rs one qe qg (k+1) wish)(hh:h∈zap rs):WishOk n rs one qe (qg++[h]) k wish:=λext hl he line=>by
 have:=g (h::ext) (by rw[YAK];omega) (λx hx=>(YAk.mp hx).elim (λe=>e▸hh) (he x)) line
 rw[YAJ];exact this
theorem zdI{n:Nat}{rs:List Rn}{one qe:Int}(F:Few2 n rs)(o0:0<=one)(o1:one<n){wish:D}(hw:wish.old=wish):∀(k N:Nat)(a b:Bool)(qg:List Int)(d:D),k<N->qg.length+k<=900->PaperIs n rs one qe k qg d->WishOk n rs one qe qg k wish ->
  zaQ N [.int n,.lst a (rs.map runD),d,.int k,.lst b (qg.map D.int),wish] (·=.bl true)
 |k,N+1,a,b,qg,d,hN,hs,hp,wo=>by
  unfold zaQ fnW zaF;rw[YAb,YAb,YAb,YAb,YAb,YAb,zcd hp,zal,zal,zaM,zbm,hw];obtain⟨kind,mark,line,ds,hd,hds,e⟩:∃kind mark line ds,headIs n rs one qe qg kind mark line/\(ds=[]/\k=0\/∃k',k=k'+1/\All2 (λh p=>∃q,p=.tup [.int h,q]/\PaperIs n rs one qe k' (qg++[h]) q) (zbF rs line) ds)/\d=.tup [.str kind,.int mark,.tup (line.map D.int),.tup ds]:=by
   cases k with
   |zero=>obtain⟨kind,mark,line,h1,h2⟩:=hp;exact⟨kind,mark,line,[],h1,.inl ⟨rfl,rfl⟩,h2⟩
   |succ k=>obtain⟨kind,mark,line,ds,h1,h2,h3⟩:=hp;exact⟨kind,mark,line,ds,h1,.inr ⟨k,rfl,h2⟩,h3⟩
  subst e;obtain⟨nd,hb⟩:=hd.line F;have hb':∀z∈line,0<=z/\z<(rs.length:Int):=λz hz=>⟨(hb z hz).1,(hb z hz).2.1⟩;have hll:=zdv F.len nd hb';have ih:∀k',k=k'+1->∀h∈zbF rs line,∀q,PaperIs n rs one qe k' (qg++[h]) q->zaQ N [.int n,.lst false (rs.map runD),q,.int k',.lst true ((qg++[h]).map D.int),wish] (·=.bl true):=λk' hk h hh q hq=>by
   subst hk;exact zdI F o0 o1 hw k' N false true (qg++[h]) q (by omega) (by simp;omega) hq (wo.next (zeS hb' hh))
  have anyNo:∀{t:Tg}{Q:D->Prop},Q (.bl false)->anyF [.lst true (line.map λz=>D.bl (qg.contains (Fen.runAt rs z).hand))] Q:=λ{t Q} q=>by
   refine zoL (f:=λz=>qg.contains (Fen.runAt rs z).hand) (xs:=line) (n:=true) ?_;rw[show(line.any λz=>qg.contains (Fen.runAt rs z).hand)=false from List.any_eq_false.mpr λz hz=>by rw[(hb z hz).2.2];decide];exact q
  obtain⟨kr,kl,ir,il⟩:=zrF;obtain⟨⟨r1,r2⟩,⟨r3,r4⟩,⟨r5,r6⟩,r7,r8⟩:=zqS;rcases hd with⟨rfl,ring⟩|⟨rfl,rfl,rn,li⟩
  .obtain⟨m0,m1,ne,_,_,_,t,wk,t0⟩:=ring.some F.marks F.n1 F.apart;refine⟨rfl,?_⟩;show if decide ((0:Int)<=mark)=true then _ else _;rw[YAw m0,if_pos rfl];show if (!decide (mark<(n:Int)))=true then _ else _;rw[YAw m1];refine⟨by show 2<=100000;decide,kr,?_⟩;show if (!inB (.str "ring") [.str "ring",.str "line"])=true then _ else _;rw[ir];refine⟨rfl,zaS (zd3 false rs mark line mark t hll nd wk) λd hd=>?_⟩;subst hd;refine⟨by rw[YAc];omega,zaX D.int (λz=>.bl (qg.contains (Fen.runAt rs z).hand)) line (λz hz qo N y=>zdA (hb' z hz).1 (hb' z hz).2 ?_) (anyNo (t:=.nm 0) ?_)⟩
   .exact zm7 (n:=false) y
   refine⟨r1,?_⟩;rw[r2];refine⟨by show 0<=100000;decide,zh5 line [],?_⟩;show if eqB (.tup (line.map D.int)) (.tup (([]:List Int).map D.int))=true then _ else _;rw[zkP,YAC ne];refine⟨zay _ _,?_⟩;rw[zaZ,YAw rfl];refine⟨zay _ _,?_⟩;rw[zaZ,YAC t0];refine⟨r3,?_⟩;rw[r4];exact zj5 F hs (.inl ⟨rfl,ring⟩) hds ih
  .have wo1:=wo [] (YAH _) (λh z=>by cases z) line;rw[YAN]at wo1;obtain⟨t,wk,rfl⟩:=wo1 rn li;refine⟨rfl,?_⟩;show if decide ((0:Int)<=mark)=true then _ else _;rw[YAw o0,if_pos rfl];show if (!decide (mark<(n:Int)))=true then _ else _;rw[YAw o1];refine⟨by show 2<=100000;decide,kl,?_⟩;show if (!inB (.str "line") [.str "ring",.str "line"])=true then _ else _;rw[il];refine⟨rfl,zaS (zd3 false rs mark line qe t hll nd wk) λd hd=>?_⟩;subst hd;refine⟨by rw[YAc];omega,zaX D.int (λz=>.bl (qg.contains (Fen.runAt rs z).hand)) line (λz hz qo N y=>zdA (hb' z hz).1 (hb' z hz).2 ?_) (anyNo (t:=.nm 0) ?_)⟩
   .exact zm7 (n:=false) y
   refine⟨r5,?_⟩;rw[r6];refine⟨r7,?_⟩;rw[r8];refine⟨zlW _ _ (by decide +kernel),?_⟩;rw[zoU];refine⟨by show 1<=100000;decide,by show 1+2<=100000;decide,?_⟩;show eqOk (.tup ([mark,qe,t].map D.int)) (.tup ([mark,qe,t].map D.int))/\_;refine⟨zh5 _ _,?_⟩;show if (!eqB (.tup ([mark,qe,t].map D.int)) (.tup ([mark,qe,t].map D.int)))=true then _ else _;rw[zkP,YAw rfl];exact zj5 F hs (.inr ⟨rfl,rfl,rn,li⟩) hds ih
def zdF{n:Nat}{rs:List Rn}{one qe:Int}(F:Few2 n rs)(o0:0<=one)(o1:one<n){wish:D}(hw:wish.old=wish)(a:Bool)(k:Nat)(d:D)(hk:k<=5)(hp:PaperIs n rs one qe k [] d)(wo:WishOk n rs one qe [] k wish):zbD [.int n,.lst a (rs.map runD),d,.int k,wish] (·=.bl true):=by
 unfold zbD fnW zaF;rw[YAb,YAb,YAb,YAb,YAb,zcd hp,zal,zal,zaM,hw];refine⟨rfl,zaS (zdo F k 6 [] d (by omega) (by omega) hp) λe he=>?_⟩;subst he;refine⟨by show 0<=100000;decide,rfl,zaS (zdI F o0 o1 hw k 6 false true [] d (by omega) (by simp;omega) hp wo) λe he=>?_⟩;subst he;rfl
def okOO:eqOk (.str "open") (.str "open")/\eqB (.str "open") (.str "open")=true:=⟨zd2 _ _ (by decide +kernel) (by decide +kernel),by decide +kernel⟩
def zmJ(r:Int):zaG (.tup [.str "sure",.int r]) 5=true:=by
 show(decide (2<=1000)&&(PyData.canLay0 (.str "sure")&&(true&&true)))=true
 decide +kernel
def zmE(r:Int):D.old (.tup [.str "sure",.int r])=.tup [.str "sure",.int r]:=by rw[zdw,zc2,zal]
def zlQ:D.old (.tup [.str "open"])=.tup [.str "open"]:=by rw[D.old];simp only[YAb,YBM,zc2]
def zm1(T:ToldSure n rs qf one qe rise d):WishOk n rs one qe [] qf (.tup ([one,qe,rise].map D.int)):=λext hl he line rn li=>by
 rw[YA4]at rn li;obtain⟨⟨t,wk⟩,_,hb,_⟩:=li.some;refine⟨t,wk,?_⟩;have hy:=zfG rn;obtain⟨j,hj,hm⟩:=zhw he (by omega:(ext.length:Int)<=qf);obtain⟨f,R⟩:=zpd (mem_sets.mpr ⟨⟨j,hj,hm⟩,by rw[zca];exact hy⟩);have q:=T.all _ f R;have w2:=Fen.zfv (f:=f) (λz hz=>by
  obtain⟨z0,z1,z2⟩:=hb z hz;refine R.fit _ ?_;rw[zca];have hn:z.toNat<rs.length:=by omega
  have e:Fen.runAt rs z=rs[z.toNat]:=by unfold Fen.runAt;rw[YAt,YAe hn];rfl
  refine YA6.mpr ⟨by rw[e];exact YBT hn,by rw[z2];rfl⟩) wk
 have:t=rise:=by omega
 rw[this]
def zk4{n:Nat}{rs:List Rn}{qf:Nat}{one qe rise:Int}{d:D}(F:Few2 n rs)(o0:0<=one)(o1:one<n)(hm:qf<=5)(a:Bool)(T:ToldSure n rs qf one qe rise d):zaw [.int n,.lst a (rs.map runD),.int qf,.int one,.int qe,d,.tup [.str "sure",.int rise]] (·=.bl true):=by
 obtain⟨p,rfl,hp⟩:=T.pap;obtain⟨k1,k2,k3,k4,k5,k6⟩:=okSS;obtain⟨e1,e2,e3,e4,e5,e6⟩:=eqSS;unfold zaw fnW zaF;rw[YAb,YAb,YAb,YAb,YAb,YAb,YAb,zjb,zmE,zcd hp,zaM,zal,zal,zal,zal];refine⟨zay _ _,?_⟩;show if eqB (.int 3) (.int 0)=true then _ else _;rw[zaZ];refine⟨k3,?_⟩;rw[e3];refine⟨k1,?_⟩;rw[e1];refine⟨k3,?_⟩;rw[e3];refine⟨zay _ _,?_⟩;show if (!eqB (.int 3) (.int 3))=true then _ else _;rw[zaZ];refine⟨rfl,zaS (zen 5 (.tup [.str "sure",.int rise]) (.tup [.str "sure",.int rise]) rfl (zmJ rise)) λd hd=>?_⟩;subst hd;refine⟨by show 3<=100000;decide,rfl,?_⟩;exact zaS (zdF F o0 o1 (wish:=.tup ([one,qe,rise].map D.int)) (zdj _) false qf p hm hp (zm1 T)) λd hd=>hd
def zlG{n:Nat}{rs:List Rn}{qf:Nat}{one qe:Int}{d:D}(F:Few2 n rs)(o0:0<=one)(o1:one<n)(p0:0<=qe)(p1:qe<n)(a:Bool)(T:ToldOpen n rs qf one qe d):zaw [.int n,.lst a (rs.map runD),.int qf,.int one,.int qe,d,.tup [.str "open"]] (·=.bl true):=by
 obtain⟨l,h,l',h',rfl,r1,r2,ne⟩:=T.ex;obtain⟨k1,k2,k3,k4,k5,k6⟩:=okSS;obtain⟨e1,e2,e3,e4,e5,e6⟩:=eqSS;obtain⟨oo,oe⟩:=okOO;have hrl:=F.len;have hn:=F.n1;have bd:∀{l h},RdOk n rs (cntR qf rs) l h->zhv n rs qf l h=true/\l.length<64:=λ{l h} r=>by
  obtain⟨⟨j,hj,hm⟩,_⟩:=mem_sets.mp r.mem;obtain⟨q1,q2,q3⟩:=mem_lists.mp hm;have hh:=F.qh;have hlen:l.length<=(zap rs).length:=L2.zaB (zb7 q2) q3;exact⟨zoc (by unfold cntR at hj;split at hj<;>omega) q2 q3 r.len r.fit,by omega⟩
 unfold zaw fnW zaF;rw[YAb,YAb,YAb,YAb,YAb,YAb,YAb,zjm,zlQ,zaM,zal,zal,zal,zal];have ep:∀l h,(zc1 l h).old=.tup [.lst false (l.map D.int),.lst false (h.map D.int)]:=λl h=>ziM true true l h;rw[ep,ep];refine⟨zay _ _,?_⟩;show if eqB (.int 3) (.int 0)=true then _ else _;rw[zaZ];refine⟨oo,?_⟩;rw[oe];refine⟨k4,?_⟩;rw[e4];refine⟨k5,?_⟩;rw[e5];refine⟨zay _ _,?_⟩;show if (!eqB (.int 3) (.int 3))=true then _ else _;rw[zaZ];show _/\zbd _ _ _ _ _ ([(l,h),(l',h')].map λp:List Int×List Int=>D.tup [.lst false (p.1.map D.int),.lst false (p.2.map D.int)]) [];have okp:∀p∈[(l,h),(l',h')],RdOk n rs (cntR qf rs) p.1 p.2:=λp hp=>by
  simp only[YAk,YAO,YBG]at hp;rcases hp with rfl|rfl
  .exact r1
  .exact r2
 refine⟨by show 2<=100000;decide,zaX _ (λ_=>.bl true) [(l,h),(l',h')] (λp hp qo N y=>⟨rfl,zaS (zeJ _ _ _ n qf rs p.1 p.2 hrl (bd (okp p hp)).2 (by rw[(okp p hp).len];omega) F.marks) λd hd=>?_⟩) ?_⟩
 .rw[(bd (okp p hp)).1]at hd;subst hd;exact y
 refine zcS (f:=λ_=>true) (xs:=[(l,h),(l',h')]) (n:=true) ?_;show _/\zbd _ _ _ _ _ ([(l,h),(l',h')].map λp:List Int×List Int=>D.tup [.lst false (p.1.map D.int),.lst false (p.2.map D.int)]) [];refine⟨by show 2<=100000;decide,zaX _ (λp:List Int×List Int=>.int (Fen.gI p.2 qe-Fen.gI p.2 one)) [(l,h),(l',h')] (λp hp qo N y=>?_) ?_⟩
 .have:=(okp p hp).len
  exact zaN p0 (by omega) (zaN o0 (by omega) y)
 refine⟨rfl,zay _ _,?_⟩;rw[zaZ,YAC (λz=>ne z.symm)];rfl
end Fd
set_option maxHeartbeats 2000000
set_option maxHeartbeats 2000000
set_option maxHeartbeats 2000000
namespace L2
open PySem PySem.Spec PyProof.Rows PySem.W
def KOk{α:Type}(n:Nat):KasT α->(α->Prop)->Prop
 |.ret a,Q=>Q a
 |.ask i j k,Q=>i<n/\j<n/\∀b,KOk n (k b) Q
theorem KOk.bind{α β:Type}{n:Nat}{f:α->KasT β}{Q:β->Prop}:∀{t:KasT α},KOk n t (λa=>KOk n (f a) Q)->KOk n (t.bind f) Q
 |.ret _,h=>h
 |.ask _ _ _,⟨h1,h2,h3⟩=>⟨h1,h2,λb=>KOk.bind (h3 b)⟩
theorem KOk.mono{α:Type}{n:Nat}{Q R:α->Prop}(k:∀a,Q a->R a):∀{t:KasT α},KOk n t Q->KOk n t R
 |.ret a,h=>k a h
 |.ask _ _ _,⟨h1,h2,h3⟩=>⟨h1,h2,λb=>KOk.mono k (h3 b)⟩
theorem KOk.wp{α:Type}{n:Nat}{cmp:Nat->Nat->(Bool->Shared->Prop)->Shared->Prop}{s:Shared}(hc:∀i j C,i<n->j<n->(∀b,C b s)->cmp i j C s){Q:α->Prop}{R:α->Shared->Prop}(k:∀a,Q a->R a s):∀{t:KasT α},KOk n t Q->t.kasWp cmp R s
 |.ret a,h=>k a h
 |.ask i j f,⟨h1,h2,h3⟩=>hc i j _ h1 h2 λb=>KOk.wp hc k (h3 b)
section
variable{N:Nat}
structure Pm(N:Nat)(p:Array Nat):Prop where
 perm:p.toList.Perm (List.range N)
theorem Pm.size{p:Array Nat}(h:Pm N p):p.size=N:=by have:=h.perm.length_eq;simpa using this
def Pm.lt{p:Array Nat}(h:Pm N p){i:Nat}(hi:i<N):p.getD i 0<N:=by
 have hs:i<p.size:=by rw[h.size];exact hi
 rw[show p.getD i 0=p[i] by simp[Array.getD,hs]];exact YBc.mp (h.perm.mem_iff.mp (by rw[<-YCt];exact YBT _))
def ziz{p:Array Nat}(h:Pm N p)(i j:Nat):Pm N (kas_rev p i j):=⟨(Array.perm_iff_toList_perm.mp (mirror_perm p i j _)).trans h.perm⟩
def zrv{p:Array Nat}(h:Pm N p)(i j:Nat):Pm N (bubble p i j):=⟨(Array.perm_iff_toList_perm.mp (bubble_perm p i j)).trans h.perm⟩
theorem zna{p:Array Nat}(hp:Pm N p):∀(f n:Nat),1<=n->n+f<=N->KOk N (kas_asc p f n) (λm=>1<=m/\m<=N)
 |0,n,h1,e=>⟨h1,e⟩
 |f+1,n,h1,e=>⟨hp.lt (by omega),hp.lt (by omega),λb=>by
  cases b
  .exact zna hp f (n+1) (by omega) (by omega)
  .exact⟨h1,by omega⟩⟩
theorem zhi:∀(f:Nat)(p:Array Nat)(n q:Nat),Pm N p->1<=n->n+f<=N->KOk N (kas_desc f p n q) (λr=>Pm N r.1/\1<=r.2.1/\r.2.1<=N)
 |0,p,n,q,hp,h1,e=>⟨hp,h1,e⟩
 |f+1,p,n,q,hp,h1,e=>⟨hp.lt (by omega),hp.lt (by omega),λb=>by
  cases b
  .refine⟨hp.lt (by omega),hp.lt (by omega),λd=>?_⟩;cases d
   .exact zhi f p (n+1) (q+1) hp (by omega) (by omega)
   .exact⟨hp,h1,by show n<=N;omega⟩
  .show KOk N (if q>0 then _ else _) _;split
   .exact zhi f _ (n+1) 0 (ziz hp _ _) (by omega) (by omega)
   .exact zhi f p (n+1) 0 hp (by omega) (by omega)⟩
def Half(N:Nat)(r:Nat×Array Nat):Prop:=1<=r.1/\r.1<=N/\Pm N r.2
def zkM{p:Array Nat}{n:Nat}(hp:Pm N p)(h1:1<=n)(hn:n<=N):KOk N (kas_tail3 n N p) (Half N):=
 KOk.bind ((zna (ziz hp 0 n) (N-n) n h1 (by omega)).mono λm ⟨a,b⟩=>⟨a,b,ziz hp 0 n⟩)
def zkg{p:Array Nat}{n:Nat}(hp:Pm N p)(hn:n<N):KOk N (kas_descPart n N p) (Half N):=
 KOk.bind ((zhi (N-(n+1)) p (n+1) 0 hp (by omega) (by omega)).mono λr ⟨a,b,c⟩=>by
  show KOk N (if r.2.2>0 then _ else _) _;split
  .exact zkM (ziz a _ _) b c
  .exact zkM a b c)
def znX{p:Array Nat}(hp:Pm N p)(h1:1<=N):KOk N (kas_count N p) (Half N):=
 KOk.bind ((zna hp (N-1) 1 (by omega) (by omega)).mono λm ⟨a,b⟩=>by
  show KOk N (if (m==N)=true then _ else _) _;split
  .exact⟨a,b,hp⟩
  .rename_i e
   have hm:m<N:=by have:m≠N:=λz=>e (by simp[z]);omega
   split
   .refine⟨hp.lt (by omega),hp.lt (by omega),λc=>?_⟩;cases c
    .exact zkg (ziz hp 0 m) hm
    .exact⟨a,b,hp⟩
   .exact zkg hp hm)
theorem zhU{p:Array Nat}{k:Nat}(hp:Pm N p)(hk:k<N):∀(f l r:Nat),r<=k->KOk N (kas_place p k f l r) (λ_=>True)
 |0,l,r,_=>trivial
 |f+1,l,r,h=>by
  unfold kas_place;split
  .trivial
  .refine⟨hp.lt hk,hp.lt (by omega),λb=>?_⟩;cases b
   .exact zhU hp hk f _ r h
   .exact zhU hp hk f l _ (by omega)
theorem zpj:∀(f k:Nat)(p:Array Nat),Pm N p->k+f<=N->KOk N (kas_bin f p k) (Pm N)
 |0,k,p,hp,e=>hp
 |f+1,k,p,hp,e=>KOk.bind ((zhU hp (by omega) k 0 k (by omega)).mono λl _=>zpj f (k+1) _ (zrv hp k (k-l)) (by omega))
def zqt(h1:1<=N):KOk N (kas_sort N) (Pm N):=
 KOk.bind ((znX ⟨by simp⟩ h1).mono λr ⟨a,b,c⟩=>by
  show KOk N (if r.1<N then _ else _) _;split
  .exact zpj _ _ r.2 c (by omega)
  .exact c)
end
end L2
namespace HT
open PySem PyProof.Rows
section
open PySem.SeqAt
open PySem.AutoSeq1 (wpAny_loadPart')
open PySem.MeetsSeq PySem.MeetsSeq2 PySem.MeetsSeq3
def ziO(items:Array Value)(ns:List Int):Prop:=items.size=ns.length/\∀j (h:j<items.size),∃t,items[j]=.int (ns.getD j 0) t
def zjn{ns:List Int}{i:Nat}(h:i<ns.length):ns.drop i=ns.getD i 0::ns.drop (i+1):=by
 rw[YAW h,YAt,YAe h];rfl
def zpK(l b:Addr)(items items2:Array Value)(n n2:Nat)(dd dd2:Option Addr)(sl sl2:Array (Option Value))(ns ms:List Int)(x1:ziO items ns)(x2:ziO items2 ms)(hsz:ns.length=ms.length)(k:Nat) :
  ∀i:Nat,items.size-i=k->Meets (Builtin.«list.__eq__.loop» ⟨[.ref l,.ref b,rawInt i,rawInt 0],[]⟩)
   (λ_ R s=>s.heap.get? l=some {cls:=.type "list",dict:=dd,data:=.seq items n,slots:=sl}/\s.heap.get? b=some {cls:=.type "list",dict:=dd2,data:=.seq items2 n2,slots:=sl2} /\
    R (.ok (.ret (.bool (zhK (ns.drop i) (ms.drop i))))) s):=by
 obtain⟨z1,y1⟩:=x1;obtain⟨z2,y2⟩:=x2
 induction k with
 |zero=>
  intro i hk prog w A R s h;obtain⟨hp,g,d,tk,os⟩:=s;obtain⟨hl,hb,h⟩:=h
  wp_walk using YBi hl,YBi hb
  have hi1:items[((i:Nat):Int).toNat]?=none:=by simp;omega
  have hi2:items2[((i:Nat):Int).toNat]?=none:=by simp;omega
  rw[List.drop_of_length_le (by omega),List.drop_of_length_le (by omega),zha]at h;rw[hi1,hi2]
  wp_walk using YBi hl,YBi hb
  show R (.ok (.ret (.bool (decide (items.size<items2.size))))) _;rw[YAC (by omega)];exact h
 |succ k ih=>
  intro i hk prog w A R s h;obtain⟨hp,g,d,tk,os⟩:=s;obtain⟨hl,hb,h⟩:=h
  wp_walk using YBi hl,YBi hb
  have hlt:i<items.size:=by omega
  have hlt2:i<items2.size:=by omega
  obtain⟨t,et⟩:=y1 i hlt;obtain⟨u,eu⟩:=y2 i hlt2;have hi1:items[((i:Nat):Int).toNat]?=some (.int (ns.getD i 0) t):=by rw[<-et];simp[hlt]
  have hi2:items2[((i:Nat):Int).toNat]?=some (.int (ms.getD i 0) u):=by rw[<-eu];simp[hlt2]
  have hc:((i:Int)+1)=((i+1:Nat):Int):=by push_cast;rfl
  rw[zjn (by omega),zjn (ns:=ms) (by omega),zlf]at h;rw[hi1,hi2];obtain⟨e,he,hiff⟩:=zoW A.in1 ⟨hp,g,d,tk,os⟩ (ns.getD i 0) t (ms.getD i 0) u;refine YAa (he prog w _ _ ?_);cases e with
  |true=>
   rw[if_pos (hiff.mp rfl)]at h
   wp_walk
   rw[hc];exact⟨YCC plain_eq_loop _,YBv entry_eq_loop (by
    rw[YB4 plain_eq_loop _];exact ih (i+1) (by omega) prog w A R _ ⟨hl,hb,h⟩)⟩
  |false=>
   rw[if_neg (λq=>absurd (hiff.mpr q) YAA)]at h
   wp_walk using YBi hl,YBi hb
   rw[hi1,hi2];have hri:=zom A.in1 ⟨hp,g,d,tk,os⟩ (ns.getD i 0) t (ms.getD i 0) u prog w
   wp_walk using hri
   simpa using h
def zix(l b:Addr)(items items2:Array Value)(n n2:Nat)(dd dd2:Option Addr)(sl sl2:Array (Option Value))(ns ms:List Int)(x1:ziO items ns)(x2:ziO items2 ms)(hsz:ns.length=ms.length) :
  Meets (Builtin.«list.__lt__» ⟨[.ref l,.ref b],[]⟩)
   (λ_ R s=>s.heap.get? l=some {cls:=.type "list",dict:=dd,data:=.seq items n,slots:=sl}/\s.heap.get? b=some {cls:=.type "list",dict:=dd2,data:=.seq items2 n2,slots:=sl2} /\
    R (.ok (.ret (.bool (zhK ns ms)))) s):=by
 intro prog w A R s h;obtain⟨hp,g,d,tk,os⟩:=s;obtain⟨hl,hb,h⟩:=h;have f3:=AutoSeq1.sub_list_list
 wp_walk using YBi hl,YBi hb
 exact⟨YCC plain_eq_loop _,YBv entry_eq_loop (by
  rw[YB4 plain_eq_loop _];exact zpK l b items items2 n n2 dd dd2 sl sl2 ns ms x1 x2 hsz _ 0 rfl prog w A R _ ⟨hl,hb,by simpa using h⟩)⟩
end
section
variable{prog:Program}{w:World}{A:Around}{E:Value->Shared->Prop}{s:Shared}
def zjN{l b:Addr}{items items2:Array Value}{ns ms:List Int}{Q:Value->Shared->Prop}(hl:s.heap.IsList l items)(hb:s.heap.IsList b items2)(x1:ziO items ns)(x2:ziO items2 ms)(hsz:ns.length=ms.length)
  (hu:A.units<cLine) (h:Q (.bool (zhK ns ms)) s):wpAny (model prog w) A (compareOp .Lt (.ref l) (.ref b)) Q E s:=by
 obtain⟨⟨cls,dd,data,sl⟩,ho,hc,n,hd⟩:=id hl;obtain⟨⟨cls2,dd2,data2,sl2⟩,ho2,hc2,n2,hd2⟩:=id hb;simp only at hc hd hc2 hd2;subst hc hd hc2 hd2;exact richCompare_meets_room (op:=.Lt) ⟨_,ho,rfl⟩ ⟨_,ho2,rfl⟩ PySem.F.slot_list_lt PySem.F.entry_list_lt (PySem.F.args_list_lt_2 _ _) (zix l b items items2 n n2 dd dd2 sl sl2 ns ms x1 x2 hsz)
  ⟨ho,ho2,show Value.bool (zhK ns ms)≠Value.notImplemented/\Q (.bool (zhK ns ms)) s from⟨(λx=>nomatch x),h⟩⟩ hu
end
end HT
namespace L2
open PySem PySem.Spec PyProof.Rows PySem.W
section
variable{prog:Program}{w:World}{A:Around}{E:Value->Shared->Prop}{s:Shared}{vs:List Value}{κ:SortKind}
def zl2(vs out:List Value):Prop:=∃p:List Nat,p.Perm (List.range vs.length)/\out=p.map λi=>vs.getD i Value.none
def ziA{a:Addr}{n:Nat}{P:PySem.Fin->Shared->Prop}(ho:s.heap.get? a=some (seqObj "list" vs.toArray n))(h64:vs.length<64)
  (hkind:2<=vs.length->∀(h':Heap)(Q':SortKind->Shared->Prop),(∀b o,b≠a->s.heap.get? b=some o->h'.get? b=some o)->Q' κ {s with heap:=h'}->wpAny (model prog w) A (keyKind' vs.toArray) Q' (λ_ _=>False) {s with heap:=h'})
  (hlt:∀(i j:Nat)(h':Heap)(C:Bool->Shared->Prop),i<vs.length->j<vs.length->(∀b o,b≠a->s.heap.get? b=some o->h'.get? b=some o)->(∀b,C b {s with heap:=h'})->wpAny (model prog w) A (keyLt' κ (vs.getD i Value.none) (vs.getD j Value.none)) C (λ_ _=>False) {s with heap:=h'})
  (h:∀out:List Value,zl2 vs out->P (.done (.ret .none)) {s with heap:=sortedHeap s.heap a vs out.toArray}) :
  wpAny (model prog w) A (Builtin.«list.sort» ⟨[.ref a],[]⟩) P E s:=by
 rw[list_sort_plain];have ha:a<s.heap.objs.size:=YAl ho;refine YAa (listItems_at ho rfl ?_);refine YAa (listUpdate_at ho rfl ?_ (by rw[YAu,YAP];omega) (YAH _));obtain⟨e1,ho1⟩:∃e1,(s.heap.update a (Obj.mapSeq λ_=>#[])).get? a=some (seqObj "list" #[] e1):=⟨_,get?_update_seq ho (λ_=>#[])⟩;refine YAa (seqEpoch_at ho1 rfl ?_);refine YAa (YDT ?_ (by show vs.length<=_;rw[YAP];omega));refine YAa (YCD ?_ (YAH _));refine YAV ?_;have ho6:(((s.heap.update a (Obj.mapSeq λ_=>#[])).push (seqObj "tuple" vs.toArray 0)).push (seqObj "list" #[] 0)).get? a=some (seqObj "list" #[] e1):=by
  rw[YCc _ _ _ (by rw[YDQ,YCy];exact YAv (YA5 ha)),YCc _ _ _ (by rw[YCy];exact YAv ha)];exact ho1
 have kept:∀b o,b≠a->s.heap.get? b=some o->(((s.heap.update a (Obj.mapSeq λ_=>#[])).push (seqObj "tuple" vs.toArray 0)).push (seqObj "list" #[] 0)).get? b=some o:=λb o hb q=>by
  have hlt:b<s.heap.objs.size:=YAl q;rw[YCc _ _ _ (by rw[YDQ,YCy];exact YAv (YA5 hlt)),YCc _ _ _ (by rw[YCy];exact YAv hlt),Heap.get?_update_ne _ _ _ _ hb];exact q
 show wpAny (model prog w) A _ P E {s with heap:=((s.heap.update a (Obj.mapSeq λ_=>#[])).push (seqObj "tuple" vs.toArray 0)).push (seqObj "list" #[] 0)};dsimp only;by_cases h2:vs.toArray.size<2
 .rw[if_pos h2,if_pos h2];refine YAa (YAf ?_);rw[StateT.run_pure];refine YAa (YAf ?_);dsimp only;refine YAa (seqEpoch_at ho6 rfl ?_);refine YAa (listUpdate_at ho6 rfl ?_ (YAH _) (by rw[Array.size_map];show(pairsOf vs).size<=_;rw[pairsOf_size,YAP];omega));simp only[YCa,YAX,YBX];refine YAf ?_;have e:((vs.toArray.zip vs.toArray).map (·.2))=vs.toArray:=by
   apply Array.toList_inj.mp;rw[Array.toList_map];show(pairsOf vs).toList.map _=_;rw[pairsOf_toList,List.map_snd_zip (YAn _)]
  have:=h vs ⟨List.range vs.length,List.Perm.refl _,?_⟩
  .show P _ {s with heap:=sortedHeap s.heap a vs ((vs.toArray.zip vs.toArray).map (·.2))};rw[e];exact this
  .apply YBU
   .simp
   .intro i h1 h3;simp[h1]
 .rw[if_neg h2,if_neg h2];rw[YAu]at h2;refine YAa (YA2 (hkind (by omega) _ _ kept ?_) (λ_ _ z=>z) λ_ _ z=>z.elim);have est:SortSt.mk' κ (vs.toArray.zip vs.toArray) #[] 7 none=kas_st κ (pairsOf vs) (List.toArray (List.range vs.length)):=by
   have e:=kas_range (pairsOf vs);rw[pairsOf_size]at e;show SortSt.mk' κ (pairsOf vs) #[] 7 none=SortSt.mk' κ ((List.toArray (List.range vs.length)).map (kas_item (pairsOf vs))) #[] 7 none;rw[e]
  have ask:(kas_sort vs.length).kasWp (kas_cmp prog w A κ (pairsOf vs)) (λq s'=>s'={s with heap:=((s.heap.update a (Obj.mapSeq λ_=>#[])).push (seqObj "tuple" vs.toArray 0)).push (seqObj "list" #[] 0)}/\Pm vs.length q) {s with heap:=((s.heap.update a (Obj.mapSeq λ_=>#[])).push (seqObj "tuple" vs.toArray 0)).push (seqObj "list" #[] 0)}:=by
   refine(zqt (by omega)).wp (λi j C hi hj c=>?_) λq hq=>⟨rfl,hq⟩;rw[<-kas_ask_eq];exact hlt i j _ C hi hj kept c
  have run:=kas_runs (E:=E) (Q:=λ_ st' s'=>∃q:Array Nat,arrOf st'=q.map (kas_item (pairsOf vs))/\failedOf st'=none/\s'={s with heap:=((s.heap.update a (Obj.mapSeq λ_=>#[])).push (seqObj "tuple" vs.toArray 0)).push (seqObj "list" #[] 0)}/\Pm vs.length q)
   (by omega) h64 (λp' st' s' a1 a2 a3 a4=>⟨p',a2,a3,a4.1,a4.2⟩) ask
  rw[<-est]at run;refine YAa (YA2 run ?_ λ_ _ e=>e);rintro⟨⟨⟩,st'⟩ s' ⟨q,har,hf,rfl,pm⟩;dsimp only;have hout:(arrOf st').map (·.2)=List.toArray (q.toList.map λi=>vs.getD i Value.none):=by
   apply Array.toList_inj.mp;rw[har,Array.map_map,Array.toList_map];exact YBe λi _=>by show(kas_item (pairsOf vs) i).2=_;rw[kas_item_eq]
  have hsz:(List.toArray (q.toList.map λi=>vs.getD i Value.none)).size=vs.length:=by rw[YAu,YAc,YAZ,pm.size]
  rw[hout];refine YAa (seqEpoch_at ho6 rfl ?_);refine YAa (listUpdate_at ho6 rfl ?_ (YAH _) (YAQ (Nat.le_of_eq hsz) (by rw[YAP];omega)));rw[hf];simp only[YCa,YAX,YBX];exact YAf (h _ ⟨q.toList,pm.perm,rfl⟩)
def znq{l:Addr}{Q:Value->Shared->Prop}(hl:s.heap.IsList l vs.toArray)(h64:vs.length<64)
  (hkind:2<=vs.length->∀(h':Heap)(Q':SortKind->Shared->Prop),(∀b o,s.heap.get? b=some o->h'.get? b=some o)->Q' κ {s with heap:=h'}->wpAny (model prog w) A.in1.in1 (keyKind' vs.toArray) Q' (λ_ _=>False) {s with heap:=h'})
  (hlt:∀(i j:Nat)(h':Heap)(C:Bool->Shared->Prop),i<vs.length->j<vs.length->(∀b o,s.heap.get? b=some o->h'.get? b=some o)->(∀b,C b {s with heap:=h'})->wpAny (model prog w) A.in1.in1 (keyLt' κ (vs.getD i Value.none) (vs.getD j Value.none)) C (λ_ _=>False) {s with heap:=h'})
  (h:∀out:List Value,zl2 vs out->Q (.ref (s.heap.objs.size+1)) {s with heap:=sortedAll s.heap vs out.toArray}) :
  wpAny (model prog w) A (call (.builtin "sorted") [.ref l]) Q E s:=by
 refine YCu kind_sorted plain_sorted entry_sorted (args_sorted1 _) ?_;unfold Builtin.«sorted»;refine YAa (m:=checkCount "sorted" 1 1 _) (YAf ?_);refine YAa (collect_list hl ?_ (by rw[YAP];omega));refine YAa (YCD ?_ (by rw[YAP];omega));have hsz:((s.heap.push (seqObj "list" #[] 0)).update s.heap.objs.size (Obj.mapSeq (·++vs.toArray))).objs.size=s.heap.objs.size+1:=by
  rw[YCy,YDQ]
 have hoL:(((s.heap.push (seqObj "list" #[] 0)).update s.heap.objs.size (Obj.mapSeq (·++vs.toArray))).push (seqObj "list" vs.toArray 0)).get? (s.heap.objs.size+1)=some (seqObj "list" vs.toArray 0):=by
  rw[<-hsz];exact YAr _ rfl
 have keep:∀b o,s.heap.get? b=some o->(((s.heap.push (seqObj "list" #[] 0)).update s.heap.objs.size (Obj.mapSeq (·++vs.toArray))).push (seqObj "list" vs.toArray 0)).get? b=some o:=λb o q=>by
  have hlt:b<s.heap.objs.size:=YAl q;rw[YCc _ _ _ (by rw[hsz];exact YAv (YA5 hlt)),Heap.get?_update_ne _ _ _ _ (YAv hlt),YCc _ _ _ (YAv hlt)];exact q
 show wpAny _ _ _ _ _ {s with heap:=((s.heap.push (seqObj "list" #[] 0)).update s.heap.objs.size (Obj.mapSeq (·++vs.toArray))).push (seqObj "list" vs.toArray 0)};rw[hsz];have low:∀b o,s.heap.get? b=some o->b≠s.heap.objs.size+1:=λb o q=>YAv (YA5 (YAl q));refine YAa (YAV (YAU YDU ⟨_,hoL,rfl⟩ YDI (ziA (κ:=κ) hoL h64 (λh2 h' Q' kp q=>hkind h2 h' Q' (λb o e=>kp b o (low b o e) (keep b o e)) q) (λi j h' C hi hj kp c=>hlt i j h' C hi hj (λb o e=>kp b o (low b o e) (keep b o e)) c) λout ho=>⟨_,rfl,?_⟩) (YDV _)));exact YAf ⟨_,rfl,h out ho⟩
end
end L2
namespace L2
open PySem PySem.Spec PyProof.Rows PySem.W HT
abbrev Pr:=Int×List Int
def PairAt(h:Heap)(v:Value)(x:Pr):Prop:=∃(t a:Addr)(tk:Tok)(items:Array Value),v=.ref t/\IsTup h t #[.int x.1 tk,.ref a]/\h.IsList a items/\ziO items x.2/\x.1=x.2.length
def PairAt.kept{h h':Heap}{v:Value}{x:Pr}(p:PairAt h v x)(k:∀b o,h.get? b=some o->h'.get? b=some o):PairAt h' v x:=by
 obtain⟨t,a,tk,items,e,⟨o,ho,q⟩,⟨o2,ho2,q2⟩,r⟩:=p;exact⟨t,a,tk,items,e,⟨o,k _ _ ho,q⟩,⟨o2,k _ _ ho2,q2⟩,r⟩
section
variable{prog:Program}{w:World}{A:Around}{s:Shared}
def zpM{u v:Value}{x y:Pr}{C:Bool->Shared->Prop}(hu:A.units<cLine)(p:PairAt s.heap u x)(q:PairAt s.heap v y)(c:∀b,C b s):wpAny (model prog w) A (keyLt' (tuples' true) u v) C (λ_ _=>False) s:=by
 obtain⟨t,a,tk,items,rfl,⟨o,ho,hc,n,hd⟩,hl,hi,hx⟩:=p;obtain⟨t2,a2,tk2,items2,rfl,⟨o2,ho2,hc2,n2,hd2⟩,hl2,hi2,hy⟩:=q;refine kat_lt ho hd ho2 hd2 ?_;show KatLex prog w A true (decide (2<2)) C [(.int x.1 tk,.int y.1 tk2),(.ref a,.ref a2)] 0 s;refine kat_cons ((YCB x.1 tk y.1 tk2:SeqAt.EqAt A s _ _ _) prog w _ _ ?_);by_cases e:x.1=y.1
 .have hsz:x.2.length=y.2.length:=by omega
  rw[show(x.1==y.1)=true by simp[e]];refine kat_yes (kat_cons ?_);have key:∀b:Bool,KatGo prog w A true (decide (2<2)) C (.ref a) (.ref a2) [] 1 b s:=λb=>by
   cases b with
   |true=>exact kat_yes (kat_nil (c _))
   |false=>exact kat_no (kat_one _ _ (zjN hl hl2 hi hi2 hsz hu (c _)))
  by_cases z:a=a2
  .subst z;exact(SeqAt.EqAt.same (.ref a):SeqAt.EqAt A s _ _ _) prog w _ _ (key true)
  .have R:=SeqAt.RcAt.lists (A:=A) (s:=s) (e:=λj=>x.2.getD j 0==y.2.getD j 0) hl hl2 (by rw[hi.1,hi2.1];exact hsz) hu λj h1 h2=>by
    obtain⟨t3,e3⟩:=hi.2 j h1;obtain⟨t4,e4⟩:=hi2.2 j h2;rw[e3,e4];exact YCB _ _ _ _
   exact SeqAt.EqAt.of_refs z R prog w _ _ (key _)
 .rw[show(x.1==y.1)=false by simp[e]];exact kat_no (oneLt_int (c _))
end
section
variable{X:Cx}
def zoG(K:qq)(H:Hp)(u:V)(x:Pr):Prop:=∃t a,u=.ref t/\SqT K H t [.int x.1,.ref a]/\SqL K H a (x.2.map V.int)/\x.1=x.2.length
def zox:∀{ns:List Int}{its:List Value},Vals (ns.map V.int) its->ziO its.toArray ns:=λ{ns its} r=>by
 have hl:=r.length;rw[YAc]at hl;refine⟨by rw[YAu];exact hl.symm,λj h=>?_⟩;have hj:j<ns.length:=by rw[YAu]at h;omega
 obtain⟨u,hu,ru⟩:=r.get (i:=j) (x:=.int (ns.getD j 0)) (by rw[YAq,YAe hj,YAt,YAe hj];rfl);obtain⟨t,rfl⟩:=ru;refine⟨t,?_⟩
 have:=YAi.mp hu
 obtain⟨_,e⟩:=this
 simpa using e
def znb{O:List (Addr×Obj)}{Y:St}{H:Hp}{s:Shared}{u:V}{v:Value}{x:Pr}(I:Inv X O Y H s)(r:RelV u v)(p:zoG X.K H u x):PairAt s.heap v x:=by
 obtain⟨t,a,rfl,ht,ha,e⟩:=p;cases r;obtain⟨its,rv,hp,_⟩:=I.tuple ht;obtain⟨v1,v2,rfl,r1,r2⟩:=zoD rv;obtain⟨tk,rfl⟩:=r1;cases r2;obtain⟨its2,rv2,hl,_⟩:=I.list ha;exact⟨t,a,tk,its2.toArray,rfl,hp,hl.isList,zox rv2,e⟩
theorem zmM{h:Heap}:∀{vs:List Value}{ps:List Pr},vs.length=ps.length->(∀(i:Nat)(v:Value)(x:Pr),vs[i]?=some v->ps[i]?=some x->PairAt h v x)->∃fs:List Value,fs.length=vs.length/\KatTups h vs fs/\∀f∈fs,∃n t,f=.int n t
 |[],[],_,_=>⟨[],rfl,.nil,λf h=>by cases h⟩
 |[],_::_,e,_=>by cases e
 |_::_,[],e,_=>by cases e
 |v::vs,x::ps,e,k=>by
  obtain⟨fs,h1,h2,h3⟩:=zmM (vs:=vs) (ps:=ps) (by simpa using e) λi v x a b=>k (i+1) v x a b;obtain⟨t,a,tk,items,rfl,⟨o,ho,hc,n,hd⟩,_⟩:=k 0 v x rfl rfl;refine⟨.int x.1 tk::fs,by simp[h1],.cons ho hc hd rfl h2,λf hf=>?_⟩;rcases YAk.mp hf with z|z
  .exact⟨_,_,z⟩
  .exact h3 f z
def ziT(hu:X.A.units+64<cLine):CallR X (.builtin "sorted") (λvs H Q=>∃(p:Addr)(us:List V)(ps:List Pr),vs=[.ref p]/\SqL X.K H p us/\us.length=ps.length/\ps.length<64/\(∀(i:Nat)(u:V)(x:Pr),us[i]?=some u->ps[i]?=some x->zoG X.K H u x) /\
  ∀(l:Addr)(idx:List Nat),H l=none->idx.Perm (List.range ps.length)->Q (.ref l) (upd H l (.lst (idx.map λi=>us.getD i .non)))):=by
 intro O s Y H vs us' Q I r h;obtain⟨p,us,ps,rfl,hq,hlen,h64,hp,q⟩:=h;obtain⟨u,rfl,rx⟩:=zda r;cases rx;obtain⟨its,rv,pl,hz⟩:=I.list hq;have hil:=rv.length;have pa:∀(i:Nat)(v:Value)(x:Pr),its[i]?=some v->ps[i]?=some x->PairAt s.heap v x:=λi v x e1 e2=>by
  have hi:i<us.length:=by have:=(YAi.mp e2).1;omega
  obtain⟨v',e3,r'⟩:=rv.get (YAe hi);rw[e1]at e3;cases e3;exact znb I r' (hp i _ x (YAe hi) e2)
 have at1:∀(h':Heap),(∀b o,s.heap.get? b=some o->h'.get? b=some o)->∀i,i<its.length->PairAt h' (its.getD i Value.none) (ps.getD i (0,[])):=λh' kp i hi=>by
  have hi2:i<ps.length:=by omega
  rw[YAt,YAt,YAe hi,YAe hi2];exact(pa i _ _ (YAe hi) (YAe hi2)).kept kp
 have hun:X.A.in1.in1.units<cLine:=by
  have:X.A.in1.in1.units=X.A.units+2:=rfl
  omega
 refine znq (κ:=tuples' true) pl.isList (by omega) (λh2 h' Q' kp q'=>?_) (λi j h' C hi hj kp c=>?_) λout ⟨idx,pm,eo⟩=>?_
 .obtain⟨fs,f1,f2,f3⟩:=zmM (h:=h') (vs:=its) (ps:=ps) (by omega) λi v x e1 e2=>(pa i v x e1 e2).kept kp;refine kat_kind (T:=.type "int") f2 (by omega) (λv hv=>?_) rfl q';obtain⟨n,t,rfl⟩:=f3 v hv;exact Looks.of_pure rfl
 .refine zpM hun (at1 h' kp i hi) (at1 h' kp j hj) c
 .have hn:H (s.heap.objs.size+1)=none:=I.hok.fresh (YBH _ _);have hk:∀b o,s.heap.get? b=some o->(sortedAll s.heap its out.toArray).get? b=some o:=λb o e=>sortedAll_old e;obtain⟨e,he⟩:=sortedAll_at s.heap its out.toArray;have hil2:its.length=ps.length:=by omega
  rw[hil2]at pm;have hb:∀i∈idx,i<ps.length:=λi hi=>YBc.mp (pm.mem_iff.mp hi);have hle:(idx.map λi=>us.getD i .non).length<=sizeLine:=by rw[YAc,pm.length_eq,YBC,YAP];omega
  have hv:Vals (idx.map λi=>us.getD i .non) out:=by
   rw[eo];clear pm hle eo
   induction idx with
   |nil=>exact .nil
   |cons i idx ih=>
    have hi:=hb i YAh;have hi2:i<us.length:=by omega
    obtain⟨v',e3,r'⟩:=rv.get (YAe hi2);refine .cons ?_ (ih λj hj=>hb j (YAj _ hj));show RelV (us.getD i .non) (its.getD i Value.none);rw[YAt,YAt,YAe hi2,e3];exact r'
  refine⟨.ref (s.heap.objs.size+1),upd H (s.heap.objs.size+1) (.lst (idx.map λi=>us.getD i .non)),I.laid (t':=s.toks) hk (YBH _ _) ⟨hle,out,e,hv,by simpa[seqObj]using he⟩,rfl,q _ idx hn pm⟩
end
end L2
namespace Fd
open PySem L2
section
variable{X:Cx}{c:Bk}
def prP(b:Bool)(x:Pr):D:=.tup [.int x.1,.lst b (x.2.map D.int)]
def zgD:FL
 |[.lst _ xs],Q=>∃(b:Bool)(ps:List Pr),xs=ps.map (prP b)/\ps.length<64/\(∀x∈ps,x.1=x.2.length)/\∀qs:List Pr,qs.Perm ps->Q (.lst true (qs.map (prP b)))
 |_,_=>False
def zp2:zcN zgD:=λds Q Q' k q=>by
 unfold zgD at q ⊢;split at q
 .obtain⟨b,ps,e,h1,h3,q⟩:=q;exact⟨b,ps,e,h1,h3,λms a=>k _ (q ms a)⟩
 .exact q.elim
def zrG{G H:Hp}{b:Bool}{x:Pr}{v:V}(gh:Same G H)(h:Rep c G (prP b x) v)(e:x.1=x.2.length):zoG c.K H v x:=by
 obtain⟨t,vs,rfl,ht,hv⟩:=h;obtain⟨v1,v2,rfl,e1,e2⟩:=zpW hv;have e1:v1=V.int x.1:=e1;subst e1;obtain⟨a,ws,rfl,ha,_,hw⟩:=e2;rw[reps_ints.mp hw]at ha;exact⟨t,a,rfl,zaT gh ht,SqL.of (gh _ _ ha),e⟩
def zfU{ps:List Pr}{idx:List Nat}(h:idx.Perm (List.range ps.length)):(idx.map λi=>ps.getD i (0,[])).Perm ps:=by
 have e:(List.range ps.length).map (λi=>ps.getD i (0,[]))=ps:=by
  apply YBU
  .simp
  .intro i h1 h2;simp[h2]
 have:=h.map λi=>ps.getD i (0,[])
 rwa[e]at this
def zok:zfe c zgD (λvs H Q=>∃(p:Addr)(us:List V)(ps:List Pr),vs=[.ref p]/\SqL c.K H p us/\us.length=ps.length/\ps.length<64/\(∀(i:Nat)(u:V)(x:Pr),us[i]?=some u->ps[i]?=some x->zoG c.K H u x) /\
  ∀(l:Addr)(idx:List Nat),H l=none->idx.Perm (List.range ps.length)->Q (.ref l) (upd H l (.lst (idx.map λi=>us.getD i .non)))):=by
 intro H G ds vs Q gh bx h0 rv q;unfold zgD at q;split at q
 .obtain⟨b,ps,rfl,h1,h3,q⟩:=q;obtain⟨v,rfl,a,us,rfl,ha,_,hw⟩:=zfZ rv;have hl:=hw.length;rw[YAc]at hl;refine⟨a,us,ps,rfl,SqL.of (gh _ _ ha),hl.symm,h1,λi u x e1 e2=>?_,λl idx hl' pm=>?_⟩
  .obtain⟨v',e3,r⟩:=hw.get (i:=i) (d:=prP b x) (by rw[YAq,e2];rfl);rw[e1]at e3;cases e3;exact zrG gh r (h3 x (YAz e2))
  .refine q _ (zfU pm) (.ref l) _ _ (Stp.new gh bx hl') ⟨l,_,rfl,zac,λ_=>h0 l hl',?_⟩;have hg:=zas gh hl';have hw':=hw.mono (zcc (o:=.lst (idx.map λi=>us.getD i .non)) hg);have hb:∀i∈idx,i<ps.length:=λi hi=>YBc.mp (pm.mem_iff.mp hi);clear pm;generalize upd G l _=G' at hw'
   induction idx with
   |nil=>rfl
   |cons i idx ih=>
    have hi:=hb i YAh;obtain⟨v',e3,r⟩:=hw'.get (i:=i) (d:=prP b (ps.getD i (0,[]))) (by rw[YAq,YAe hi,YAt,YAe hi];rfl);exact⟨us.getD i .non,_,rfl,by rw[YAt,e3];exact r,ih λj hj=>hb j (YAj _ hj)⟩
 .exact q.elim
def zpy{R:WL}(hR:DA X c [e] R)(hg:Gl X "sorted":=by rfl)(he:starEach [e] X.env=(false,eval e X.env)::starEach [] X.env:=by rfl)(hK:c.K=X.K:=by rfl)(hm:X.mg "sorted"=none:=by decreasing_trivial)(hu:X.A.units+64<cLine:=by decreasing_trivial):DE X c (.Call (.Name "sorted" p) [e] [] pos) (cbW zgD R):=
 zeG zp2 (ziT hu) (hK▸zok) hm YCb hR hg (by decide) (by decide) he rfl
end
end Fd
namespace Fd
open PySem L2
def zlg:List Str:=["ring","line","Ring",""]
def zso{P:Str->Prop}{kind:Str}(h:kind∈zlg)(h1:P "ring")(h2:P "line")(h3:P "Ring")(h4:P ""):P kind:=by
 unfold zlg at h;rcases YAk.mp h with rfl|h
 .exact h1
 rcases YAk.mp h with rfl|h
 .exact h2
 rcases YAk.mp h with rfl|h
 .exact h3
 rcases YAk.mp h with rfl|h
 .exact h4
 cases h
def prQ(p:Int×D):D:=.tup [.int p.1,p.2]
def ppD(kind:Str)(mark:Int)(line:List Int)(rest:List (Int×D)):D:=.tup [.str kind,.int mark,.tup (line.map D.int),.tup (rest.map prQ)]
def PpIs(w:Nat):Nat->D->Prop
 |0,_=>False
 |k+1,d=>∃kind mark line rest,kind∈zlg/\line.length<64/\rest.length<=w/\(∀p∈rest,PpIs w k p.2)/\d=ppD kind mark line rest
theorem PpIs.up{w:Nat}:∀{k:Nat}{d:D},PpIs w k d->PpIs w (k+1) d
 |k+1,_,⟨kind,mark,line,rest,h1,h2,h3,h4,e⟩=>⟨kind,mark,line,rest,h1,h2,h3,λp hp=>(h4 p hp).up,e⟩
def zo0{i:Nat}{A:WE}{E:En}{Z:Env}{xs:List D}(h:Z[i]?=some (.own xs))(q:A Z λd=>xs.length<100000/\E.nx (Z.set i (.own (xs++[d])))):appW i A E Z:=by
 unfold appW;rw[h];exact q
theorem zgH{P:Int->D->Prop}:∀{hs:List Int}{ds:List D},All2 (λh p=>∃q,p=.tup [.int h,q]/\P h q) hs ds->∃rest:List (Int×D),rest.length=hs.length/\ds=rest.map prQ/\∀p∈rest,P p.1 p.2
 |[],[],_=>⟨[],rfl,rfl,λp hp=>by cases hp⟩
 |h::hs,d::ds,⟨⟨q,e,hq⟩,a⟩=>by
  obtain⟨rest,h1,h2,h3⟩:=zgH a;refine⟨(h,q)::rest,by rw[YAK,h1];rfl,by rw[YAb,<-h2,e];rfl,λp hp=>?_⟩;rcases YAk.mp hp with rfl|hp
  .exact hq
  .exact h3 p hp
 |[],_::_,a=>a.elim
 |_::_,[],a=>a.elim
def zji{n:Nat}{rs:List Rn}{one qe:Int}{qg:List Int}{kind:Str}{mark:Int}{line:List Int}(h:headIs n rs one qe qg kind mark line):kind∈zlg:=by
 rcases h with⟨rfl,_⟩|⟨rfl,_⟩
 .unfold zlg;simp
 .unfold zlg;simp
theorem zkm{n:Nat}{rs:List Rn}{one qe:Int}(F:Few2 n rs):∀{k:Nat}{qg:List Int}{d:D},PaperIs n rs one qe k qg d->PpIs 10 (k+1) d
 |0,_,_,⟨kind,mark,line,h,e⟩=>by
  obtain⟨nd,hb⟩:=h.line F;exact⟨kind,mark,line,[],zji h,zdv F.len nd λz hz=>⟨(hb z hz).1,(hb z hz).2.1⟩,YAH _,λp hp=>(by cases hp),e⟩
 |k+1,qg,_,⟨kind,mark,line,ds,h,ha,e⟩=>by
  obtain⟨nd,hb⟩:=h.line F;obtain⟨rest,h1,rfl,h3⟩:=zgH (P:=λh q=>PaperIs n rs one qe k (qg++[h]) q) ha;have hb':∀z∈line,0<=z/\z<(rs.length:Int):=λz hz=>⟨(hb z hz).1,(hb z hz).2.1⟩
  have:=L2.zaB (xs:=zap rs) (zb7 (zbl ((line.map (Fen.runAt rs)).map Fen.Run.hand))) λx hx=>zeS hb' hx
  have h2:=F.qh;exact⟨kind,mark,line,rest,zji h,zdv F.len nd hb',by rw[h1];exact YAQ this h2,λp hp=>zkm F (h3 p hp),e⟩
def PpIs.upTo{w:Nat}{d:D}:∀{j k:Nat},PpIs w k d->k<=j->PpIs w j d
 |j,k,h,hj=>by
  induction hj with
  |refl=>exact h
  |step _ ih=>exact ih.up
noncomputable def zb4:Fn:=fnW 4 ((seqW (asgW (.nm 2) (valW (lstW (zab (valW (lstW nilA)) nilA))))
  (seqW (forW (seqI (vW 0)) (.nm 3) (asgW (.nm 2) (binW addD (vW 2) (valW (zaP [none,some 3,some 1] (seqI (vW 2)) (.nm 0) (blW (binW ltD (zcy 0) (vW 2))) (binW addD (vW 0) (valW (lstW (zab (vW 1) nilA)))))))))
  (retW (valW (zaP [none,none] (seqI (cbW zgD (zab (valW (zaP [none] (seqI (vW 2)) (.nm 0) noIf (tupW (zab (zcy 0) (zab (vW 0) nilA))))) nilA))) (.tp 2 (.cons (.nm 0) (.cons (.nm 1) .nil))) noIf (vW 1)))))))
noncomputable def zbW:Fn:=fnW 6 ((seqW (ownW 3 (lstW nilA))
  (seqW (forW (seqI (zau 2 zb4 (zab (zau 1 za0 (zab (vW 1) nilA)) (zab (vW 2) nilA)))) (.nm 4) (seqW (asgW (.nm 5) (zau 2 zbx (zab (vW 0) (zab (zau 2 zbC (zab (vW 1) (zab (vW 4) nilA))) nilA))))
  (ifS (blW (zlh (vW 5))) (appW 3 (tupW (zab (vW 4) (zab (ixvW 5 (kW (.int 0))) (zab (ixvW 5 (kW (.int 1))) nilA))))) nilS)))
  (frzW 3 (retW (vW 3))))))
def zeW(qf:Nat)(ls:List (List Int))(h:Int):List (List Int):=ls++(ls.filter λl=>decide (l.length<qf)).map (·++[h])
def allL(qf:Nat)(qh:List Int):List (List Int):=qh.foldl (zeW qf) [[]]
def ziv(qf:Nat)(hs:List Int)(h:Int):allL qf (hs++[h])=zeW qf (allL qf hs) h:=by unfold allL;rw[List.foldl_append];rfl
def zkp{P:List Int->Prop}(h0:P [])(h1:∀l x,P l->P (l++[x]))(l:List Int):P l:=by
 have:∀n (l:List Int),l.length=n->P l:=by
  intro n
  induction n with
  |zero=>intro l e;rw[YCF.mp e];exact h0
  |succ n ih=>
   intro l e;rcases snocs l with rfl|⟨m,a,rfl⟩
   .cases e
   .exact h1 m a (ih m (by rw[YAo,YBj]at e;omega))
 exact this _ l rfl
def zon(qf:Nat)(qh:List Int):∀l,l∈allL qf qh↔l.Sublist qh/\l.length<=qf:=by
 refine zkp (P:=λqh=>∀l,l∈allL qf qh↔l.Sublist qh/\l.length<=qf) ?_ ?_ qh
 .intro l;show l∈[[]]↔_;rw[YAg,List.sublist_nil];exact⟨λe=>⟨e,by rw[e];exact YAH _⟩,λh=>h.1⟩
 .intro hs h ih l;rw[ziv];unfold zeW;rw[YAm,ih,YAF];constructor
  .rintro(⟨h1,h2⟩|⟨m,hm,rfl⟩)
   .exact⟨h1.trans (List.sublist_append_left _ _),h2⟩
   .obtain⟨h1,h2⟩:=YA6.mp hm;refine⟨((ih m).mp h1).1.append (List.Sublist.refl _),?_⟩
    have:=YA3 h2
    rw[YAo,YBj];omega
  .rintro⟨h1,h2⟩;obtain⟨a,b,rfl,ha,hb⟩:=List.sublist_append_iff.mp h1;cases b with
   |nil=>rw[YAN]at h2 ⊢;exact .inl ⟨ha,h2⟩
   |cons x b=>
    have hb2:=hb.length_le;rw[YAK,YBj]at hb2;have eb:b=[]:=YCF.mp (by omega);subst eb;have ex:x=h:=by simpa using hb
    subst ex;rw[YAo,YBj]at h2;exact .inr ⟨a,YA6.mpr ⟨(ih a).mpr ⟨ha,by omega⟩,YAw (by omega)⟩,rfl⟩
def lgL(qf:Nat)(ns:List Nat):List Nat:=ns++(ns.filter λn=>decide (n<qf)).map (·+1)
def lgN(qf:Nat):Nat->List Nat
 |0=>[0]
 |k+1=>lgL qf (lgN qf k)
def zlZ(qf:Nat)(qh:List Int):(allL qf qh).map List.length=lgN qf qh.length:=by
 refine zkp (P:=λqh=>(allL qf qh).map List.length=lgN qf qh.length) rfl ?_ qh;intro hs h ih;rw[ziv,YAo,YBj];show _=lgL qf (lgN qf hs.length);rw[<-ih];unfold zeW lgL;rw[YAx,YAM,List.filter_map,YAM];congr 1;refine YBe λl _=>?_;show(l++[h]).length=l.length+1;rw[YAo,YBj]
def zp1:∀m<4,∀k<7,(lgN m k).length<64:=by decide
def zhz{qf:Nat}{qh:List Int}(hm:qf<4)(hh:qh.length<7):(allL qf qh).length<64:=by
 have:=congrArg List.length (zlZ qf qh)
 rw[YAc]at this;rw[this];exact zp1 qf hm _ hh
def zni(qf:Nat)(ls:List (List Int))(h:Int):(zeW qf ls h).length<=ls.length+ls.length:=by
 unfold zeW;rw[YAo,YAc]
 have:=YB0 (λl:List Int=>decide (l.length<qf)) ls
 omega
theorem znj(qf:Nat):∀(hs:List Int)(ls:List (List Int)),ls.length<=(hs.foldl (zeW qf) ls).length
 |[],ls=>YAn _
 |h::hs,ls=>YAQ (by unfold zeW;rw[YAo];omega) (znj qf hs (zeW qf ls h))
def keyL(l:List Int):Pr:=((l.length:Int),l)
def zgo(a:Bool)(qh:List Int)(qf:Nat)(hm:qf<4)(hh:qh.length<7):zb4 [.lst a (qh.map D.int),.int qf] (λd=>∃ms:List (List Int),d=.lst true (ms.map lsD)/\ms.Perm (allL qf qh)):=by
 unfold zb4 fnW zaF;rw[YAb,YAb,zbm,zal];refine⟨by show 0<=100000;decide,by show 1<=100000;decide,?_⟩;have hfew:=zhz hm hh;show zbB _ _ _ (qh.map D.int) _;refine zaY (λds Z=>∃(qi:List Int)(ls:List (List Int))(s3:Sl),ds=qi.map D.int/\qi.foldl (zeW qf) ls=allL qf qh/\Z=[.val (.lst false (qh.map D.int)),.val (.int qf),.val (.lst true (ls.map lsD)),s3]) ?_ ?_ _ _ ⟨qh,[[]],.un,rfl,rfl,rfl⟩
 .rintro x ds Z E' hn hc hr hb ⟨qi,ls,s3,e1,e2,rfl⟩;cases qi with
  |nil=>cases e1
  |cons h qi=>
   rw[YAb]at e1;injection e1 with e1 e3
   subst e1;have l1:=znj qf (h::qi) ls;rw[e2]at l1;have l2:=zni qf ls h;refine⟨by rw[YAc];omega,zcT lsD (λl=>if l.length<qf then some (lsD (l++[h]))else none) ls [] (λl hl qo N y=>?_) ?_⟩
   .show if decide ((((l.map D.int).length:Nat):Int)<(qf:Int))=true then _ else _;rw[YAc];by_cases z:l.length<qf
    .rw[YAw (by omega),if_pos rfl];rw[if_pos z]at y;refine⟨by show 1<=100000;decide,by rw[YAc];show _+1<=_;omega,?_⟩;unfold lsD at y;rw[YAx]at y;exact y
    .rw[YAC (by omega),if_neg YAA];rw[if_neg z]at y;exact y
   .rw[YA4];have e4:ls.filterMap (λl=>if l.length<qf then some (lsD (l++[h]))else none)=((ls.filter λl=>decide (l.length<qf)).map (·++[h])).map lsD:=by
     rw[YAM];clear e2 l1 l2
     induction ls with
     |nil=>rfl
     |cons l ls ih=>
      by_cases z:l.length<qf
      .rw[YAY,if_pos z,YBb,if_pos (YAw z),YAb,ih];rfl
      .rw[YAY,if_neg z,YBb,if_neg (by simp[z]),ih]
    rw[e4];refine⟨?_,?_⟩
    .show(ls.map lsD).length+_<=100000;unfold zeW at l2;rw[YAo,YAc]at l2;rw[YAc,YAc,YAc];omega
    .refine hn _ ⟨qi,zeW qf ls h,.val (.int h),e3,e2,?_⟩;unfold zeW;rw[YAx];rfl
 .rintro Z ⟨qi,ls,s3,e1,e2,rfl⟩;cases qi with
  |cons h qi=>cases e1
  |nil=>
   have e2:ls=allL qf qh:=e2;subst e2;refine⟨by rw[YAc];omega,zaX lsD (λl=>prP true (keyL l)) _ (λl hl qo N y=>⟨by show 2<=100000;decide,?_⟩) ?_⟩
   .have:(((l.map D.int).length:Nat):Int)=l.length:=by rw[YAc]
    unfold prP keyL at y;rw[<-this]at y;exact y
   refine⟨true,(allL qf qh).map keyL,by rw[YAM];rfl,by rw[YAc];exact hfew,?_,λqs pm=>?_⟩
   .intro x hx;obtain⟨l,_,rfl⟩:=YAF.mp hx;rfl
   .have hlen:=pm.length_eq;rw[YAc]at hlen;refine⟨by rw[YAc];omega,zaX (prP true) (λq=>lsD q.2) qs (λq hq qo N y=>⟨rfl,y⟩) ?_⟩;refine⟨qs.map (·.2),by rw[YAM];rfl,?_⟩
    have:=pm.map (·.2)
    rw[YAM]at this;have e:(allL qf qh).map ((·.2)∘keyL)=allL qf qh:=List.map_id' _
    rwa[e]at this
abbrev St3:=List Int×List Int×List Int
def stD(t:St3):D:=.tup [lsD t.1,.lst true (t.2.1.map D.int),.lst true (t.2.2.map D.int)]
structure SetsIs(n:Nat)(rs:List Rn)(qf:Nat)(ts:List St3):Prop where
 ex:∃ms:List (List Int),ms.Perm (allL qf (zap rs))/\ts.map (·.1)=ms.filter λl=>hasH (zaL rs l)
 ok:∀t∈ts,t.2.1.length=n/\t.2.2.length=n/\Fen.zgm n (zaL rs t.1) t.2.1/\Fen.HtOk (zaL rs t.1) t.2.2
def zrf{rs:List Rn}{hts:List Int}(h:Fen.HtOk rs hts):hasH rs=true:=hasH_t.mpr λno=>no (Fen.gI hts) h
def zg3(a:Bool)(n:Nat)(rs:List Rn)(qf:Nat)(F:Few n rs)(hm:qf<4)(hh:(zap rs).length<7):zbW [.int n,.lst a (rs.map runD),.int qf] (λd=>∃ts,d=.lst true (ts.map stD)/\SetsIs n rs qf ts):=by
 have hl:=F.len;have hn:=F.n1;unfold zbW fnW zaF;rw[YAb,YAb,YAb,zaM,zal,zal];refine⟨by show 0<=100000;decide,rfl,zaS (zcz false rs hl) λd hd=>?_⟩;subst hd;refine⟨rfl,zaS (zgo true (zap rs) qf hm hh) λd hd=>?_⟩;obtain⟨ms,rfl,pm⟩:=hd;have hlen:ms.length<64:=by rw[pm.length_eq];exact zhz hm hh
 show zbB _ _ _ (ms.map lsD) _;refine zaY (λds Z=>∃(done qi:List (List Int))(ts:List St3)(s4 s5:Sl),ms=done++qi/\ds=qi.map lsD/\(ts.map (·.1)=done.filter λl=>hasH (zaL rs l))/\(∀t∈ts,t.2.1.length=n/\t.2.2.length=n/\Fen.zgm n (zaL rs t.1) t.2.1/\Fen.HtOk (zaL rs t.1) t.2.2)/\Z=[.val (.int n),.val (.lst false (rs.map runD)),.val (.int qf),.own (ts.map stD),s4,s5]) ?_ ?_ _ _ ⟨[],ms,[],.un,.un,rfl,rfl,rfl,λt ht=>(by cases ht),rfl⟩
 .rintro x ds Z E' hn' hc hr hb ⟨done,qi,ts,s4,s5,e1,e2,e3,e4,rfl⟩;cases qi with
  |nil=>cases e2
  |cons l qi=>
   rw[YAb]at e2;injection e2 with e2 e5
   subst e2;have hf:=YB0 (λl=>hasH (zaL rs l)) done;have hts:=congrArg List.length e3;rw[YAc]at hts;have hml:=congrArg List.length e1;rw[YAo]at hml;have e6:ms=(done++[l])++qi:=by rw[e1];simp
   refine⟨rfl,zaS (zea false true rs l (by omega)) λd hd=>?_⟩;subst hd;refine⟨rfl,zaS (zfb true n (zaL rs l) (by omega) (F.left l)) λd hd=>?_⟩;rcases hd with⟨rfl,no⟩|⟨lab,hts',rfl,q1,q2,q3,q4⟩
   .refine hn' _ ⟨done++[l],qi,ts,_,_,e6,e5,?_,e4,rfl⟩;rw[e3,YB1,YBb,if_neg (by rw[hasH_f.mpr no];decide)];simp
   .have go:appW 3 (tupW (zab (vW 4) (zab (ixvW 5 (kW (.int 0))) (zab (ixvW 5 (kW (.int 1))) nilA)))) E' [.val (.int n),.val (.lst false (rs.map runD)),.val (.int qf),.own (ts.map stD),.val (lsD l),.val (.tup [.lst true (lab.map D.int),.lst true (hts'.map D.int)])]:=by
     refine zo0 (i:=3) (xs:=ts.map stD) rfl ?_;refine⟨by show 3<=100000;decide,by rw[YAc];omega,?_⟩;refine hn' _ ⟨done++[l],qi,ts++[(l,lab,hts')],.val (lsD l),.val (.tup [.lst true (lab.map D.int),.lst true (hts'.map D.int)]),e6,e5,?_,λt ht=>?_,?_⟩
     .rw[YAx,e3,YB1,YBb,if_pos (zrf q4)];rfl
     .rcases YAm.mp ht with ht|ht
      .exact e4 t ht
      .rw[YAg.mp ht];exact⟨q1,q2,q3,q4⟩
     .rw[YAx];rfl
    exact go
 .rintro Z ⟨done,qi,ts,s4,s5,e1,e2,e3,e4,rfl⟩;cases qi with
  |cons l qi=>cases e2
  |nil=>
   rw[YAN]at e1;subst e1;exact⟨ts,rfl,⟨ms,pm,e3⟩,e4⟩
def zrq{l hs:List Int}(u:hs.Pairwise (·<·)):l.Sublist hs↔l.Pairwise (·<·)/\∀h∈l,h∈hs:=by
 constructor
 .intro h;exact⟨u.sublist h,λx hx=>h.subset hx⟩
 .rintro⟨h1,h2⟩
  induction hs generalizing l with
  |nil=>
   rw[show l=[]from List.eq_nil_iff_forall_not_mem.mpr λx hx=>(by have:=h2 x hx;cases this)];exact List.Sublist.refl _
  |cons x hs ih=>
   obtain⟨u1,u2⟩:=YA7.mp u;cases l with
   |nil=>exact List.nil_sublist _
   |cons y l=>
    obtain⟨v1,v2⟩:=YA7.mp h1;rcases YAk.mp (h2 y YAh)with rfl|hy
    .refine List.Sublist.cons₂ _ (ih u2 v2 λz hz=>?_);rcases YAk.mp (h2 z (YAj _ hz))with rfl|h
     .have:=v1 z hz;omega
     .exact h
    .refine List.Sublist.cons _ (ih u2 h1 λz hz=>?_);rcases YAk.mp (h2 z hz)with rfl|h
     .rcases YAk.mp hz with rfl|hz
      .exact hy
      .have:=v1 z hz;have:=u1 y hy;omega
     .exact h
def SetsIs.mem{n:Nat}{rs:List Rn}{qf:Nat}{ts:List St3}(S:SetsIs n rs qf ts)(l:List Int):(∃t∈ts,t.1=l)↔l∈setsR rs (cntR qf rs):=by
 obtain⟨ms,pm,e⟩:=S.ex;have u:(zap rs).Pairwise (·<·):=zbl _
 have:(∃t∈ts,t.1=l)↔l∈ts.map (·.1):=(YAF).symm
 rw[this,e,YA6,pm.mem_iff,zon,zrq u,mem_sets];constructor
 .rintro⟨⟨⟨h1,h2⟩,h3⟩,h4⟩;exact⟨ziX h1 h2 (by omega),h4⟩
 .rintro⟨⟨j,hj,h⟩,h4⟩;obtain⟨h1,h2,h3⟩:=mem_lists.mp h;refine⟨⟨⟨h2,h3⟩,?_⟩,h4⟩;unfold cntR at hj;split at hj<;>omega
def ziy{n:Nat}{rs:List Rn}{one qe:Int}{qg:List Int}{k1 k2:Str}{m1 m2:Int}{l1 l2:List Int}(h:headIs n rs one qe qg k1 m1 l1)(h':headIs n rs one qe qg k2 m2 l2):k1=k2/\m1=m2/\l1=l2:=by
 rcases h with⟨rfl,r⟩|⟨rfl,rfl,r,l⟩<;>rcases h' with⟨rfl,r'⟩|⟨rfl,e,r',l'⟩
 .cases r.uniq r';exact⟨rfl,rfl,rfl⟩
 .cases r.uniq r'
 .cases r.uniq r'
 .cases l.uniq l';exact⟨rfl,e.symm,rfl⟩
theorem ziI{R:Int->D->Prop}:∀{hs:List Int}{ds es:List D},(∀h∈hs,∀d e,R h d->R h e->d=e)->All2 R hs ds->All2 R hs es->ds=es
 |[],[],[],_,_,_=>rfl
 |h::hs,d::ds,e::es,u,a,b=>by
  rw[u h YAh d e a.1 b.1,ziI (λx hx=>u x (YAj _ hx)) a.2 b.2]
 |[],_::_,_,_,a,_=>a.elim
 |_::_,[],_,_,a,_=>a.elim
 |[],[],_::_,_,_,b=>b.elim
 |_::_,_::_,[],_,_,b=>b.elim
theorem PaperIs.uniq{n:Nat}{rs:List Rn}{one qe:Int}:∀{k:Nat}{qg:List Int}{d e:D},PaperIs n rs one qe k qg d->PaperIs n rs one qe k qg e->d=e
 |0,_,_,_,⟨kind,mark,line,h,e1⟩,⟨kind',mark',line',h',e2⟩=>by
  obtain⟨rfl,rfl,rfl⟩:=ziy h h';rw[e1,e2]
 |k+1,qg,_,_,⟨kind,mark,line,ds,h,ha,e1⟩,⟨kind',mark',line',ds',h',ha',e2⟩=>by
  obtain⟨rfl,rfl,rfl⟩:=ziy h h'
  have:ds=ds':=ziI (λx _ d e ⟨q,h1,h2⟩ ⟨q',h1',h2'⟩=>by rw[h1,h1',PaperIs.uniq h2 h2']) ha ha'
  rw[e1,e2,this]
def NoS(rs:List Rn)(qg:List Int)(k:Nat):Prop:=∀ext:List Int,ext.length<=k->(∀h∈ext,h∈zap rs)->hasH (zaL rs (qg++ext))=false
def znP{rs:List Rn}{c:Nat}{l:List Int}(h:FirstR rs c l):l∈setsR rs c:=by
 obtain⟨j,hj,_,done,qi,e,_⟩:=h.ex;exact mem_sets.mpr ⟨⟨j,hj,by rw[e];simp⟩,h.yes⟩
def zlP{n:Nat}{rs:List Rn}{qf:Nat}(no:NoS rs [] qf):WishOk n rs 0 0 [] qf (.str "ring"):=λext hl he line rn _=>by
 have:=no ext hl he
 rw[zfG rn]at this;cases this
def AtP(K:qq)(H:Hp):V->List Nat->V->Prop
 |v,[],u=>v=u
 |v,i::p,u=>∃a vs w,v=.ref a/\SqT K H a vs/\vs[i]?=some w/\AtP K H w p u
theorem AtP.snoc{K:qq}{H:Hp}:∀{p:List Nat}{v u:V}{j:Nat},AtP K H v (p++[j]) u->∃a vs,AtP K H v p (.ref a)/\SqT K H a vs/\vs[j]?=some u
 |[],v,u,j,⟨a,vs,w,h1,h2,h3,h4⟩=>by
  have h4:w=u:=h4;exact⟨a,vs,h1,h2,h4▸h3⟩
 |i::p,v,u,j,⟨a,vs,w,h1,h2,h3,h4⟩=>by
  obtain⟨b,us,k1,k2,k3⟩:=AtP.snoc h4;exact⟨b,us,⟨a,vs,w,h1,h2,h3,k1⟩,k2,k3⟩
def zk6(K:qq)(i:Nat)(p:List Nat):TE:=λY H Q=>∃v u,Y[i]?=some (some v)/\AtP K H v p u/\Q u H
section
variable{X:Cx}{e ke:Expr}{pos pos' apos cpos:Pos}
def zme(i:Nat){x:Str}(hN:X.N[i]?=some x:=by rfl)(hv:Vis X.env.scope x:=by first|exact Or.inl rfl|exact Or.inr (Or.inl rfl)|exact Or.inr (Or.inr rfl))
  (hd:(x==("__debug__":Str))=false:=by decide) (hcd:(x==("__classdict__":Str))=false:=by decide):PE X (.Name x pos) (zk6 X.K i []):=
 zaW (zdK hN hv hd hcd) λY H Q ⟨v,u,h1,h2,q⟩=>⟨v,h1,by have h2:v=u:=h2;rw[h2];exact q⟩
def znG{i j t:Nat}{p:List Nat}(h:PE X e (zk6 X.K i p))(hs:zg2 (.Constant (.int (j:Int)) t pos'):=by intro _ _;rfl):PE X (.Subscript e (.Constant (.int (j:Int)) t pos') pos) (zk6 X.K i (p++[j])):=
 zaW (zcW ix_tup h zaO hs) λY H Q ⟨v,u,h1,h2,q⟩=>by
  obtain⟨a,vs,k1,k2,k3⟩:=h2.snoc;exact⟨v,.ref a,h1,k1,a,vs,(j:Int),u,rfl,rfl,k2,zdO k3,q⟩
def zst(K:qq)(i:Nat)(p:List Nat)(kv:V):TS:=λD Y H=>∃v a us,Y[i]?=some (some v)/\AtP K H v p (.ref a)/\H a=some (.lst us)/\us.length<100000/\D.nx Y (upd H a (.lst (us++[kv])))
def zpY{i:Nat}{p:List Nat}{kv:V}(h:PE X e (zk6 X.K i p))(hk:PE X ke (tC kv))(hbase:attributeBase e "append" X.env (eval e X.env)=eval e X.env:=by rfl)
  (hfew:((backTo cpos (starEach [ke] X.env)).all (λx=>!x.1)&&(backToKw cpos (keywordEach [] X.env)).all (λx=>x.1.isSome)
   && decide (([ke]:List Expr).length+([]:List Keyword).length+(if ([]:List Keyword).isEmpty then 0 else 1)<30))=true:=by rfl)
  (hline:(apos.endLine==cpos.line)=true:=by rfl) (hs:starEach [ke] X.env=(false,eval ke X.env)::starEach [] X.env:=by rfl)
  (hsw:swapsWith (.Call (.Attribute e "append" apos) [ke] [] cpos) none pos.line X.env=pure false:=by rfl):PS X (.Expr (.Call (.Attribute e "append" apos) [ke] [] cpos) pos) (zst X.K i p kv):=
 zb6 (zdc (zln YBx YBr YBs zb2 h (zah hk zav hs) hbase hfew hline hs rfl) hsw) λD Y H ⟨v,a,us,h1,h2,h3,h4,q⟩=>
  ⟨v,.ref a,h1,h2,.inl ⟨rfl,us,SqL.of h3⟩,a,us,kv,rfl,rfl,h3,YAs h4 (small5 (YAn _)),q⟩
end
mutual
/-- a shape whose lists are newer than Ha,at most k longer than they were -/
def Sh(K:qq)(Ha H:Hp)(k:Nat):D->V->Prop
 |.non,v=>v=.non
 |.str x,v=>v=.str x
 |.tup ds,v=>∃a vs,v=.ref a/\SqT K H a vs/\Shs K Ha H k ds vs
 |.lst n xs,v=>n=true->∃a us,v=.ref a/\H a=some (.lst us)/\Ha a=none/\us.length<=xs.length+k
 |_,_=>True
def Shs(K:qq)(Ha H:Hp)(k:Nat):List D->List V->Prop
 |[],vs=>vs=[]
 |d::ds,vs=>∃v ws,vs=v::ws/\Sh K Ha H k d v/\Shs K Ha H k ds ws
end
mutual
theorem Sh.of{c:Bk}{G H:Hp}(gh:Same G H):∀{d:D}{v:V},Rep c G d v->Sh c.K c.H0 H 0 d v
 |.non,_,h=>by unfold Sh;exact h
 |.str _,_,h=>by unfold Sh;exact h
 |.tup ds,_,⟨a,vs,h1,h2,h3⟩=>by unfold Sh;exact⟨a,vs,h1,zaT gh h2,Shs.of gh h3⟩
 |.lst n xs,_,⟨a,vs,h1,h2,h3,h4⟩=>by unfold Sh;exact λz=>⟨a,vs,h1,gh _ _ h2,h3 z,by rw[h4.length];exact YAn _⟩
 |.bl _,_,_=>by unfold Sh;trivial
 |.int _,_,_=>by unfold Sh;trivial
 |.box,_,_=>by unfold Sh;trivial
theorem Shs.of{c:Bk}{G H:Hp}(gh:Same G H):∀{ds:List D}{vs:List V},Reps c G ds vs->Shs c.K c.H0 H 0 ds vs
 |[],_,h=>by unfold Shs;exact h
 |d::ds,_,⟨v,ws,h1,h2,h3⟩=>by unfold Shs;exact⟨v,ws,h1,Sh.of gh h2,Shs.of gh h3⟩
end
def zeF{K:qq}{H:Hp}{a b:Addr}{us ws vs:List V}(h:H a=some (.lst us))(x:SqT K H b vs):SqT K (upd H a (.lst ws)) b vs:=by
 rcases x with(x|⟨o,x⟩)|x
 .exact .inl (.inl (by rw[zaf (λz=>by rw[z,h]at x;cases x)];exact x))
 .exact .inl (.inr ⟨o,by rw[zaf (λz=>by rw[z,h]at x;cases x)];exact x⟩)
 .exact .inr x
mutual
theorem Sh.app{K:qq}{Ha H:Hp}{k:Nat}{a:Addr}{us:List V}{y:V}(h:H a=some (.lst us)):∀{d:D}{v:V},Sh K Ha H k d v->Sh K Ha (upd H a (.lst (us++[y]))) (k+1) d v
 |.non,_,x=>by unfold Sh at x ⊢;exact x
 |.str _,_,x=>by unfold Sh at x ⊢;exact x
 |.tup ds,_,x=>by
  unfold Sh at x ⊢;obtain⟨b,vs,h1,h2,h3⟩:=x;exact⟨b,vs,h1,zeF h h2,Shs.app h h3⟩
 |.lst n xs,_,x=>by
  unfold Sh at x ⊢;intro z;obtain⟨b,ws,h1,h2,h3,h4⟩:=x z;by_cases e:b=a
  .subst e;rw[h]at h2;cases h2;exact⟨b,_,h1,zac,h3,by rw[YAo,YBj];omega⟩
  .exact⟨b,ws,h1,by rw[zaf e];exact h2,h3,by omega⟩
 |.bl _,_,_=>by unfold Sh;trivial
 |.int _,_,_=>by unfold Sh;trivial
 |.box,_,_=>by unfold Sh;trivial
theorem Shs.app{K:qq}{Ha H:Hp}{k:Nat}{a:Addr}{us:List V}{y:V}(h:H a=some (.lst us)):∀{ds:List D}{vs:List V},Shs K Ha H k ds vs->Shs K Ha (upd H a (.lst (us++[y]))) (k+1) ds vs
 |[],_,x=>by unfold Shs at x ⊢;exact x
 |d::ds,_,x=>by
  unfold Shs at x ⊢;obtain⟨v,ws,h1,h2,h3⟩:=x;exact⟨v,ws,h1,Sh.app h h2,Shs.app h h3⟩
end
def leaf:D->List Nat->Bool
 |.lst n xs,[]=>n&&decide (xs.length<=1000)
 |.tup ds,i::p=>match ds[i]? with|some d=>leaf d p|none=>false
 |_,_=>false
theorem Shs.get{K:qq}{Ha H:Hp}{k:Nat}:∀{ds:List D}{vs:List V}{i:Nat}{d:D},Shs K Ha H k ds vs->ds[i]?=some d->∃v,vs[i]?=some v/\Sh K Ha H k d v
 |[],_,_,_,_,e=>by simp at e
 |_::_,_,0,_,h,e=>by unfold Shs at h;obtain⟨v,ws,h1,h2,_⟩:=h;subst h1;simp at e;subst e;exact⟨v,rfl,h2⟩
 |_::_,_,i+1,d,h,e=>by unfold Shs at h;obtain⟨v,ws,h1,_,h3⟩:=h;subst h1;exact Shs.get (i:=i) h3 (by simpa using e)
theorem Sh.leaf{K:qq}{Ha H:Hp}{k:Nat}:∀{p:List Nat}{d:D}{v:V},Sh K Ha H k d v->leaf d p=true->∃a us,AtP K H v p (.ref a)/\H a=some (.lst us)/\Ha a=none/\us.length<=1000+k
 |[],.lst n xs,v,h,e=>by
  unfold Fd.leaf at e;rw[YAI]at e;unfold Sh at h;obtain⟨a,us,h1,h2,h3,h4⟩:=h e.1;exact⟨a,us,h1,h2,h3,by have:=YA3 e.2;omega⟩
 |i::p,.tup ds,v,h,e=>by
  unfold Fd.leaf at e;unfold Sh at h;obtain⟨a,vs,h1,h2,h3⟩:=h;cases ed:ds[i]? with
  |none=>rw[ed]at e;cases e
  |some d=>
   rw[ed]at e;obtain⟨w,k1,k2⟩:=h3.get ed;obtain⟨b,us,m1,m2,m3,m4⟩:=Sh.leaf k2 e;exact⟨b,us,⟨a,vs,w,h1,h2,k1,m1⟩,m2,m3,m4⟩
 |[],.non,_,_,e=>by simp[Fd.leaf]at e
 |[],.bl _,_,_,e=>by simp[Fd.leaf]at e
 |[],.int _,_,_,e=>by simp[Fd.leaf]at e
 |[],.str _,_,_,e=>by simp[Fd.leaf]at e
 |[],.box,_,_,e=>by simp[Fd.leaf]at e
 |[],.tup _,_,_,e=>by simp[Fd.leaf]at e
 |_::_,.non,_,_,e=>by simp[Fd.leaf]at e
 |_::_,.bl _,_,_,e=>by simp[Fd.leaf]at e
 |_::_,.int _,_,_,e=>by simp[Fd.leaf]at e
 |_::_,.str _,_,_,e=>by simp[Fd.leaf]at e
 |_::_,.box,_,_,e=>by simp[Fd.leaf]at e
 |_::_,.lst _ _,_,_,e=>by simp[Fd.leaf]at e
def MutP(X:Cx)(i n:Nat)(M:D->Bool)(sts:List Stmt):Prop:=∀(Ha:Hp)(k:Nat)(d:D),k+n<=1000->M d=true ->
 PSs X sts λD Y H=>∃v,Y[i]?=some (some v)/\Sh X.K Ha H k d v/\∀H' k',k'<=k+n->Sh X.K Ha H' k' d v->(∀a,Ha a≠none->H' a=H a)->D.nx Y H'
def TstP(X:Cx)(i:Nat)(C:D->Option Bool)(e:Expr):Prop:=∀(Ha:Hp)(k:Nat)(d:D)(b:Bool),C d=some b->PT X e λY H Q=>∃v,Y[i]?=some (some v)/\Sh X.K Ha H k d v/\Q b H
@[reducible] def mNil:D->Bool:=λ_=>true
@[reducible] def mApp(p:List Nat)(M:D->Bool):D->Bool:=λd=>leaf d p&&M d
def mIf(C:D->Option Bool)(B:D->Bool):D->Bool:=λd=>match C d with|some true=>B d|some false=>true|none=>false
section
variable{X:Cx}{e ke:Expr}{pos pos' apos cpos:Pos}{i n:Nat}{M:D->Bool}{rest:List Stmt}
def zpC:MutP X i 0 mNil []:=λHa k d hk hm=>zfK zbR λD Y H ⟨v,h1,h2,q⟩=>q H k (by omega) h2 λ_ _=>rfl
def zlS{p:List Nat}{kv:V}(h:PE X e (zk6 X.K i p))(hk:PE X ke (tC kv))(hr:MutP X i n M rest)(hbase:attributeBase e "append" X.env (eval e X.env)=eval e X.env:=by rfl)
  (hfew:((backTo cpos (starEach [ke] X.env)).all (λx=>!x.1)&&(backToKw cpos (keywordEach [] X.env)).all (λx=>x.1.isSome)
   && decide (([ke]:List Expr).length+([]:List Keyword).length+(if ([]:List Keyword).isEmpty then 0 else 1)<30))=true:=by rfl)
  (hline:(apos.endLine==cpos.line)=true:=by rfl) (hs:starEach [ke] X.env=(false,eval ke X.env)::starEach [] X.env:=by rfl)
  (hsw:swapsWith (.Call (.Attribute e "append" apos) [ke] [] cpos) none pos.line X.env=pure false:=by rfl):MutP X i (n+1) (mApp p M) (.Expr (.Call (.Attribute e "append" apos) [ke] [] cpos) pos::rest):=λHa k d hkn hm=>by
 have hm:(leaf d p&&M d)=true:=hm;rw[YAI]at hm;refine zfK (zam (zpY h hk hbase hfew hline hs hsw) (hr Ha (k+1) d (by omega) hm.2)) λD Y H ⟨v,h1,h2,q⟩=>?_;obtain⟨a,us,m1,m2,m3,m4⟩:=h2.leaf hm.1;refine⟨v,a,us,h1,m1,m2,by omega,v,h1,h2.app m2,λH' k' hk' sh f=>q H' k' (by omega) sh λb hb=>?_⟩;rw[f b hb,zaf (λz=>hb (by rw[z];exact m3))]
def eqSC(j:Nat)(z:Str):D->Option Bool
 |.tup ds=>match ds[j]? with|some (.str s)=>some (decide (s=z))|_=>none
 |_=>none
def zp5{j:Nat}{z:Str}{d:D}{b:Bool}(h:eqSC j z d=some b):∃ds s,d=.tup ds/\ds[j]?=some (.str s)/\b=decide (s=z):=by
 cases d with
 |tup ds=>
  unfold eqSC at h;cases e:ds[j]? with
  |none=>simp only[e]at h;cases h
  |some x=>
   cases x with
   |str s=>simp only[e]at h;cases h;exact⟨ds,s,rfl,e,rfl⟩
   |_=>simp only[e]at h;cases h
 |_=>cases h
def zpZ{j t:Nat}{z:Str}{p1:Pos}(h:PE X e (zk6 X.K i [j])):TstP X i (eqSC j z) (.Compare e [.Eq] [.Constant (.str z) t p1] pos):=λHa k d b hb=>by
 obtain⟨ds,s,rfl,hs,rfl⟩:=zp5 hb;refine zfL (zcx zpz h zpt (zcj _)) λY H Q ⟨v,h1,h2,q⟩=>?_;unfold Sh at h2;obtain⟨a,vs,rfl,h3,h4⟩:=h2;obtain⟨w,k1,k2⟩:=h4.get hs;unfold Sh at k2;subst k2;refine⟨.ref a,.str s,h1,⟨a,vs,.str s,rfl,h3,k1,rfl⟩,rfl,decide (s=z),?_,q⟩;by_cases e:s=z
 .subst e;simp
 .rw[YAC e,YAC (λq=>e (by cases q;rfl))]
end
def newB:D->Bool
 |.tup ds=>newBs ds
 |.lst n xs=>n&&newBs xs
 |_=>true
where newBs:List D->Bool
 |[]=>true
 |d::ds=>newB d&&newBs ds
def MutS(X:Cx)(i n:Nat)(M:D->Bool)(st:Stmt):Prop:=∀(Ha:Hp)(k:Nat)(d:D),k+n<=1000->M d=true ->
 PS X st λD Y H=>∃v,Y[i]?=some (some v)/\Sh X.K Ha H k d v/\∀H' k',k'<=k+n->Sh X.K Ha H' k' d v->(∀a,Ha a≠none->H' a=H a)->D.nx Y H'
def zpH{X:Cx}{e:Expr}{pos:Pos}{i m:Nat}{C:D->Option Bool}{body:List Stmt}{B:D->Bool}(hC:TstP X i C e)(hB:MutP X i m B body):MutS X i m (mIf C B) (.If e body [] pos):=λHa k d hkn hm=>by
 have hm:(match C d with|some true=>B d|some false=>true|none=>false)=true:=hm;cases hb:C d with
 |none=>rw[hb]at hm;cases hm
 |some b=>
  rw[hb]at hm;cases b with
  |false=>
   refine zb6 (zeM (hC Ha k d false hb) (ziQ (sts:=body)) zbR) λD Y H ⟨v,h1,h2,q⟩=>⟨v,h1,h2,?_⟩;show if false=true then _ else _;rw[if_neg (by decide)];exact q H k (by omega) h2 λ_ _=>rfl
  |true=>
   refine zb6 (zeM (hC Ha k d true hb) (hB Ha k d hkn hm) (ziQ (sts:=[]))) λD Y H ⟨v,h1,h2,q⟩=>⟨v,h1,h2,?_⟩;show if true=true then _ else _;rw[if_pos rfl];exact⟨v,h1,h2,q⟩
mutual
theorem Rep.retag{c c':Bk}{G:Hp}(hk:c.K=c'.K)(hb:c.β=c'.β)(hn:∀a o,G a=some (.lst o)->c.H0 a=none->c'.H0 a=none):∀{d:D}{v:V},Rep c G d v->Rep c' G d v
 |.non,_,h=>h
 |.bl _,_,h=>h
 |.int _,_,h=>h
 |.str _,_,h=>h
 |.box,_,h=>by show _=V.ref c'.β;rw[<-hb];exact h
 |.tup xs,_,⟨a,vs,h1,h2,h3⟩=>⟨a,vs,h1,hk▸h2,Reps.retag hk hb hn h3⟩
 |.lst n xs,_,⟨a,vs,h1,h2,h4,h3⟩=>⟨a,vs,h1,h2,λz=>hn a vs h2 (h4 z),Reps.retag hk hb hn h3⟩
theorem Reps.retag{c c':Bk}{G:Hp}(hk:c.K=c'.K)(hb:c.β=c'.β)(hn:∀a o,G a=some (.lst o)->c.H0 a=none->c'.H0 a=none):∀{ds:List D}{vs:List V},Reps c G ds vs->Reps c' G ds vs
 |[],_,h=>h
 |_::_,_,⟨v,ws,h1,h2,h3⟩=>⟨v,ws,h1,Rep.retag hk hb hn h2,Reps.retag hk hb hn h3⟩
end
def zde:Option HO->Option HO
 |some (.tup xs)=>some (.tup xs)
 |some (.frz o u)=>some (.frz o u)
 |_=>none
def zfx{o:Option HO}{u:HO}(h:zde o=some u):o=some u/\zkZ u:=by
 unfold zde at h;split at h
 .cases h;exact⟨rfl,trivial⟩
 .cases h;exact⟨rfl,trivial⟩
 .cases h
def keepG(Ga G Hm:Hp):Hp:=λa=>match Ga a,Hm a with
 |some o,_=>some o
 |none,none=>G a
 |none,some _=>zde (G a)
def zio{Ga G Hm:Hp}(s:Same Ga G){a:Addr}{o:HO}(h:keepG Ga G Hm a=some o):G a=some o:=by
 unfold keepG at h;split at h
 .cases h;apply s;assumption
 .exact h
 .exact(zfx h).1
mutual
theorem Rep.kept{c c':Bk}{Ga G Hm:Hp}(hk:c.K=c'.K)(hb:c.β=c'.β)(s:Same Ga G)(hm:∀a,c.H0 a=none->Hm a=none)(h0:∀a,c.H0 a=none->c'.H0 a=none):∀{d:D}{v:V},newB d=true->Rep c G d v->Rep c' (keepG Ga G Hm) d v
 |.non,_,_,h=>h
 |.bl _,_,_,h=>h
 |.int _,_,_,h=>h
 |.str _,_,_,h=>h
 |.box,_,_,h=>by show _=V.ref c'.β;rw[<-hb];exact h
 |.tup xs,_,n,⟨a,vs,h1,h2,h3⟩=>by
  unfold newB at n;refine⟨a,vs,h1,hk▸?_,Reps.kept hk hb s hm h0 n h3⟩;have key:∀u,zkZ u->G a=some u->keepG Ga G Hm a=some u:=λu su e=>by
   unfold keepG;cases e1:Ga a with
   |some o=>have:=s a o e1;rw[e]at this;cases this;rfl
   |none=>
    cases e2:Hm a with
    |none=>exact e
    |some x=>
     show zde (G a)=some u;rw[e];cases u with
     |tup xs=>rfl
     |frz o u=>rfl
     |_=>exact su.elim
  rcases h2 with(h2|⟨o,h2⟩)|h2
  .exact .inl (.inl (key _ trivial h2))
  .exact .inl (.inr ⟨o,key _ trivial h2⟩)
  .exact .inr h2
 |.lst n xs,_,nn,⟨a,vs,h1,h2,h4,h3⟩=>by
  unfold newB at nn;rw[YAI]at nn;refine⟨a,vs,h1,?_,λz=>h0 a (h4 z),Reps.kept hk hb s hm h0 nn.2 h3⟩;have hz:=hm a (h4 nn.1);unfold keepG;rw[hz];cases e1:Ga a with
  |some o=>have:=s a o e1;rw[h2]at this;cases this;rfl
  |none=>exact h2
theorem Reps.kept{c c':Bk}{Ga G Hm:Hp}(hk:c.K=c'.K)(hb:c.β=c'.β)(s:Same Ga G)(hm:∀a,c.H0 a=none->Hm a=none)(h0:∀a,c.H0 a=none->c'.H0 a=none):∀{ds:List D}{vs:List V},newB.newBs ds=true->Reps c G ds vs->Reps c' (keepG Ga G Hm) ds vs
 |[],_,_,h=>h
 |_::_,_,n,⟨v,ws,h1,h2,h3⟩=>by
  unfold newB.newBs at n;rw[YAI]at n;exact⟨v,ws,h1,Rep.kept hk hb s hm h0 n.1 h2,Reps.kept hk hb s hm h0 n.2 h3⟩
end
def Rel.unset{c:Bk}{Z:Env}{Y:St}{H G:Hp}(r:Rel c Z Y H G)(i:Nat)(w:V):Rel c (Z.set i .un) (Y.set i (some w)) H G:=by
 refine⟨by simp[r.len],r.stp,λj s e=>?_,λj k a xs ys e1 e2 e3 e4=>?_⟩
 .by_cases z:i=j
  .subst z;have hi:i<Z.length:=by have:=(YAi.mp e).1;simpa using this
   rw[YAE hi]at e;cases e
   trivial
  .rw[YAB z]at e ⊢;exact r.slot j s e
 .have f:∀(m:Nat) zs,(Z.set i .un)[m]?=some (.own zs)->i≠m/\Z[m]?=some (.own zs):=λm zs e=>by
   by_cases z:i=m
   .subst z;have hi:i<Z.length:=by have:=(YAi.mp e).1;simpa using this
    rw[YAE hi]at e;cases e
   .rw[YAB z]at e;exact⟨z,e⟩
  obtain⟨n1,f1⟩:=f j xs e1;obtain⟨n2,f2⟩:=f k ys e2;rw[YAB n1]at e3;rw[YAB n2]at e4;exact r.dis j k a xs ys f1 f2 e3 e4
def zi4(Ha H3 H5:Hp):Hp:=λa=>match Ha a,H3 a with
 |some o,_=>some o
 |none,none=>H5 a
 |none,some _=>zde (H5 a)
def zlp{Ha H3 H5:Hp}{a:Addr}{xs:List V}(h1:Ha a=none)(h2:H3 a≠none)(h3:H5 a=some (.lst xs)):zi4 Ha H3 H5 a=none:=by
 unfold zi4;rw[h1];cases e2:H3 a with
 |none=>exact absurd e2 h2
 |some x=>show zde (H5 a)=none;rw[h3];rfl
def zob{β:Addr}{Ha Ga H3 G3 H5 G5 H6:Hp}(gha:Same Ga Ha)(bxa:BoxD β Ha Ga)(t3:Stp β Ha Ga H3 G3)(t5:Stp β H3 G3 H5 G5)(fz:∀a,zi4 Ha H3 H5 a≠none->H6 a=H5 a):Stp β Ha Ga H6 (keepG Ga G5 H3):=by
 have t:=t3.trans t5;have at0:∀a o,Ha a=some o->H6 a=H5 a:=λa o e=>fz a (by unfold zi4;rw[e];simp);have eβ:H6 β=H5 β:=by
  cases e:Ha β with
  |none=>exact absurd e t.b0
  |some o=>exact at0 β o e
 have gβ:Ga β=none:=by
  cases e:Ga β with
  |none=>rfl
  |some o=>have:=t.gg β o e;rw[t.bx.still]at this;cases this
 have gg:Same Ga (keepG Ga G5 H3):=λa o e=>by unfold keepG;rw[e]
 refine⟨gg,λa o e=>?_,λa o n e=>?_,λa e=>?_,⟨?_,?_⟩,t.b0,λcc p r d e=>?_⟩
 .have e5:H5 a=some o:=t5.gh a o (zio t.gg e);rw[<-e5];refine fz a ?_;unfold keepG at e;unfold zi4;cases ha:Ha a with
  |some u=>simp
  |none=>
   have ga:Ga a=none:=zas gha ha;rw[ga]at e;cases h3:H3 a with
   |none=>show H5 a≠none;rw[e5];simp
   |some u=>
    rw[h3]at e;have e:zde (G5 a)=some o:=e;obtain⟨_,so⟩:=zfx e;show zde (H5 a)≠none;rw[e5];cases o with
    |tup xs=>simp[zde]
    |frz o u=>simp[zde]
    |_=>exact so.elim
 .rw[at0 a o e];exact t.fr a o n e
 .cases k:keepG Ga G5 H3 a with
  |none=>exact absurd k e
  |some o=>
   cases ga:Ga a with
   |some u=>exact .inl (by simp)
   |none=>
    rcases t.nw a (by rw[zio t.gg k];simp)with z|z|z
    .exact absurd ga z
    .exact .inr (.inl z)
    .exact .inr (.inr z)
 .obtain⟨cc,p,r,d,ns,e,p0,r0,d0,d1,gc,few⟩:=t.bx.ex;obtain⟨cc0,p',r',d',ns0,e0,_,_,_,_,gc0,few0⟩:=bxa.ex;obtain⟨p2,r2,d2,e2⟩:=t.bc cc0 p' r' d' e0;rw[e]at e2;cases e2;exact⟨_,p,r,d,ns0,by rw[eβ];exact e,p0,r0,d0,d1,gg _ _ gc0,few0⟩
 .unfold keepG;rw[gβ];cases h3:H3 β with
  |none=>exact absurd h3 t5.b0
  |some u=>show zde (G5 β)=none;rw[t5.bx.still];rfl
 .rw[eβ];exact t.bc cc p r d e
section
variable{X:Cx}{c:Bk}{e te:Expr}{es:List Expr}{pos p p1 p2 p3 p4 p5 q1 q2 q3 q4 q5:Pos}{i n:Nat}{M:D->Bool}{mst:Stmt}{rest:List Stmt}
@[reducible] def zpE(i j n:Nat)(F:Fn)(R:WL)(C:WT)(Gf:Fn)(M:D->Bool)(B:WS):WS:=λE Z=>R Z λds=>ds.length=n/\up F ds λd=>(M d=true/\i<Z.length)/\C (Z.set i (.val d)) λb=>if b=true then E.rt (.bl false)else up Gf [d] λd2=>newB d2=true/\B E ((Z.set i .un).set j (.val d2))
def zrV(i j:Nat){x f y g:Str}{k m nn tk k2:Nat}{ps ps2:List Str}{F Gf:Fn}{R:WL}{C:WT}{B:WS}(Cf:Cal X.prog X.w X.K X.mg X.base f k ps (spD X.K m F))(Cg:Cal X.prog X.w X.K X.mg X.base g k2 ps2 (spD X.K 1 Gf))(hR:DA X c (e::es) R)(hC:DT X c te C)(hM:MutS X i nn M mst)(hB:DSs X c rest B)(hnn:nn<=1000:=by decide)(hij:i≠j:=by decide)
  (hi:X.N[i]?=some x:=by rfl) (hx:Loc X.env.scope x:=by first|exact Or.inl rfl|exact Or.inr rfl) (hvx:Vis X.env.scope x:=by first|exact Or.inl rfl|exact Or.inr (Or.inl rfl)|exact Or.inr (Or.inr rfl)) (hsw:swapsWith (.Call (.Name f p) (e::es) [] p1) (some (.Name x p2)) p3.line X.env=pure false:=by rfl) (hf:X.fn x=true\/X.env.scope.names.lookup x=some .local:=by first|exact .inl rfl|exact .inr rfl|assumption) (hN:X.N.Nodup:=by decreasing_trivial)
  (hj:X.N[j]?=some y:=by rfl) (hy:Loc X.env.scope y:=by first|exact Or.inl rfl|exact Or.inr rfl) (hsw2:swapsWith (.Call (.Name g q1) [.Name x q2] [] q3) (some (.Name y q4)) q5.line X.env=pure false:=by rfl) (hfy:X.fn y=true\/X.env.scope.names.lookup y=some .local:=by first|exact .inl rfl|exact .inr rfl|assumption)
  (hg:Gl X f:=by rfl) (hdb:(f==("__debug__":Str))=false:=by decide) (he:starEach (e::es) X.env=(false,eval e X.env)::starEach es X.env:=by rfl) (hpl:(backTo p1 (starEach es X.env)).any (·.1)=false:=by rfl) (hK:c.K=X.K:=by rfl) (hr:Room k X.A:=by decreasing_trivial)
  (hg2:Gl X g:=by rfl) (hdb2:(g==("__debug__":Str))=false:=by decide) (he2:starEach [.Name x q2] X.env=(false,eval (.Name x q2) X.env)::starEach [] X.env:=by rfl) (hr2:Room k2 X.A:=by decreasing_trivial) (hdx:(x==("__debug__":Str))=false:=by decide) (hcx:(x==("__classdict__":Str))=false:=by decide) :
  DSs X c (.Assign [.Name x p2] (.Call (.Name f p) (e::es) [] p1) p3::.If te [.Return (some (.Constant (.bool false) tk p4)) p5] [] pos::.Assign [.Name y q4] (.Call (.Name g q1) [.Name x q2] [] q3) q5::mst::rest) (zpE i j m F R C Gf M B)where
 mono:=λE E' Z l q=>hR.mono Z _ _ (λds z=>⟨z.1,zeN F ds _ _ (λd z=>⟨z.1,hC.mono _ _ _ (λb z=>by
  cases b
  .exact zeN Gf _ _ _ (λd2 z=>⟨z.1,hB.mono _ _ _ l z.2⟩) z
  .exact l.rt _ z) z.2⟩) z.2⟩) q
 pss:=by
  obtain⟨fa,fd,FO,hm,hk,hb⟩:=Cf.ex;obtain⟨ga,gd,GO,hm2,hk2,hb2⟩:=Cg.ex;have P3:PS X mst λD Y H=>∃Ha d,M d=true/\∃v,Y[i]?=some (some v)/\Sh X.K Ha H 0 d v/\∀H' k',k'<=0+nn->Sh X.K Ha H' k' d v->(∀a,Ha a≠none->H' a=H a)->D.nx Y H':=λO s Y H D I ⟨Ha,d,hm,z⟩=>hM Ha 0 d (by omega) hm O s Y H D I z;refine zfK (zam (zbu hN hi hx (zfD FO hr hg hm hk hb .nil zl9 hR.pa hdb he hpl) hsw hf) (zam (zeM hC.pt (zaD (zbO zrk)) zbR) (zam (zbu hN hj hy (zfD GO hr2 hg2 hm2 hk2 hb2 .nil zl9 (zah (zdK hi hvx hdx hcx) zav he2) hdb2 he2 rfl) hsw2 hfy) (zam P3 hB.pss)))) λD Y H ⟨Z,G,r,q⟩=>⟨Z,G,r,hR.mono Z _ _ (λds z vs Ha Ga t ev=>?_) q⟩;show spD X.K m F (vs++[]) Ha _ E0;rw[YAN];have ra:=r.step t;refine⟨c.β,Ga,ds,t.gh,t.bx,Reps.back (c':=c) (c:=⟨X.K,c.β,λ_=>none,Ga⟩) hK rfl (λ_ _=>rfl) ev,by rw[<-ev.length];exact z.1,zeN F ds _ _ (λd z v H2 G2 t2 e2=>?_) z.2⟩;obtain⟨⟨hMd,hil⟩,z⟩:=z;rw[r.len]at hil;refine⟨Z.set i (.val d),G2,(ra.step t2).put (Rep.back (c':=⟨X.K,c.β,Ha,Ga⟩) (c:=c) hK.symm rfl (λa h=>ra.new0 h) e2),hC.mono _ _ _ (λb z H3 G3 t3=>?_) z⟩;cases b with
  |true=>
   show if true=true then _ else _;rw[if_pos rfl];exact z (.bl false) H3 G3 ((ra.stp.trans t2).trans t3) rfl
  |false=>
   show if false=true then _ else _;rw[if_neg (by decide)];have t23:=t2.trans t3;have e3:=e2.mono t3.gg;refine⟨v,by rw[YAE hil],?_⟩;show spD X.K 1 Gf ([v]++[]) H3 _ E0;rw[YAN];refine⟨c.β,G3,[d],t3.gh,t3.bx,.one (Rep.back (c':=⟨X.K,c.β,Ha,Ga⟩) (c:=⟨X.K,c.β,λ_=>none,G3⟩) rfl rfl (λ_ _=>rfl) e3),rfl,zeN Gf _ _ _ (λd2 z v2 H5 G5 t5 e5=>?_) z⟩;have hσ:((Y.set i (some v)).set j (some v2))[i]?=some (some v):=by rw[YAB (Ne.symm hij),YAE hil]
   refine⟨zi4 Ha H3 H5,d,hMd,v,hσ,Sh.of (c:=⟨X.K,c.β,zi4 Ha H3 H5,Ga⟩) (G:=G5) t5.gh ((Rep.retag (c:=⟨X.K,c.β,Ha,Ga⟩) (c':=⟨X.K,c.β,zi4 Ha H3 H5,Ga⟩) rfl rfl (λa o h1 h2=>zlp h2 (by rw[t3.gh _ _ h1];simp) (t5.gh _ _ (t5.gg _ _ h1))) e3).mono t5.gg),λH6 k' _ sh fz=>?_⟩;have st:=zob ra.gh ra.bx t23 t5 fz;have hG:Same G (keepG Ga G5 H3):=t.gg.trans st.gg;refine⟨(Z.set i .un).set j (.val d2),keepG Ga G5 H3,((ra.step st).unset i v).put (Rep.kept (c:=⟨X.K,c.β,H3,G3⟩) (c':=c) hK.symm rfl ((t2.trans t3).trans t5).gg (λa h=>h) (λa h=>ra.new0 (t23.free h)) z.1 e5),hB.mono _ _ _ (zge hG) z.2⟩
end
end Fd
namespace L2
open PySem PySem.Spec PyProof.Rows
def znI{X:Cx}(hc:X.calm=true):CallR X (.builtin "min") (λvs H Q=>∃(p:Addr)(ns:List Int),vs=[.ref p]/\SqL X.K H p (ns.map V.int)/\0<ns.length /\
  ∀M,M∈ns->(∀a,a∈ns->M<=a)->Q (.int M) H):=by
 intro O s Y H vs us Q I r h;obtain⟨p,ns,rfl,hq,hne,q⟩:=h;obtain⟨u,rfl,rx⟩:=zda r;cases rx;obtain⟨its,r',pl,hz⟩:=I.list hq;have hi:IntsAre its ns:=by simpa using zdB r'
 obtain⟨xs,e⟩:=hi.allInts.items;have hns:ns=xs.toList.map (·.1):=by rw[<-hi.numsOf,<-nums_intItems,<-e]
 have hsz:0<xs.size:=by
  have h3:=hne;rw[hns,YAc,YAZ]at h3;exact h3
 have hl:=pl.isList;rw[e]at hl;refine min_intList (I.ok.hd hc) hl hsz λv h' tk hv hk=>?_;obtain⟨t,rfl⟩:=intItems_at hv;obtain⟨h1,h2⟩:=argBest_lt (numAt xs) (xs.size-1);refine⟨.int _,H,I.kept hk,⟨_,rfl⟩,q _ ?_ λa ha=>?_⟩
 .rw[hns,numAt_eq];exact getD_mem (by rw[YAc,YAZ];omega)
 .rw[hns]at ha;obtain⟨j,hj,rfl⟩:=mem_getD ha;rw[YAc,YAZ]at hj;rw[<-numAt_eq];exact h2 j (by omega)
def zlU{X:Cx}(hc:X.calm=true):CallR X (.builtin "max") (λvs H Q=>∃(p:Addr)(ns:List Int),vs=[.ref p]/\SqL X.K H p (ns.map V.int)/\0<ns.length /\
  ∀M,M∈ns->(∀a,a∈ns->a<=M)->Q (.int M) H):=by
 intro O s Y H vs us Q I r h;obtain⟨p,ns,rfl,hq,hne,q⟩:=h;obtain⟨u,rfl,rx⟩:=zda r;cases rx;obtain⟨its,r',pl,hz⟩:=I.list hq;have hi:IntsAre its ns:=by simpa using zdB r'
 obtain⟨xs,e⟩:=hi.allInts.items;have hns:ns=xs.toList.map (·.1):=by rw[<-hi.numsOf,<-nums_intItems,<-e]
 have hsz:0<xs.size:=by
  have h3:=hne;rw[hns,YAc,YAZ]at h3;exact h3
 have hl:=pl.isList;rw[e]at hl;refine max_intList (I.ok.hd hc) hl hsz λv h' tk hv hk=>?_;obtain⟨t,rfl⟩:=intItems_at hv;obtain⟨h1,h2⟩:=argBest_gt (numAt xs) (xs.size-1);refine⟨.int _,H,I.kept hk,⟨_,rfl⟩,q _ ?_ λa ha=>?_⟩
 .rw[hns,numAt_eq];exact getD_mem (by rw[YAc,YAZ];omega)
 .rw[hns]at ha;obtain⟨j,hj,rfl⟩:=mem_getD ha;rw[YAc,YAZ]at hj;rw[<-numAt_eq];exact h2 j (by omega)
end L2
namespace Fd
open PySem L2
def zk7:FL
 |[.lst _ xs],Q=>∃ns:List Int,xs=ns.map D.int/\0<ns.length/\∀M,M∈ns->(∀a,a∈ns->M<=a)->Q (.int M)
 |_,_=>False
def zlA:FL
 |[.lst _ xs],Q=>∃ns:List Int,xs=ns.map D.int/\0<ns.length/\∀M,M∈ns->(∀a,a∈ns->a<=M)->Q (.int M)
 |_,_=>False
def zq7:zcN zk7:=λds Q Q' k q=>by
 unfold zk7 at q ⊢;split at q
 .obtain⟨ns,e,h,q⟩:=q;exact⟨ns,e,h,λM h1 h2=>k _ (q M h1 h2)⟩
 .exact q.elim
def zrB:zcN zlA:=λds Q Q' k q=>by
 unfold zlA at q ⊢;split at q
 .obtain⟨ns,e,h,q⟩:=q;exact⟨ns,e,h,λM h1 h2=>k _ (q M h1 h2)⟩
 .exact q.elim
def zqi:zfe c zk7 (λvs H Q=>∃(p:Addr)(ns:List Int),vs=[.ref p]/\SqL c.K H p (ns.map V.int)/\0<ns.length /\
  ∀M,M∈ns->(∀a,a∈ns->M<=a)->Q (.int M) H):=by
 intro H G ds vs Q gh bx h0 rv q;unfold zk7 at q;split at q
 .obtain⟨ns,rfl,hl,q⟩:=q;obtain⟨v,rfl,a,ws,rfl,ha,_,hw⟩:=zfZ rv;rw[reps_ints.mp hw]at ha;exact⟨a,ns,rfl,SqL.of (gh _ _ ha),hl,λM h1 h2=>q M h1 h2 _ H G (Stp.refl gh bx) rfl⟩
 .exact q.elim
def zpT:zfe c zlA (λvs H Q=>∃(p:Addr)(ns:List Int),vs=[.ref p]/\SqL c.K H p (ns.map V.int)/\0<ns.length /\
  ∀M,M∈ns->(∀a,a∈ns->a<=M)->Q (.int M) H):=by
 intro H G ds vs Q gh bx h0 rv q;unfold zlA at q;split at q
 .obtain⟨ns,rfl,hl,q⟩:=q;obtain⟨v,rfl,a,ws,rfl,ha,_,hw⟩:=zfZ rv;rw[reps_ints.mp hw]at ha;exact⟨a,ns,rfl,SqL.of (gh _ _ ha),hl,λM h1 h2=>q M h1 h2 _ H G (Stp.refl gh bx) rfl⟩
 .exact q.elim
def zr0{R:WL}(hR:DA X c [e] R)(hg:Gl X "min":=by rfl)(he:starEach [e] X.env=(false,eval e X.env)::starEach [] X.env:=by rfl)(hK:c.K=X.K:=by rfl)(hcalm:X.calm=true:=by rfl)(hm:X.mg "min"=none:=by decreasing_trivial):DE X c (.Call (.Name "min" p) [e] [] pos) (cbW zk7 R):=
 zeG zq7 (znI hcalm) (hK▸zqi) hm YCL hR hg (by decide) (by decide) he rfl
def zq6{R:WL}(hR:DA X c [e] R)(hg:Gl X "max":=by rfl)(he:starEach [e] X.env=(false,eval e X.env)::starEach [] X.env:=by rfl)(hK:c.K=X.K:=by rfl)(hcalm:X.calm=true:=by rfl)(hm:X.mg "max"=none:=by decreasing_trivial):DE X c (.Call (.Name "max" p) [e] [] pos) (cbW zlA R):=
 zeG zrB (zlU hcalm) (hK▸zpT) hm PyProof.Rows.boot_max hR hg (by decide) (by decide) he rfl
noncomputable def zbh:Fn:=fnW 7 ((seqW (ifS (blW (binW eqD (vW 0) (valW (lstW nilA)))) (retW (tupW (zab (kW (.str "none")) nilA))) nilS)
  (seqW (ownW 3 (lstW nilA))
  (seqW (forW (seqI (vW 0)) (.tp 3 (.cons (.nm 4) (.cons (.nm 5) (.cons (.nm 6) .nil)))) (seqW (ifS (blW (binW neD (ixvW 5 (vW 1)) (ixvW 5 (vW 2)))) (retW (tupW (zab (kW (.str "open")) nilA))) nilS)
  (appW 3 (binW subD (ixvW 6 (vW 2)) (ixvW 6 (vW 1))))))
  (seqW (frzW 3 (ifS (blW (binW neD (cbW zk7 (zab (vW 3) nilA)) (cbW zlA (zab (vW 3) nilA)))) (retW (tupW (zab (kW (.str "open")) nilA))) nilS))
  (retW (tupW (zab (kW (.str "sure")) (zab (ixvW 3 (kW (.int 0))) nilA)))))))))
noncomputable def za3:Fn:=fnW 1 ((seqW (ifS (blW (binW neD (ixvW 0 (kW (.int 0))) (kW (.str "open")))) (retW (vW 0)) nilS)
  (retW (binW addD (tupW (zab (ixvW 0 (kW (.int 0))) nilA)) (cbW ze6 (zab (valW (zaP [none] (seqI (slW (vW 0) (zlB (kW (.int 1))) noO)) (.nm 0) noIf (tupW (zab (valW (ziW (ixvW 0 (kW (.int 0))))) (zab (valW (ziW (ixvW 0 (kW (.int 1))))) nilA))))) nilA))))))
noncomputable def zd6:WS:=(seqW (asgW (.tp 4 (.cons (.nm 2) (.cons (.nm 3) (.cons (.nm 4) (.cons (.nm 5) .nil))))) (zau 4 zbH (zab (vW 1) (zab (binW ixD (valW (lstW (zab (kW (.int 8)) (zab (kW (.int 12)) nilA)))) (zau 2 zak (zab (vW 1) (zab (kW (.int 2)) nilA)))) (zab (binW ixD (valW (lstW (zab (kW (.int 6)) (zab (kW (.int 3)) nilA)))) (zau 2 zak (zab (vW 1) (zab (kW (.int 2)) nilA)))) (zab (kW (.int 24)) nilA))))))
  (seqW (asgW (.nm 6) (zau 2 zak (zab (vW 1) (zab (kW (.int 4)) nilA))))
  (seqW (asgW (.nm 7) (zau 3 zbW (zab (vW 2) (zab (vW 3) (zab (vW 6) nilA)))))
  (seqW (asgW (.nm 8) (zau 2 zak (zab (vW 1) (zab (vW 2) nilA))))
  (seqW (asgW (.nm 9) (valW (ziW (vW 3))))
  (seqW (forW (zfc (vW 2)) (.nm 10) (seqW (asgW (.nm 11) (zau 3 zbh (zab (vW 7) (zab (vW 8) (zab (vW 10) nilA)))))
  (zpE 12 13 5 ze9 (zab (vW 2) (zab (vW 9) (zab (vW 6) (zab (vW 8) (zab (vW 10) nilA))))) (orT (notT (truW (zau 7 zaw (zab (vW 2) (zab (vW 3) (zab (vW 6) (zab (vW 8) (zab (vW 10) (zab (vW 12) (zab (vW 11) nilA)))))))))) (blW (binW neD (vW 9) (vW 3)))) za3 (mIf (eqSC 0 "open") (mApp [1,0] (mApp [2,1] mNil)))
  (ifS (notT (truW (zau 2 (za7 13) (zab (zau 5 ze9 (zab (vW 2) (zab (vW 9) (zab (vW 6) (zab (vW 8) (zab (vW 10) nilA)))))) (zab (vW 13) nilA))))) (retW (kW (.bl false))) nilS))))
  (retW (kW (.bl true)))))))))
def zo2{n:Nat}{h h':List Int}(a:h.length=n)(b:h'.length=n)(k:∀m:Nat,m<n->Fen.gI h m=Fen.gI h' m):h=h':=by
 refine YBU (by omega) λi h1 h2=>?_
 have:=k i (by omega)
 unfold Fen.gI at this;rw[YAt,YAt,YAD,YAe h1,YAe h2]at this;exact this
def zmt{n:Nat}{rs:List Rn}{h h':List Int}(a:Fen.zdG n rs h)(b:Fen.zdG n rs h'):h=h':=by
 refine zo2 a.1 b.1 λm=>?_
 induction m using Nat.strongRecOn with
 |_ m ih=>
  intro hm;by_cases z:∃j:Nat,j<m/\Fen.Conn rs j m
  .obtain⟨j,hj,c⟩:=z;have q:=Fen.zhf a.2.1 b.2.1 c
   have:=ih j hj (by omega)
   omega
  .have c0:∀j:Int,0<=j->j<m->¬ Fen.Conn rs j m:=λj j0 j1 c=>z ⟨j.toNat,by omega,by rwa[YBk j0]⟩;rw[a.2.2 m (by omega) (by omega) c0,b.2.2 m (by omega) (by omega) c0]
def zlN{n:Nat}{rs:List Rn}{mark:Int}{h x y:List Int}(a:LiftOk n rs mark h x)(b:LiftOk n rs mark h y):x=y:=by
 refine zo2 a.len b.len λm hm=>?_;by_cases z:Fen.Conn rs mark m
 .rw[a.yes m (by omega) (by omega) z,b.yes m (by omega) (by omega) z]
 .rw[a.no m (by omega) (by omega) z,b.no m (by omega) (by omega) z]
theorem zks{n:Nat}{rs:List Rn}{mark:Int}:∀{ts us:List Tri},ts.map Tri.l=us.map Tri.l->(∀t∈ts,TriOk n rs mark t)->(∀t∈us,TriOk n rs mark t)->ts=us
 |[],[],_,_,_=>rfl
 |⟨l,h,h'⟩::ts,⟨l2,h2,h2'⟩::us,e,a,b=>by
  rw[YAb,YAb]at e;injection e with e1 e2
  have e1:l=l2:=e1;subst e1;have x:=a _ YAh;have y:=b _ YAh;have e3:h=h2:=zmt x.flat y.flat;subst e3;have e4:h'=h2':=zlN x.lift y.lift;subst e4;rw[zks e2 (λt ht=>a t (YAj _ ht)) λt ht=>b t (YAj _ ht)]
 |[],_::_,e,_,_=>by cases e
 |_::_,[],e,_,_=>by cases e
def psOf(ts:List Tri):List (List Int×List Int):=ts.flatMap λt=>[(t.l,t.h),(t.l,t.h')]
def riP(one qe:Int)(p:List Int×List Int):Int:=Fen.gI p.2 qe-Fen.gI p.2 one
def OpenAt(n:Nat)(rs:List Rn)(qf:Nat)(one qe:Int)(d:D):Prop:=∃ts:List Tri,ts.map Tri.l=setsR rs (cntR qf rs)/\(∀t∈ts,TriOk n rs qe t)/\∃p0 p,(psOf ts).head?=some p0/\(psOf ts).find? (λp=>!decide (riP one qe p=riP one qe p0))=some p/\d=.tup [.str "open",prD p0,prD p]
def OpenAt.uniq{n:Nat}{rs:List Rn}{qf:Nat}{one qe:Int}{d e:D}(a:OpenAt n rs qf one qe d)(b:OpenAt n rs qf one qe e):d=e:=by
 obtain⟨ts,a1,a2,p0,p,a3,a4,a5⟩:=a;obtain⟨us,b1,b2,q0,q,b3,b4,b5⟩:=b
 have:=zks (a1.trans b1.symm) a2 b2
 subst this;rw[a3]at b3;injection b3 with b3
 subst b3;rw[a4]at b4;injection b4 with b4
 subst b4;rw[a5,b5]
def Told2(n:Nat)(rs:List Rn)(qf:Nat)(one qe:Int)(d:D):Prop:=ToldNone n rs qf d\/(∃rise,ToldSure n rs qf one qe rise d)\/(ToldOpen n rs qf one qe d/\OpenAt n rs qf one qe d)
theorem zj8{α:Type}{f:α->Bool}{p:α}{b:List α}:∀{a:List α},(∀x∈a,f x=false)->f p=true->(a++p::b).find? f=some p
 |[],_,h=>by rw[YA4,YBu,h]
 |x::a,k,h=>by
  rw[YCP,YBu,k x YAh];exact zj8 (λy hy=>k y (YAj _ hy)) h
def zis(a:Bool)(n:Nat)(rs:List Rn)(qf:Nat)(one qe:Int)(F:Few2 n rs)(hm:qf<=5)(o0:0<=one)(o1:one<n)(p0:0<=qe)(p1:qe<n) :
  ze9 [.int n,.lst a (rs.map runD),.int qf,.int one,.int qe] (Told2 n rs qf one qe):=by
 unfold ze9 fnW zaF;rw[YAb,YAb,YAb,YAb,YAb,zaM,zal,zal,zal,zal];refine⟨rfl,zaS (zjG _ n rs qf qe F.toFew (by omega) p0 p1) λd ⟨ts,hd,hts,ok⟩=>?_⟩;subst hd;cases ts with
 |nil=>
  refine⟨rfl,zaS (zgy _ n rs qf F (by omega) hm) λd hd=>⟨by show 2<=100000;decide,?_⟩⟩;have he:setsR rs (cntR qf rs)=[]:=hts.symm;rcases hd with⟨_,l,fi⟩|⟨_,pa⟩
  .have:=znP fi
   rw[he]at this;cases this
  .exact .inl ⟨he,d,rfl,pa⟩
 |cons t ts=>
  have okR:∀p∈psOf (t::ts),RdOk n rs (cntR qf rs) p.1 p.2:=λp hp=>by
   obtain⟨u,hu,hp⟩:=YCk.mp hp;have hu':=ok u hu;have hmem:u.l∈setsR rs (cntR qf rs):=by rw[<-hts];exact YAG hu
   simp only[YAk,YAO,YBG]at hp;rcases hp with rfl|rfl
   .exact⟨hmem,hu'.flat.2.1,hu'.flat.1⟩
   .exact⟨hmem,zpV (F.left u.l) hu'.lift hu'.flat.2.1,hu'.lift.len⟩
  have th:=(ok t YAh).flat.1;refine zop (x:=zc1 t.l t.h) ?_;refine⟨rfl,rfl,zaS (zkt true t.h one qe o0 (by omega) p0 (by omega)) λd hd=>?_⟩;subst hd;show zbB _ _ _ ((t::ts).flatMap triD) _;rw[zkX];refine zaY (λrest Z=>∃(done qi:List (List Int×List Int))(s9 s10:Sl),Z=[.val (.int n),.val (.lst false (rs.map runD)),.val (.int qf),.val (.int one),.val (.int qe),.val (.lst true ((t::ts).flatMap triD)),.val (lsD t.l),.val (.lst true (t.h.map D.int)),.val (.int (Fen.gI t.h qe-Fen.gI t.h one)),s9,s10]/\rest=qi.map prD/\psOf (t::ts)=done++qi /\
   ∀p∈done,Fen.gI p.2 qe-Fen.gI p.2 one=Fen.gI t.h qe-Fen.gI t.h one) ?_ ?_ _ _ ⟨[],_,.un,.un,by rw[zkX];rfl,rfl,rfl,λp h=>by cases h⟩
  .rintro x rest Z E' hn' hc hr hb ⟨done,qi,s9,s10,rfl,e1,e2,hal⟩;cases qi with
   |nil=>cases e1
   |cons p qi=>
    rw[YAb]at e1;injection e1 with e1 e3
    subst e1;have hp:=okR p (by rw[e2];simp);have hpl:=hp.len;refine⟨rfl,rfl,zaS (zkt true p.2 one qe o0 (by omega) p0 (by omega)) λd hd=>?_⟩;subst hd;refine⟨zay _ _,?_⟩;rw[zaZ];by_cases z:Fen.gI p.2 qe-Fen.gI p.2 one=Fen.gI t.h qe-Fen.gI t.h one
    .rw[YAw z];refine hn' _ ⟨done++[p],qi,.val (lsD p.1),.val (.lst true (p.2.map D.int)),rfl,e3,by rw[e2,YAJ];rfl,λq hq=>?_⟩;rcases YAm.mp hq with e|e
     .exact hal q e
     .rw[YAg.mp e];exact z
    .rw[YAC z];refine⟨by show 2<=100000;decide,by show 2<=100000;decide,by show 3<=100000;decide,hr _ (.inr (.inr ⟨⟨t.l,t.h,p.1,p.2,rfl,okR (t.l,t.h) (by simp[psOf]),hp,z⟩,t::ts,hts,ok,(t.l,t.h),p,rfl,?_,rfl⟩))⟩;rw[e2];refine zj8 (λq hq=>?_) ?_
     .unfold riP;rw[YAw (hal q hq)];rfl
     .unfold riP;rw[YAC z];rfl
  .rintro Z ⟨done,qi,s9,s10,rfl,e1,e2,hal⟩;cases qi with
   |cons p qi=>cases e1
   |nil=>
    rw[YAN]at e2;have hal2:∀u∈t::ts,Fen.gI u.h qe-Fen.gI u.h one=Fen.gI t.h qe-Fen.gI t.h one/\Fen.gI u.h' qe-Fen.gI u.h' one=Fen.gI t.h qe-Fen.gI t.h one:=λu hu=>
     ⟨hal (u.l,u.h) (by rw[<-e2];exact YCk.mpr ⟨u,hu,by simp⟩),hal (u.l,u.h') (by rw[<-e2];exact YCk.mpr ⟨u,hu,by simp⟩)⟩
    have conn:∀u∈t::ts,Fen.Conn (zaL rs u.l) one qe:=λu hu=>by
     by_cases z:Fen.Conn (zaL rs u.l) qe one
     .exact z.symm
     .have L:=(ok u hu).lift;have q1:=L.no one o0 o1 z;have q2:=L.yes qe p0 p1 (.refl _);have q3:=hal2 u hu;omega
    have conn2:∀l∈setsR rs (cntR qf rs),Fen.Conn (zaL rs l) one qe:=λl hl=>by
     rw[<-hts]at hl;obtain⟨u,hu,rfl⟩:=YAF.mp hl;exact conn u hu
    refine⟨rfl,zaS (zdH _ n rs one qe qf F o0 o1 hm ?_) λd hd=>⟨by show 3<=100000;decide,.inr (.inl ⟨_,?_,?_,conn2,d,rfl,hd⟩)⟩⟩
    .intro ext hl he hy;rw[YA4]at hy ⊢;obtain⟨j,hj,hm⟩:=zhw he (by omega:(ext.length:Int)<=qf)
     have:=conn2 (zbw ext) (mem_sets.mpr ⟨⟨j,hj,hm⟩,by rw[zca];exact hy⟩)
     rw[zca]at this;exact this
    .rw[<-hts];simp
    .intro l f R;have hl:=R.mem;rw[<-hts]at hl;obtain⟨u,hu,rfl⟩:=YAF.mp hl
     have:=Fen.zhf R.fit (ok u hu).flat.2.1 (conn u hu)
     have q:=(hal2 u hu).1;omega
theorem Told2.uniq{n:Nat}{rs:List Rn}{qf:Nat}{one qe:Int}{d e:D}(a:Told2 n rs qf one qe d)(b:Told2 n rs qf one qe e):d=e:=by
 rcases a with⟨e1,p,rfl,hp⟩|⟨r,A⟩|⟨A,oa⟩<;>rcases b with⟨e2,q,rfl,hq⟩|⟨r',B⟩|⟨B,ob⟩
 .rw[hp.uniq hq]
 .exact absurd e1 B.some
 .obtain⟨l,h,l',h',_,r1,_⟩:=B.ex
  have:=r1.mem;rw[e1]at this;cases this
 .exact absurd e2 A.some
 .obtain⟨l,hl⟩:=YCv _ A.some;obtain⟨f,R⟩:=zpd hl;have q1:=A.all l f R;have q2:=B.all l f R;obtain⟨p,rfl,hp⟩:=A.pap;obtain⟨q,rfl,hq⟩:=B.pap;rw[hp.uniq hq,<-q1,q2]
 .obtain⟨l,h,l',h',_,r1,r2,ne⟩:=B.ex;have q1:=A.all _ _ r1.rdg;have q2:=A.all _ _ r2.rdg;omega
 .obtain⟨l,h,l',h',_,r1,_⟩:=A.ex
  have:=r1.mem;rw[e2]at this;cases this
 .obtain⟨l,h,l',h',_,r1,r2,ne⟩:=A.ex;have q1:=B.all _ _ r1.rdg;have q2:=B.all _ _ r2.rdg;omega
 .exact oa.uniq ob
def stO(t:St3):D:=.tup [.lst false (t.1.map D.int),.lst false (t.2.1.map D.int),.lst false (t.2.2.map D.int)]
def zqD(a:Bool)(ts:List St3):D.old (.lst a (ts.map stD))=.lst false (ts.map stO):=by
 unfold D.old;congr 1;rw[YAM];refine YBe λt _=>?_;show D.old (stD t)=stO t;unfold stD lsD stO;rw[D.old];simp only[YAb,YBM,zbm]
def zq8(b:Bool)(ts:List St3):eqOk (.lst b (ts.map stO)) (.lst true [])/\eqB (.lst b (ts.map stO)) (.lst true [])=ts.isEmpty:=by
 have lay:∀ts:List St3,zcH (ts.map stO)=true:=λts=>by
  induction ts with
  |nil=>rfl
  |cons t ts ih=>
   rw[YAb,zcH,ih]
   have:∀xs:List Int,layD (.lst false (xs.map D.int))=true:=λxs=>by unfold layD;exact zcr xs
   unfold stO layD;rw[zcH,zcH,zcH,zcH,this,this,this];rfl
 refine⟨⟨by unfold layD;exact lay ts,by unfold layD;rfl,YAQ (YDx _ _) (by decide)⟩,?_⟩;cases ts with
 |nil=>rfl
 |cons t ts=>
  unfold eqB toPy;rw[YAb,zb3,zb3,PyData.eqv];rfl
def zcF(one qe:Int)(t:St3):Int:=Fen.gI t.2.2 qe-Fen.gI t.2.2 one
noncomputable def zrW(ts:List St3)(one qe:Int)(d:D):Prop:=
 (ts=[]/\d=.tup [.str "none"]) \/
 (d=.tup [.str "open"]/\((∃t∈ts,Fen.gI t.2.1 one≠Fen.gI t.2.1 qe)\/∃t∈ts,∃u∈ts,zcF one qe t≠zcF one qe u)) \/
 (∃r,d=.tup [.str "sure",.int r]/\ts≠[]/\∀t∈ts,Fen.gI t.2.1 one=Fen.gI t.2.1 qe/\zcF one qe t=r)
def zjU(a:Bool)(n:Nat)(ts:List St3)(one qe:Int)(o0:0<=one)(o1:one<n)(p0:0<=qe)(p1:qe<n)(few:ts.length<64)(ok:∀t∈ts,t.2.1.length=n/\t.2.2.length=n) :
  zbh [.lst a (ts.map stD),.int one,.int qe] (zrW ts one qe):=by
 unfold zbh fnW zaF;rw[YAb,YAb,YAb,zqD,zal,zal];obtain⟨q1,q2⟩:=zq8 false ts;refine⟨by show 0<=100000;decide,q1,?_⟩;rw[q2];cases hem:ts.isEmpty with
 |true=>exact⟨by show 1<=100000;decide,.inl ⟨List.isEmpty_iff.mp hem,rfl⟩⟩
 |false=>
  have hne:ts≠[]:=λz=>by rw[z]at hem;cases hem
  obtain⟨t0,ts0,hts⟩:=List.exists_cons_of_ne_nil hne;refine⟨by show 0<=100000;decide,?_⟩;show zbB _ _ _ (ts.map stO) _;refine zaY (λrest Z=>∃(done qi:List St3)(s4 s5 s6:Sl),Z=[.val (.lst false (ts.map stO)),.val (.int one),.val (.int qe),.own ((done.map (zcF one qe)).map D.int),s4,s5,s6]/\rest=qi.map stO/\ts=done++qi/\∀t∈done,Fen.gI t.2.1 one=Fen.gI t.2.1 qe) ?_ ?_ _ _ ⟨[],ts,.un,.un,.un,rfl,rfl,rfl,λt h=>by cases h⟩
  .rintro x rest Z E' hn' hc hr hb ⟨done,qi,s4,s5,s6,rfl,e1,e2,hal⟩;cases qi with
   |nil=>cases e1
   |cons t qi=>
    rw[YAb]at e1;injection e1 with e1 e3
    subst e1;have ht:t∈ts:=by rw[e2];simp
    obtain⟨l1,l2⟩:=ok t ht;have dl:done.length<64:=by
     have:=congrArg List.length e2
     rw[YAo,YAK]at this;omega
    refine⟨rfl,zaN (hs:=t.2.1) o0 (by omega) (zaN (hs:=t.2.1) p0 (by omega) ⟨zay _ _,?_⟩)⟩;rw[zaZ];by_cases z:Fen.gI t.2.1 one=Fen.gI t.2.1 qe
    .rw[YAw z];have go:appW 3 (binW subD (ixvW 6 (vW 2)) (ixvW 6 (vW 1))) E' [.val (.lst false (ts.map stO)),.val (.int one),.val (.int qe),.own ((done.map (zcF one qe)).map D.int),.val (.lst false (t.1.map D.int)),.val (.lst false (t.2.1.map D.int)),.val (.lst false (t.2.2.map D.int))]:=by
      refine zo0 (i:=3) (xs:=(done.map (zcF one qe)).map D.int) rfl ?_;refine zaN (hs:=t.2.2) p0 (by omega) (zaN (hs:=t.2.2) o0 (by omega) ⟨by rw[YAc,YAc];omega,?_⟩);refine hn' _ ⟨done++[t],qi,.val (.lst false (t.1.map D.int)),.val (.lst false (t.2.1.map D.int)),.val (.lst false (t.2.2.map D.int)),?_,e3,by rw[e2,YAJ];rfl,λu hu=>?_⟩
      .rw[YAx,YAx];rfl
      .rcases YAm.mp hu with e|e
       .exact hal u e
       .rw[YAg.mp e];exact z
     exact go
    .rw[YAC z];exact⟨by show 1<=100000;decide,hr _ (.inr (.inl ⟨rfl,.inl ⟨t,ht,z⟩⟩))⟩
  .rintro Z ⟨done,qi,s4,s5,s6,rfl,e1,e2,hal⟩;cases qi with
   |cons p qi=>cases e1
   |nil=>
    rw[YAN]at e2;subst e2;have hl:0<(ts.map (zcF one qe)).length:=by rw[hts];simp
    refine⟨_,rfl,hl,λM hM hMa=>⟨_,rfl,hl,λN hN hNa=>⟨zay _ _,?_⟩⟩⟩;rw[zaZ];obtain⟨t1,ht1,rfl⟩:=YAF.mp hM;obtain⟨t2,ht2,rfl⟩:=YAF.mp hN;by_cases z:zcF one qe t1=zcF one qe t2
    .rw[YAw z];refine zaN (hs:=ts.map (zcF one qe)) (by decide) (by omega) ⟨by show 2<=100000;decide,.inr (.inr ⟨_,rfl,hne,λt ht=>⟨hal t ht,?_⟩⟩)⟩;have b1:=hMa _ (YAG ht);have b2:=hNa _ (YAG ht);have hm0:t0∈ts:=by rw[hts];exact YAh
     have c1:=hMa _ (YAG hm0);have c2:=hNa _ (YAG hm0);have e0:Fen.gI (ts.map (zcF one qe)) 0=zcF one qe t0:=by rw[hts];rfl
     rw[e0];omega
    .rw[YAC z];exact⟨by show 1<=100000;decide,.inr (.inl ⟨rfl,.inr ⟨t1,ht1,t2,ht2,z⟩⟩)⟩
def zl8:D.old (.tup [.str "none"])=.tup [.str "none"]:=by rw[D.old];simp only[YAb,YBM,zc2]
def zlx{n:Nat}{rs:List Rn}{qf:Nat}{one qe:Int}{d:D}(F:Few2 n rs)(hn:0<n)(hm:qf<=5)(a:Bool)(no:NoS rs [] qf)(T:ToldNone n rs qf d):zaw [.int n,.lst a (rs.map runD),.int qf,.int one,.int qe,d,.tup [.str "none"]] (·=.bl true):=by
 obtain⟨p,rfl,hp⟩:=T.pap;obtain⟨k1,k2,k3,k4,k5,k6⟩:=okSS;obtain⟨e1,e2,e3,e4,e5,e6⟩:=eqSS;have n1:=F.n1;unfold zaw fnW zaF;rw[YAb,YAb,YAb,YAb,YAb,YAb,YAb,zid,zl8,zcd hp,zaM,zal,zal,zal,zal];refine⟨zay _ _,?_⟩;show if eqB (.int 2) (.int 0)=true then _ else _;rw[zaZ];refine⟨k2,?_⟩;rw[e2];refine⟨k2,?_⟩;rw[e2];refine⟨zay _ _,?_⟩;show blD (.bl (eqB (.int 2) (.int 2))) _;rw[zaZ];exact⟨rfl,zaS (zdF F (by decide) (by omega) (zc2 _) false qf p hm hp (zlP no)) λd hd=>hd⟩
def okNo:(eqOk (.str "none") (.str "open")/\eqB (.str "none") (.str "open")=false)/\(eqOk (.str "sure") (.str "open")/\eqB (.str "sure") (.str "open")=false):=
 ⟨⟨zd2 _ _ (by decide +kernel) (by decide +kernel),by decide +kernel⟩,zd2 _ _ (by decide +kernel) (by decide +kernel),by decide +kernel⟩
def zl7(p:D)(hp:p.old=p):za3 [.tup [.str "none",p]] (·=.tup [.str "none",p]):=by
 unfold za3 fnW zaF;rw[YAb,zid,hp];refine⟨okNo.1.1,?_⟩;rw[okNo.1.2];rfl
def zmx(r:Int)(p:D)(hp:p.old=p):za3 [.tup [.str "sure",.int r,p]] (·=.tup [.str "sure",.int r,p]):=by
 unfold za3 fnW zaF;rw[YAb,zjb,hp];refine⟨okNo.2.1,?_⟩;rw[okNo.2.2];rfl
def zng(p q:List Int×List Int):za3 [.tup [.str "open",prD p,prD q]] (·=.tup [.str "open",prD p,prD q]):=by
 obtain⟨oo,oe⟩:=okOO;have ep:∀p:List Int×List Int,(prD p).old=.tup [.lst false (p.1.map D.int),.lst false (p.2.map D.int)]:=λp=>ziM true true p.1 p.2;unfold za3 fnW zaF;rw[YAb,zjm,ep,ep];refine⟨oo,?_⟩;rw[oe];show _/\_/\zbd _ _ _ _ _ ([p,q].map λp:List Int×List Int=>D.tup [.lst false (p.1.map D.int),.lst false (p.2.map D.int)]) [];refine⟨by show 1<=100000;decide,by show 2<=100000;decide,zaX _ prD [p,q] (λp hp qo N y=>⟨by show 2<=100000;decide,y⟩) ?_⟩;exact⟨by show 1+2<=100000;decide,rfl⟩
theorem zfp:∀xs:List Int,newB.newBs (xs.map D.int)=true
 |[]=>by rw[YBM,newB.newBs]
 |x::xs=>by rw[YAb,newB.newBs,zfp xs];rfl
def zph(p:List Int×List Int):newB (prD p)=true:=by
 unfold prD zc1 lsD;rw[newB,newB.newBs,newB.newBs,newB.newBs,newB,newB,zfp,zfp];rfl
theorem zpp{w:Nat}:∀{k:Nat}{d:D},PpIs w k d->newB d=true
 |k+1,_,⟨kind,mark,line,rest,hk,hl,hr,hq,e⟩=>by
  subst e;have hp:∀(ps:List (Int×D)),(∀p∈ps,newB p.2=true)->newB.newBs (ps.map prQ)=true:=λps h=>by
   induction ps with
   |nil=>rw[YBM,newB.newBs]
   |cons p ps ih=>
    rw[YAb,newB.newBs,ih λq hq=>h q (YAj _ hq)];show(newB (.tup [.int p.1,p.2])&&true)=true;rw[newB,newB.newBs,newB.newBs,newB.newBs,h p YAh];rfl
  show newB (.tup [.str kind,.int mark,.tup (line.map D.int),.tup (rest.map prQ)])=true;rw[newB,newB.newBs,newB.newBs,newB.newBs,newB.newBs,newB.newBs,newB,newB,zfp,hp rest λp h=>zpp (hq p h)];rfl
theorem zk2{w:Nat}(hw:w<=1000):∀{k:Nat}{d:D},PpIs w (k+1) d->zaG d (3*k+2)=true
 |k,_,⟨kind,mark,line,rest,hk,hl,hr,hq,e⟩=>by
  subst e;have hi:∀(xs:List Int)(m:Nat),zbs (xs.map D.int) m=true:=λxs m=>by
   induction xs with
   |nil=>rfl
   |cons x xs ih=>rw[YAb,zbs,ih];rfl
  have h1:∀m,zaG (.str kind) m=true:=λm=>zso (P:=λkind=>zaG (.str kind) m=true) hk (by show PyData.canLay0 (.str "ring")=true;decide +kernel) (by show PyData.canLay0 (.str "line")=true;decide +kernel) (by show PyData.canLay0 (.str "Ring")=true;decide +kernel) (by show PyData.canLay0 (.str "")=true;decide +kernel);have h2:zaG (.tup (rest.map prQ)) (3*k+1)=true:=by
   cases k with
   |zero=>
    cases rest with
    |nil=>rfl
    |cons p ps=>exact(hq p YAh).elim
   |succ k=>
    have hp:∀(ps:List (Int×D)),(∀p∈ps,zaG p.2 (3*k+2)=true)->zbs (ps.map prQ) (3*k+3)=true:=λps h=>by
     induction ps with
     |nil=>rfl
     |cons p ps ih=>
      rw[YAb,zbs,ih λq hq=>h q (YAj _ hq)];show(decide (2<=1000)&&(true&&(zaG p.2 (3*k+2)&&true))&&true)=true;rw[h p YAh];rfl
    rw[show 3*(k+1)+1=3*k+3+1 by omega,zaG,hp rest λp h=>zk2 hw (hq p h),YAc,YAw (by omega)];rfl
  show(decide (4<=1000)&&(zaG (.str kind) (3*k+1)&&(true&&(zaG (.tup (line.map D.int)) (3*k+1)&&(zaG (.tup (rest.map prQ)) (3*k+1)&&true)))))=true;rw[h1,h2,show zaG (.tup (line.map D.int)) (3*k+1)=true by rw[zaG,hi,YAc,YAw (by omega)];rfl];rfl
noncomputable def k14b:WS:=(seqW (asgW (.nm 11) (zau 3 zbh (zab (vW 7) (zab (vW 8) (zab (vW 10) nilA)))))
  (zpE 12 13 5 ze9 (zab (vW 2) (zab (vW 9) (zab (vW 6) (zab (vW 8) (zab (vW 10) nilA))))) (orT (notT (truW (zau 7 zaw (zab (vW 2) (zab (vW 3) (zab (vW 6) (zab (vW 8) (zab (vW 10) (zab (vW 12) (zab (vW 11) nilA)))))))))) (blW (binW neD (vW 9) (vW 3)))) za3 (mIf (eqSC 0 "open") (mApp [1,0] (mApp [2,1] mNil)))
  (ifS (notT (truW (zau 2 (za7 13) (zab (zau 5 ze9 (zab (vW 2) (zab (vW 9) (zab (vW 6) (zab (vW 8) (zab (vW 10) nilA)))))) (zab (vW 13) nilA))))) (retW (kW (.bl false))) nilS)))
noncomputable def k14r:WS:=(seqW (asgW (.nm 6) (zau 2 zak (zab (vW 1) (zab (kW (.int 4)) nilA))))
  (seqW (asgW (.nm 7) (zau 3 zbW (zab (vW 2) (zab (vW 3) (zab (vW 6) nilA)))))
  (seqW (asgW (.nm 8) (zau 2 zak (zab (vW 1) (zab (vW 2) nilA))))
  (seqW (asgW (.nm 9) (valW (ziW (vW 3))))
  (seqW (forW (zfc (vW 2)) (.nm 10) k14b)
  (retW (kW (.bl true))))))))
def zpm{C:D->Option Bool}{B:D->Bool}{d:D}(h:C d=some false):mIf C B d=true:=by unfold mIf;rw[h]
def zpu{C:D->Option Bool}{B:D->Bool}{d:D}(h:C d=some true)(b:B d=true):mIf C B d=true:=by unfold mIf;rw[h];exact b
def zqZ{n:Nat}{rs:List Rn}{qf:Nat}{one qe:Int}{d:D}(F:Few2 n rs)(T:Told2 n rs qf one qe d):mIf (eqSC 0 "open") (mApp [1,0] (mApp [2,1] mNil)) d=true:=by
 have no1:decide (("none":Str)="open")=false:=by decide +kernel
 have no2:decide (("sure":Str)="open")=false:=by decide +kernel
 have yes:decide (("open":Str)="open")=true:=by decide +kernel
 have n1:=F.n1;have few:∀{l h},RdOk n rs (cntR qf rs) l h->decide (l.length<=1000)=true/\decide (h.length<=1000)=true:=λ{l h} r=>by
  obtain⟨⟨j,hj,hm⟩,_⟩:=mem_sets.mp r.mem;obtain⟨q1,q2,q3⟩:=mem_lists.mp hm;have hh:=F.qh;have hlen:l.length<=(zap rs).length:=L2.zaB (zb7 q2) q3
  have:=r.len
  exact⟨YAw (by omega),YAw (by omega)⟩
 rcases T with⟨_,p,rfl,_⟩|⟨r,T⟩|⟨T,_⟩
 .exact zpm (congrArg some no1)
 .obtain⟨p,rfl,_⟩:=T.pap;exact zpm (congrArg some no2)
 .obtain⟨l,h,l',h',rfl,r1,r2,_⟩:=T.ex;refine zpu (congrArg some yes) ?_;show((true&&decide ((l.map D.int).length<=1000))&&((true&&decide ((h'.map D.int).length<=1000))&&true))=true;rw[YAc,YAc,(few r1).1,(few r2).2];rfl
def zpF{n:Nat}{rs:List Rn}{qf:Nat}{one qe:Int}{d:D}(F:Few2 n rs)(hm:qf<4)(T:Told2 n rs qf one qe d):za3 [d] (·=d)/\newB d=true/\zaG d 12=true:=by
 have pa:∀{o o':Int}{p:D},PaperIs n rs o o' qf [] p->p.old=p/\newB p=true/\zaG p 11=true:=λhp=>by
  have pp:=(zkm F hp).upTo (j:=3+1) (by omega);exact⟨zcd hp,zpp pp,zk2 (k:=3) (by decide) pp⟩
 rcases T with⟨_,p,rfl,hp⟩|⟨r,T⟩|⟨T,_⟩
 .obtain⟨h1,h2,h3⟩:=pa hp;refine⟨zl7 p h1,?_,?_⟩
  .rw[newB,newB.newBs,newB.newBs,newB.newBs,h2];rfl
  .show(decide (2<=1000)&&(PyData.canLay0 (.str "none")&&(zaG p 11&&true)))=true;rw[h3];decide +kernel
 .obtain⟨p,rfl,hp⟩:=T.pap;obtain⟨h1,h2,h3⟩:=pa hp;refine⟨zmx r p h1,?_,?_⟩
  .rw[newB,newB.newBs,newB.newBs,newB.newBs,newB.newBs,h2];rfl
  .show(decide (3<=1000)&&(PyData.canLay0 (.str "sure")&&(true&&(zaG p 11&&true))))=true;rw[h3];decide +kernel
 .obtain⟨l,h,l',h',rfl,r1,r2,_⟩:=T.ex;have n1:=F.n1;have hi:∀(xs:List Int)(m:Nat),zbs (xs.map D.int) m=true:=λxs m=>by
   induction xs with
   |nil=>rfl
   |cons x xs ih=>rw[YAb,zbs,ih];rfl
  have few:∀{l h},RdOk n rs (cntR qf rs) l h->zaG (zc1 l h) 11=true:=λ{l h} r=>by
   obtain⟨⟨j,hj,hm⟩,_⟩:=mem_sets.mp r.mem;obtain⟨q1,q2,q3⟩:=mem_lists.mp hm;have hh:=F.qh;have hlen:l.length<=(zap rs).length:=L2.zaB (zb7 q2) q3
   have:=r.len
   show(decide (2<=1000)&&((decide ((l.map D.int).length<=1000)&&zbs (l.map D.int) 9)&&((decide ((h.map D.int).length<=1000)&&zbs (h.map D.int) 9)&&true)))=true;rw[hi,hi,YAc,YAc,YAw (show l.length<=1000 by omega),YAw (show h.length<=1000 by omega)];rfl
  refine⟨zng (l,h) (l',h'),?_,?_⟩
  .rw[newB,newB.newBs,newB.newBs,newB.newBs,newB.newBs,show newB (zc1 l h)=true from zph (l,h),show newB (zc1 l' h')=true from zph (l',h')];rfl
  .show(decide (3<=1000)&&(PyData.canLay0 (.str "open")&&(zaG (zc1 l h) 11&&(zaG (zc1 l' h') 11&&true))))=true;rw[few r1,few r2];decide +kernel
def znR{n:Nat}{rs:List Rn}{qf:Nat}{one qe:Int}{ts:List St3}{d e:D}(F:Few2 n rs)(hm:qf<4)(o0:0<=one)(o1:one<n)(p0:0<=qe)(p1:qe<n)(S:SetsIs n rs qf ts)(V:zrW ts one qe e)(T:Told2 n rs qf one qe d)(a:Bool):zaw [.int n,.lst a (rs.map runD),.int qf,.int one,.int qe,d,e] (·=.bl true):=by
 have nts:∀l∈setsR rs (cntR qf rs),ts≠[]:=λl hl z=>by
  obtain⟨t,ht,_⟩:=(S.mem l).mpr hl;rw[z]at ht;cases ht
 have lab:∀t∈ts,t.1∈setsR rs (cntR qf rs)/\(Fen.gI t.2.1 one=Fen.gI t.2.1 qe↔Fen.Conn (zaL rs t.1) one qe)/\Fen.HtOk (zaL rs t.1) t.2.2:=λt ht=>by
  obtain⟨_,_,l3,l4⟩:=S.ok t ht;exact⟨(S.mem t.1).mp ⟨t,ht,rfl⟩,l3 one qe o0 o1 p0 p1,l4⟩
 rcases T with T|⟨r,T⟩|⟨T,_⟩
 .have et:ts=[]:=List.eq_nil_iff_forall_not_mem.mpr λt ht=>by
   have:=(lab t ht).1
   rw[T.emp]at this;cases this
  have e0:e=.tup [.str "none"]:=by
   rcases V with⟨_,e1⟩|⟨_,⟨t,ht,_⟩|⟨t,ht,_⟩⟩|⟨_,_,ne,_⟩
   .exact e1
   .rw[et]at ht;cases ht
   .rw[et]at ht;cases ht
   .exact absurd et ne
  subst e0;refine zlx F (by omega) (by omega) a (λext hl he=>?_) T;obtain⟨j,hj,hm⟩:=zhw he (by omega:(ext.length:Int)<=qf);rw[YA4];cases hy:hasH (zaL rs ext)with
  |false=>rfl
  |true=>
   have:zbw ext∈setsR rs (cntR qf rs):=mem_sets.mpr ⟨⟨j,hj,hm⟩,by rw[zca];exact hy⟩
   rw[T.emp]at this;cases this
 .have sr:∀t∈ts,zcF one qe t=r:=λt ht=>T.all t.1 _ ⟨(lab t ht).1,(lab t ht).2.2⟩;have e0:e=.tup [.str "sure",.int r]:=by
   rcases V with⟨et,_⟩|⟨_,⟨t,ht,ne⟩|⟨t,ht,u,hu,ne⟩⟩|⟨r',e1,ne,al⟩
   .obtain⟨l,hl⟩:=YCv _ T.some;exact absurd et (nts l hl)
   .exact absurd ((lab t ht).2.1.mpr (T.conn _ (lab t ht).1)) ne
   .exact absurd ((sr t ht).trans (sr u hu).symm) ne
   .obtain⟨t,ht⟩:=YCv _ ne;rw[e1,<-(al t ht).2,sr t ht]
  subst e0;exact zk4 F o0 o1 (by omega) a T
 .obtain⟨l,h,l',h',_,r1,r2,ne⟩:=id T.ex;have e0:e=.tup [.str "open"]:=by
   rcases V with⟨et,_⟩|⟨e1,_⟩|⟨r,_,_,al⟩
   .exact absurd et (nts l r1.mem)
   .exact e1
   .have ri:∀{l h},RdOk n rs (cntR qf rs) l h->Fen.gI h qe-Fen.gI h one=r:=λ{l h} q=>by
     obtain⟨t,ht,rfl⟩:=(S.mem l).mpr q.mem;have c:=(lab t ht).2.1.mp (al t ht).1
     have:=Fen.zhf q.fit (lab t ht).2.2 c
     have z:Fen.gI t.2.2 qe-Fen.gI t.2.2 one=r:=(al t ht).2;omega
    have:=ri r1
    have:=ri r2
    omega
  subst e0;exact zlG F o0 o1 p0 p1 a T
def zqk{n:Nat}{rs:List Rn}{m:Nat}{one qe:Int}{ts:List St3}{E:En}{s4 s5 s11 s12 s13:Sl}(F:Few2 n rs)(hm:m<4)(o0:0<=one)(o1:one<n)(p0:0<=qe)(p1:qe<n)(few:ts.length<64)(S:SetsIs n rs m ts)
  (hn:∀s11 s12 s13,E.nx [.un,.val .box,.val (.int n),.val (.lst true (rs.map runD)),s4,s5,.val (.int m),.val (.lst true (ts.map stD)),.val (.int one),.val (.lst true (rs.map runD)),.val (.int qe),s11,s12,s13]) :
  k14b E [.un,.val .box,.val (.int n),.val (.lst true (rs.map runD)),s4,s5,.val (.int m),.val (.lst true (ts.map stD)),.val (.int one),.val (.lst true (rs.map runD)),.val (.int qe),s11,s12,s13]:=by
 refine⟨rfl,zaS (zjU true n ts one qe o0 o1 p0 p1 few λt ht=>⟨(S.ok t ht).1,(S.ok t ht).2.1⟩) λe V=>?_⟩;refine⟨rfl,zaS (zis true n rs m one qe F (by omega) o0 o1 p0 p1) λd T=>?_⟩;obtain⟨k1,k2,k3⟩:=zpF F hm T;refine⟨⟨zqZ F T,by show 12<14;decide⟩,?_⟩;refine⟨rfl,zaS (znR F hm o0 o1 p0 p1 S V T true) λb hb=>?_⟩;subst hb;refine⟨zmS _ _ _ _,?_⟩;rw[zoy];refine zaS k1 λd2 hd2=>⟨by rw[hd2];exact k2,?_⟩;subst hd2;refine⟨rfl,zaS (zis true n rs m one qe F (by omega) o0 o1 p0 p1) λd3 T3=>?_⟩;rw[T3.uniq T];refine⟨rfl,zaS (zen 12 d2 d2 rfl k3) λb hb=>?_⟩;subst hb;exact hn _ _ _
def zqp{mm mh:Int}{n:Nat}{rs:List Rn}{hts fs:List Int}(W:Wd mm mh 24 n rs hts fs)(h1:mm<=12)(h2:mh<=6):k14r {nx:=λ_=>False,rt:=λd=>d=.bl true,bk:=λ_=>False,ct:=λ_=>False} [.un,.val .box,.val (.int n),.val (.lst true (rs.map runD)),.val (.lst true (hts.map D.int)),.val (.lst true (fs.map D.int)),.un,.un,.un,.un,.un,.un,.un,.un]:=by
 have F:Few2 n rs:=W.few2 (by omega) (by decide);have n1:=W.s1;have n2:=F.n1;have hh:(zap rs).length<7:=by
  obtain⟨nm,h1,h2⟩:=W.names
  have:=L2.zaB (xs:=nm) (zb7 (zbl (rs.map Fen.Run.hand))) λk hk=>by
   obtain⟨r,hr,rfl⟩:=YAF.mp ((za6 _ _).mp hk);exact h2 r hr
  have:(zap rs).length<=nm.length:=this
  omega
 refine⟨rfl,zaJ (by decide) (by decide) λmk k0 k1=>?_⟩;obtain⟨m,rfl⟩:∃m:Nat,mk=(m:Int):=⟨mk.toNat,by omega⟩;refine⟨rfl,zaS (zg3 true n rs m F.toFew (by omega) hh) λd hd=>?_⟩;obtain⟨ts,rfl,S⟩:=hd;have few:ts.length<64:=by
  obtain⟨ms,pm,e⟩:=S.ex
  have:=congrArg List.length e
  rw[YAc]at this;have h3:=YB0 (λl=>hasH (zaL rs l)) ms;have h4:ms.length<64:=by rw[pm.length_eq];exact zhz (by omega) hh
  omega
 refine⟨rfl,zaJ (by omega) (by omega) λone o0 o1=>?_⟩;refine⟨⟨by omega,by omega⟩,?_⟩;refine zfQ (λd=>∃k:Int,d=.int k/\0<=k/\k<n) (λ_ Z=>∃s10 s11 s12 s13:Sl,Z=[.un,.val .box,.val (.int n),.val (.lst true (rs.map runD)),.val (.lst true (hts.map D.int)),.val (.lst true (fs.map D.int)),.val (.int m),.val (.lst true (ts.map stD)),.val (.int one),.val (.lst true (rs.map runD)),s10,s11,s12,s13]) ?_ ?_ _ _ (λd hd=>?_) ⟨.un,.un,.un,.un,rfl⟩
 .rintro _ rest Z E' ⟨k,rfl,k0,k1⟩ hn hc hr hb ⟨s10,s11,s12,s13,rfl⟩;exact zqk F (by omega) o0 o1 k0 k1 few S λs11 s12 s13=>hn _ ⟨_,_,_,_,rfl⟩
 .rintro Z ⟨s10,s11,s12,s13,rfl⟩;rfl
 .obtain⟨k,e,k0,k1⟩:=zoa hd;exact⟨k,e,by omega,by omega⟩
def zqz:lawW 12 zd6:=by
 unfold lawW zd6;have go:∀mm mh:Int,(mm=8\/mm=12)->(mh=6\/mh=3)->up zbH [.box,.int mm,.int mh,.int 24] λd=>gD (.tp 4 (.cons (.nm 2) (.cons (.nm 3) (.cons (.nm 4) (.cons (.nm 5) .nil))))) d [.un,.val .box,.un,.un,.un,.un,.un,.un,.un,.un,.un,.un,.un,.un] λZ=>k14r {nx:=λ_=>False,rt:=λd=>d=.bl true,bk:=λ_=>False,ct:=λ_=>False} Z:=λmm mh h1 h2=>by
  refine zaS (znc mm mh 24 (by omega) (by omega) (by omega) (by omega) (by omega) (by omega)) λd ⟨size,rs,hts,fs,hd,W⟩=>?_;subst hd;obtain⟨n,rfl⟩:∃n:Nat,size=(n:Int):=⟨size.toNat,by have:=W.s1;omega⟩;exact⟨rfl,zqp W (by omega) (by omega)⟩
 refine⟨by show 2<=100000;decide,rfl,zaJ (by decide) (by decide) λx x0 x1=>?_⟩;refine zaN (hs:=[8,12]) x0 x1 ⟨by show 2<=100000;decide,rfl,zaJ (by decide) (by decide) λy y0 y1=>?_⟩;refine zaN (hs:=[6,3]) y0 y1 ⟨rfl,go _ _ ?_ ?_⟩
 .rcases(by omega:x=0\/x=1)with rfl|rfl
  .exact .inl rfl
  .exact .inr rfl
 .rcases(by omega:y=0\/y=1)with rfl|rfl
  .exact .inl rfl
  .exact .inr rfl
end Fd
namespace Fen
open PySem L2
def top(i:Nat):Stmt:=PySem.Challenge.pw_fenlevel_k14_whole_sure_open_or_none_lef.main.body.getD i (.Pass ⟨0,0,0,0⟩)
abbrev zbT:Stmt:=top 1
abbrev zcM:Stmt:=top 2
abbrev zdC:Stmt:=top 3
abbrev zeC:Stmt:=top 5
abbrev zml:Stmt:=top 6
abbrev zd9:Stmt:=top 7
abbrev zdm:Stmt:=top 8
abbrev zjE:Stmt:=top 9
abbrev zec:Stmt:=top 11
abbrev zcL:Stmt:=top 12
abbrev zem:Stmt:=top 13
abbrev zcD:Stmt:=top 15
abbrev zcb:Stmt:=top 16
abbrev zeI:Stmt:=top 17
abbrev zch:Stmt:=top 18
abbrev zbL:Stmt:=top 20
abbrev zcA:Stmt:=top 21
abbrev zcC:Stmt:=top 22
abbrev zfY:Stmt:=top 24
abbrev za5:Stmt:=top 25
abbrev zb5:Stmt:=top 26
abbrev zmO:Stmt:=top 27
abbrev sBox:Stmt:=top 29
abbrev zjH:Stmt:=top 30
abbrev zh7:Stmt:=top 31
abbrev zmN:Stmt:=top 32
abbrev zdZ:Stmt:=top 33
abbrev zi0:Stmt:=top 34
abbrev zi3:Stmt:=top 35
abbrev zno:Stmt:=top 36
abbrev zeB:Stmt:=top 37
abbrev zjp:Stmt:=top 38
abbrev zic:Stmt:=top 39
abbrev zm2:Stmt:=top 40
abbrev zez:Stmt:=top 41
abbrev zmA:Stmt:=top 42
abbrev zfA:Stmt:=top 43
abbrev zh6:Stmt:=top 44
abbrev ziN:Stmt:=top 45
abbrev zdt:Stmt:=top 46
abbrev zcK:Stmt:=top 47
abbrev zmF:Stmt:=top 48
abbrev sLaw:Stmt:=top 49
section
variable{P:Program}{w:PySem.World}{K:qq}{mg:Str->Option Value}{base:Heap}
def zsh:FnScope ["_law_script"] ["_law_script"] (zat sBox):=⟨rfl,rfl,rfl,by decide +kernel,rfl,by decide +kernel,by decide +kernel⟩
def zrN{f:Addr}{fd:FuncData}(F:Fun K "_law_box" "_law_box" sBox f fd)(T:Txt K mg):FnOk P w K mg base CX0 1 f fd ["_law_script"] (zqE K):=by
 refine F.ok zsh (λvs H Q E h=>?_) (λcdv A outer s H vs Q E hr h=>?_)
 .obtain⟨a,ns,rfl,_⟩:=h;rfl
 .obtain⟨a,ns,rfl,hS,hl,k⟩:=h;refine⟨_,zaD (zbO (zd1 (zah (zcE ze7 rfl T.list YCm (zah (zfs sl_list (pv 0) zhI (zg6 zaO)) zav)) (zah zaO (zah zaO (zah zaO zav)))))),?_⟩;refine⟨_,rfl,_,rfl,a,_,rfl,hS,λp hp=>?_⟩;rw[zsL hl];refine⟨p,_,rfl,.inl (SqL.of zac),λc hc=>⟨by show 4<=sizeLine;decide,λb hb=>?_⟩⟩;have hcp:c≠p:=λz=>by rw[z,zac]at hc;cases hc
  have hbc:b≠c:=λz=>by rw[z,zac]at hb;cases hb
  have hb1:upd H p (.lst (ns.map V.int)) b=none:=by rw[zaf hbc]at hb;exact hb
  have hbp:b≠p:=λz=>by rw[z,zac]at hb1;cases hb1
  have hc0:H c=none:=by rw[zaf hcp]at hc;exact hc
  have hb0:H b=none:=by rw[zaf hbp]at hb1;exact hb1
  refine k b c _ hb0 ⟨⟨0,0,17,zac,by decide,by decide,by decide,by decide⟩,by rw[zaf hbc.symm,zac],hl⟩ λx o e=>?_;rw[zaf (zae e hb0),zaf (zae e hc0),zaf (zae e hp)];exact e
def scTake:FnScope ["_law_box_here","_law_many","_law_rest","_law_cell","_law_seed"] ["_law_box_here","_law_many"] (zat zjH):=⟨rfl,rfl,rfl,by decide +kernel,rfl,by decide +kernel,by decide +kernel⟩
def zjD{f:Addr}{fd:FuncData}(F:Fun K "_law_take" "_law_take" zjH f fd)(T:Txt K mg):FnOk P w K mg base CX0 1 f fd ["_law_box_here","_law_many"] zqW:=by
 refine F.ok scTake (λvs H Q E h=>?_) (λcdv A outer s H vs Q E hr h=>?_)
 .obtain⟨b,c,ns,m,rfl,_⟩:=h;rfl
 .obtain⟨b,c,ns,m,rfl,B,m0,m1,k⟩:=h;refine⟨_,zam (zeM (zcx zqb (zcW ix_list (pv 0) zaO (λ_ _=>rfl)) zaO (zcj _))
    (zam (zbu (i:=2) scTake.nd rfl (Or.inl rfl) (zcW ix_list (pv 0) zaO (λ_ _=>rfl)))
    (zam (zdE (zb8 zkn (pv 2) (pv 1)) (zi1 (pv 0) zaO zcU))
    (zaD (zbO (zb8 zgY (pv 2) (pv 1)))))) zbR)
   (zam (zbu (i:=3) scTake.nd rfl (Or.inl rfl) zaO)
   (zam (zeM (zcx znY (zcW ix_list (pv 0) zaO (λ_ _=>rfl)) (zbA zcq rfl T.len YCI (zah (zcW ix_list (pv 0) zaO (λ_ _=>rfl)) zav)) (zcj _))
    (zam (zbu (i:=3) scTake.nd rfl (Or.inl rfl) (zcW ix_list (zcW ix_list (pv 0) zaO (λ_ _=>rfl)) (zcW ix_list (pv 0) zaO (λ_ _=>rfl)) (λ_ _=>rfl)))
    (zaD (znm (pv 0) zaO zkW zaO znn zcU))) zbR)
   (zam (zeM (zcx zsN (pv 3) (zb8 znv zaO zaO) (zcj _))
    (zam (zdE (zb8 zkn (pv 3) (pv 1)) (zi1 (pv 0) zaO zcU))
    (zaD (zbO (zb8 zgY (pv 3) (pv 1))))) zbR)
   (zam (zbu (i:=4) scTake.nd rfl (Or.inl rfl) (zcW ix_list (pv 0) zaO (λ_ _=>rfl)))
   (zam (zbu (i:=4) scTake.nd rfl (Or.inl rfl) (zb8 op_add (zb8 op_add (zb8 znv (pv 4) zaO) (zb8 op_mul zaO (pv 4))) (zb8 op_mul zaO (zb8 zgY (pv 3) zaO))))
   (zam (zdE (zb8 zgY (zb8 op_add (pv 4) zaO) zaO) (zi1 (pv 0) zaO zcU))
   (zaD (zbO (zb8 zgY (zb8 zqw (zcW ix_list (pv 0) zaO (λ_ _=>rfl)) zaO) (pv 1)))))))))),?_⟩
  obtain⟨p,r,d,e,hp0,hr0,hd0,hd1⟩:=B.ex;refine⟨_,rfl,b,_,_,.int r,rfl,rfl,SqL.of e,rfl,_,_,rfl,rfl,_,rfl,?_⟩;refine ite2 (λh0=>?_) (λh0=>?_)
  .refine⟨_,rfl,b,_,_,.int r,rfl,rfl,SqL.of e,rfl,?_⟩;refine⟨_,rfl,_,rfl,_,_,rfl,rfl,⟨m0,m1⟩,_,rfl,b,_,_,2,rfl,rfl,e,rfl,?_⟩;refine⟨_,rfl,_,rfl,_,_,rfl,rfl,m0,?_⟩;exact k _ _ (YBQ _ (by omega)) (YBy _ m0) (B.put hp0 (YDP hr0 (by omega)) hd0 hd1) Ext.upd
  refine⟨_,rfl,b,_,_,.int p,rfl,rfl,SqL.of e,rfl,_,rfl,b,_,_,.ref c,rfl,rfl,SqL.of e,rfl,c,_,rfl,.inl (SqL.of B.cells),_,_,rfl,rfl,_,rfl,?_⟩;refine ite2 (λh1=>?_) (λh1=>?_)
  .have hlt:=YA3 h1;rw[YAc]at hlt;obtain⟨z,hz⟩:∃z,ns[p.toNat]?=some z:=⟨_,YAe (by omega)⟩;have hat:atI (ns.map V.int) p=some (.int z):=by
    have q:=zdO (xs:=ns.map V.int) (j:=p.toNat) (v:=.int z) (by rw[YAq,hz];rfl)
    rwa[YBk hp0]at q
   refine⟨_,rfl,b,_,_,.ref c,rfl,rfl,SqL.of e,rfl,_,rfl,b,_,_,.int p,rfl,rfl,SqL.of e,rfl,c,_,_,.int z,rfl,rfl,SqL.of B.cells,hat,?_⟩;refine⟨_,rfl,b,_,1,.int p,rfl,rfl,SqL.of e,rfl,_,_,rfl,rfl,b,_,_,1,rfl,rfl,e,rfl,?_⟩;have e1:upd H b (boxV c (p+1) r d) b=some (boxV c (p+1) r d):=zac;have hp1:0<=p+1:=by omega
   have B1:=B.put hp1 hr0 hd0 hd1;have X1:Ext b H (upd H b (boxV c (p+1) r d)):=Ext.upd;refine⟨_,rfl,_,_,rfl,rfl,⟨by decide,by decide,by decide⟩,_,_,rfl,rfl,_,rfl,?_⟩;refine ite2 (λh2=>?_) (λh2=>?_)
   .refine⟨_,rfl,_,rfl,_,_,rfl,rfl,⟨m0,m1⟩,_,rfl,b,_,_,2,rfl,rfl,e1,rfl,_,rfl,_,rfl,_,_,rfl,rfl,m0,?_⟩;have hz0:(0:Int)<=z:=by
     have:=YA3 h2
     exact Int.le_trans (by decide) this
    exact k _ _ (YBQ _ (by omega)) (YBy _ m0) (B1.put hp1 (YDP hz0 (by omega)) hd0 hd1) (X1.trans Ext.upd)
   .refine⟨_,rfl,b,_,_,.int d,rfl,rfl,SqL.of e1,rfl,?_⟩;refine⟨_,rfl,_,_,rfl,rfl,⟨by decide,by decide,by omega⟩,_,rfl,_,_,rfl,rfl,.inl ⟨by decide,by decide⟩,_,_,rfl,rfl,_,rfl,_,_,rfl,rfl,(by show(0:Int)<2147483629;decide),_,_,rfl,rfl,.inl ⟨by decide,by decide⟩,_,_,rfl,rfl,?_⟩;refine⟨_,rfl,_,_,rfl,rfl,_,_,rfl,rfl,(by show(0:Int)<2147483629;decide),_,rfl,b,_,_,3,rfl,rfl,e1,rfl,?_⟩;refine⟨_,rfl,b,_,_,_,rfl,rfl,SqL.of zac,rfl,_,_,rfl,rfl,⟨by decide,by decide⟩,_,rfl,_,_,rfl,rfl,m0,?_⟩;exact k _ _ (YBQ _ (by omega)) (YBy _ m0) (B1.put hp1 hr0 (YBQ _ (by decide)) (YBy _ (by decide))) (X1.trans Ext.upd)
  .have e1:=e;have hp1:=hp0;have B1:=B;have X1:Ext b H H:=Ext.refl _ _;refine⟨_,rfl,_,_,rfl,rfl,⟨by decide,by decide,by decide⟩,_,_,rfl,rfl,_,rfl,?_⟩;refine ite2 (λh2=>?_) (λh2=>?_)
   .refine⟨_,rfl,_,rfl,_,_,rfl,rfl,⟨m0,m1⟩,_,rfl,b,_,_,2,rfl,rfl,e1,rfl,_,rfl,_,rfl,_,_,rfl,rfl,m0,?_⟩;have hz0:(0:Int)<=0:=Int.le_refl _;exact k _ _ (YBQ _ (by omega)) (YBy _ m0) (B1.put hp1 (YDP hz0 (by omega)) hd0 hd1) (X1.trans Ext.upd)
   .refine⟨_,rfl,b,_,_,.int d,rfl,rfl,SqL.of e1,rfl,?_⟩;refine⟨_,rfl,_,_,rfl,rfl,⟨by decide,by decide,by omega⟩,_,rfl,_,_,rfl,rfl,.inl ⟨by decide,by decide⟩,_,_,rfl,rfl,_,rfl,_,_,rfl,rfl,(by show(0:Int)<2147483629;decide),_,_,rfl,rfl,.inl ⟨by decide,by decide⟩,_,_,rfl,rfl,?_⟩;refine⟨_,rfl,_,_,rfl,rfl,_,_,rfl,rfl,(by show(0:Int)<2147483629;decide),_,rfl,b,_,_,3,rfl,rfl,e1,rfl,?_⟩;refine⟨_,rfl,b,_,_,_,rfl,rfl,SqL.of zac,rfl,_,_,rfl,rfl,⟨by decide,by decide⟩,_,rfl,_,_,rfl,rfl,m0,?_⟩;exact k _ _ (YBQ _ (by omega)) (YBy _ m0) (B1.put hp1 hr0 (YBQ _ (by decide)) (YBy _ (by decide))) (X1.trans Ext.upd)
end
end Fen
namespace Fd
open PySem L2
section
variable{P:Program}{w:World}{K:qq}{mg:Str->Option Value}{base:Heap}
theorem zjD{f:Addr}{fd:FuncData}(F:Fun K "_law_take" "_law_take" Fen.zjH f fd)(T:Bt mg):FnOk P w K mg base CX0 1 f fd ["_law_box_here","_law_many"] (spD K 2 zak):=by
 refine(Fen.zjD F ⟨T.list,T.len,T.range⟩).imp λvs H Q E ⟨β,G,ds,gh,bx,hv,hl,P',q,hP⟩=>?_;unfold zak at q;split at q
 .rename_i m
  obtain⟨v1,v2,rfl,e1,e2⟩:=zpW hv;cases e1;cases e2;obtain⟨cc,p,r,d,ns,hb,p0,r0,d0,d1,hc,hn⟩:=bx.ex;refine⟨β,cc,ns,m,rfl,⟨⟨p,r,d,hb,p0,r0,d0,d1⟩,gh _ _ hc,hn⟩,q.1.1,q.1.2,λx H' x0 x1 B X=>?_⟩;refine hP _ (q.2 x x0 x1) _ H' G ⟨Same.refl _,λa o e=>?_,λa o n e=>X a o n e,λa e=>.inl e,⟨?_,bx.still⟩,λz=>by(rw[hb]at z;cases z),λcc2 p2 r2 d2 h2=>by
   rw[hb]at h2;cases h2;obtain⟨p',r',d',e',_⟩:=B.ex;exact⟨p',r',d',e'⟩⟩ rfl
  .have na:a≠β:=λz=>by rw[z,bx.still]at e;cases e
   exact X a o na (gh a o e)
  .obtain⟨p',r',d',e',q'⟩:=B.ex;exact⟨cc,p',r',d',ns,e',q'.1,q'.2.1,q'.2.2.1,q'.2.2.2,hc,hn⟩
 .exact q.elim
def zmT(K:qq):Sp:=λvs H Q _=>∃(a:Addr)(ns:List Int),vs=[.ref a]/\SqL K H a (ns.map V.int)/\ns.length<=63/\∀H',Q (.bl true) H'
def zq5{f:Addr}{fd:FuncData}{st:Stmt}{rest:List Stmt}{N:List Str}{n k:Nat}{B:WS}{p1 p2 p3 p4 p5:Pos}(F:Fun K "law" "law" st f fd)
  (hbd:zcg st=.Assign [.Name "_law_box_here" p1] (.Call (.Name "_law_box" p2) [.Name "_law_script" p3] [] p4) p5::rest)
  (cB:Cal P w K mg base "_law_box" 1 ["_law_script"] (Fen.zqE K))
  (hB:∀{cdv:Value}{A:Around}{outer:List PySem.Env}{s:Shared}{H:Hp}{E:XK}{β:Addr}{H1 G1:Hp},(("_law_script"::"_law_box_here"::N:List Str)).Nodup->Room k (A.deeper (PyProof.Rows.envOfC "law" (zat st) s.heap.objs.size f cdv)) ->
   DSs (cxOf CX0 P w K mg base ("_law_script"::"_law_box_here"::N) "law" (zat st) f cdv A outer s H E).nox ⟨K,β,H1,G1⟩ rest B)
  (h:lawW n B) (hN:N.length=n:=by rfl) (S:FnScope ("_law_script"::"_law_box_here"::N) ["_law_script"] (zat st):=by exact⟨rfl,rfl,rfl,by decide +kernel,rfl,by decide +kernel,by decide +kernel⟩)
  (hgl:(zat st).names.lookup ("_law_box":Str)=some .globalImplicit:=by decide +kernel) (hs0:(zat st).names.lookup ("_law_script":Str)=some .local:=by decide +kernel) (hs1:(zat st).names.lookup ("_law_box_here":Str)=some .local\/(zat st).names.lookup ("_law_box_here":Str)=some .cell:=by decide +kernel) (hk:1<=k:=by decide):FnOk P w K mg base CX0 (k+1) f fd ["_law_script"] (zmT K):=by
 refine F.ok S (λvs H Q E ⟨a,ns,e,_⟩=>by rw[e];rfl) (λcdv A outer s H vs Q E hr ⟨a,ns,e,hS,hl,q⟩=>?_);subst e;have hrest:PSs (cxOf CX0 P w K mg base ("_law_script"::"_law_box_here"::N) "law" (zat st) f cdv A outer s H E).nox rest (λD Y H'=>∃ β H1 G1,tDS ⟨K,β,H1,G1⟩ B D Y H'):=λO s' Y H' D I ⟨β,H1,G1,z⟩=>(@hB cdv A outer s H E β H1 G1 S.nd hr).pss O s' Y H' D I z;rw[hbd];obtain⟨fB,fdB,FB,mB,kB,bB⟩:=cB.ex;refine⟨_,zam (zbu (i:=1) S.nd rfl hs1 (zfD FB (hr.mono hk) hgl mB kB bB .nil zl9 (zah (zdK (i:=0) rfl (.inl hs0)) zav)) rfl (.inl rfl)) hrest,?_⟩;refine⟨.ref a,rfl,a,ns,rfl,hS,hl,λb cc H1 hb Bx Sm=>?_⟩;obtain⟨p,r,d,e,p0,r0,d0,d1⟩:=Bx.ex;have hcc:=Bx.cells;have nb:b≠cc:=Bx.ne
 let G1:Hp:=λx=>if x=cc then some (.lst (ns.map V.int))else none
 have gcc:G1 cc=some (.lst (ns.map V.int)):=by show(if cc=cc then _ else _)=_;rw[if_pos rfl]
 have gb:G1 b=none:=by show(if b=cc then _ else _)=_;rw[if_neg nb]
 have gh:Same G1 H1:=λx o ex=>by
  have ex':(if x=cc then some (HO.lst (ns.map V.int))else none)=some o:=ex;split at ex'
  .rename_i z;rw[z,hcc];exact ex'
  .cases ex'
 have bx:BoxD b H1 G1:=⟨⟨cc,p,r,d,ns,e,p0,r0,d0,d1,gcc,Bx.few⟩,gb⟩;refine⟨b,H1,G1,.un::.val .box::List.replicate n .un,G1,⟨?_,Stp.refl gh bx,λi sl ei=>?_,λi j x xs ys ei=>?_⟩,(@hB cdv A outer s H E b H1 G1 S.nd hr).mono {nx:=λ_=>False,rt:=λd=>d=.bl true,bk:=λ_=>False,ct:=λ_=>False} _ _ ⟨λZ z=>z.elim,λd z v H' G' t ev=>?_,λZ z=>z.elim,λZ z=>z.elim⟩ h⟩
 .simp[L2.start,hN]
 .match i with
  |0=>cases ei;trivial
  |1=>cases ei;exact⟨.ref b,rfl,rfl⟩
  |i+2=>
   rw[YCg,YCg,YBL]at ei;split at ei<;>cases ei
   trivial
 .match i with
  |0=>cases ei
  |1=>cases ei
  |i+2=>
   rw[YCg,YCg,YBL]at ei;split at ei<;>cases ei
 .subst z;cases ev;exact q H'
end
end Fd
namespace Fen
open PySem L2
section
variable{P:Program}{w:PySem.World}{K:qq}{mg:Str->Option Value}{base:Heap}
def zqo:FnScope ["runs","heights"] ["runs","heights"] (zat zd9):=⟨rfl,rfl,rfl,by decide +kernel,rfl,by decide +kernel,by decide +kernel⟩
def zhO{f:Addr}{fd:FuncData}(F:Fun K "holds" "holds" zd9 f fd)(T2:Txt2 mg):FnOk P w K mg base CX0 1 f fd ["runs","heights"] (zjx K):=by
 refine F.ok zqo (λvs H Q E h=>?_) (λcdv A outer s H vs Q E hr h=>?_)
 .obtain⟨a,b,rs,hs,rfl,_⟩:=h;rfl
 .obtain⟨a,b,rs,hts,rfl,ha,R,hb,V0,hz,k⟩:=h;refine⟨_,zaD (zbO (zbA (zij rfl) rfl T2.all PyProof.Rows.boot_all (zah (zhR (g:=gTup K 4 (zfh (zc9 0) (zfh (zc9 1) (zfh (zc9 2) (zfh (zc9 3) gNil))))) rfl
   (CompScope.of (N:=["runs","heights"]) (osc:=zat zd9) (Nc:=["one","other","rise","hand","heights"]) (sub:=[none,none,none,none,some 1]) (by decide +kernel)) (zeR (pv 0))
   (λ_ _ _ _ _=>zcO (n:=4) rfl (zad (zaz (i:=0) zhp rfl (Or.inl rfl) (Or.inr rfl)) (zad (zaz (i:=1) zhp rfl (Or.inl rfl) (Or.inr rfl)) (zad (zaz (i:=2) zhp rfl (Or.inl rfl) (Or.inr rfl)) (zad (zaz (i:=3) zhp rfl (Or.inl rfl) (Or.inr rfl)) zaI)))))
   (zqP (zee (zdM rfl) zbr (zee (zdM rfl) zbr (zee (zdM rfl) zbr (zee (zdM rfl) zbr zl1 zeP) (zbM zbr zeP)) (zbM zbr (zbM zbr zeP))) (zbM zbr (zbM zbr (zbM zbr zeP)))))
   (zq1 (zbM zbr (zbM zbr (zbM zbr (zbM zbr zeP)))))
   (λ_ _ _ _ _=>pif0) (λ_ _ _ _ _=>zmz zpz (zb8 zm8 (zcW (r:=rIxL K) ix_list (pv 4) (pv 1) (λ_ _=>rfl)) (zcW (r:=rIxL K) ix_list (pv 4) (pv 0) (λ_ _=>rfl))) (pv 2) (zcj _))) zav))),?_⟩
  refine⟨_,rfl,a,rfl,⟨_,ha⟩,λl hl=>?_⟩;refine zlk ha R hb V0 hz hl ?_;exact⟨l,_,rfl,SqL.of zac,k l _ hl⟩
def scSteps:FnScope Nst ["size","runs","struck"] (zat zbT):=⟨rfl,rfl,rfl,by decide +kernel,rfl,by decide +kernel,by decide +kernel⟩
def zoF{f:Addr}{fd:FuncData}(F:Fun K "steps_from" "steps_from" zbT f fd)(T:Txt K mg)(T4:mg "enumerate"=none):FnOk P w K mg base CX0 1 f fd ["size","runs","struck"] (zhG K):=by
 refine F.ok scSteps (λvs H Q E h=>?_) (λcdv A outer s0 H vs Q E hr h=>?_)
 .obtain⟨n,a,s,rs,hs,rfl,_⟩:=h;rfl
 .obtain⟨n,a,s,rs,hs,rfl,ha,R,VM,hsq,hn,hz,k⟩:=h;have nd:=scSteps.nd;refine⟨_,zam (zlR (i:=3) rfl nd rfl rfl (CompScope.of (N:=Nst) (osc:=zat zbT) (Nc:=["mark"]) (sub:=[none]) (by decide +kernel)) (zfP rfl T.range (zah (pv 0) zav))
    (λ_ _ _ _ _=>zaz (i:=0) zqm rfl (Or.inl rfl) (Or.inr rfl)) (zdM rfl) zbr (λ_ _ _ _ _=>pif0) (λ_ _ _ _ _=>zd1 zav))
   (zam (zey YBn rfl (zny rfl T4 (zah (pv 1) zav)) (zcO (n:=2) rfl (zad (zaz (i:=4) nd rfl (Or.inl rfl)) (zad (zcO (n:=4) rfl (zad (zaz (i:=5) nd rfl (Or.inl rfl)) (zad (zaz (i:=6) nd rfl (Or.inl rfl)) (zad (zaz (i:=7) nd rfl (Or.inl rfl)) (zad (zaz (i:=8) nd rfl (Or.inl rfl)) zaI))))) zaI)))
    (zaD (zeM (zcx ze3 (pv 8) (pv 2) (by with_unfolding_all rfl))
     (zam (zdc (zln YBx YBr YBs zb2 (zcW ix_list (pv 3) (pv 5) (λ_ _=>rfl)) (zah (zd5 (zah (pv 4) (zah (pv 6) (zah (pv 7) zav)))) zav)))
     (zaD (zdc (zln YBx YBr YBs zb2 (zcW ix_list (pv 3) (pv 6) (λ_ _=>rfl)) (zah (zd5 (zah (pv 4) (zah (pv 5) (zah (zp9 zlK (pv 7)) zav)))) zav))))) zbR)))
   (zaD (zbO (pv 3)))),?_⟩
  refine⟨_,rfl,n,rfl,by omega,by omega,λls hls=>?_⟩;refine zll (Pv:=λi xs H2=>∃ad:List Addr,xs=ad.map V.ref/\ad.length=i/\H2 ls=some (.lst xs)/\Same H H2/\(∀x∈ad,H2 x=some (.lst []))/\ad.Nodup/\ls∉ad/\∀x∈ad,H x=none)
   ⟨[],rfl,rfl,zac,zan hls,(λx h=>by cases h),YCJ,(by simp),(λx h=>by cases h)⟩ (λi xs H2 _ ⟨ad,_,_,h,_⟩=>h) ?_ ?_
  .rintro i xs H2 hi ⟨ad,rfl,hal,h2,S2,hal2,hnd,hno,hfr⟩;refine zqO ?_;refine⟨by show 0<=sizeLine;exact YAH _,λl hl=>⟨zan hl _ _ h2,?_,ad++[l],by rw[YAx];rfl,by rw[YAo,hal];rfl,zac,λc o e=>?_,λx hx=>?_,?_,?_,λx hx=>?_⟩⟩
   .rw[YAc,YAP];omega
   .rw[zaf (zae e hls)];exact zan hl _ _ (S2 c o e)
   .have nls:ls≠l:=zae h2 hl;rcases YAm.mp hx with q|q
    .have:=hal2 x q
     have nx:x≠ls:=λz=>hno (z▸q);rw[zaf nx,zaf (zae this hl)];exact this
    .rw[YAg.mp q,zaf nls.symm,zac]
   .exact zhl hnd λq=>by have:=hal2 l q;rw[hl]at this;cases this
   .intro q;rcases YAm.mp q with q|q
    .exact hno q
    .exact zae h2 hl (YAg.mp q)
   .rcases YAm.mp hx with q|q
    .exact hfr x q
    .rw[YAg.mp q];exact S2.free hl
  rintro xs H2 ⟨ad,rfl,hal,h2,S2,hal2,hnd,hno,hfr⟩;rw[YAD]at hal;have St0:Steps H2 ls ad λ_=>[]:=⟨h2,λm x h=>hal2 x (YAz h),(λm t _ h=>by cases h),hnd,hno⟩;have Ok0:StepsOk rs hs 0 λ_=>[]:=⟨(λm t h=>by cases h),(λi r h=>absurd h (Nat.not_lt_zero _)),(λm=>YAH _),(λm=>rfl)⟩;refine⟨_,rfl,a,_,rfl,S2.seq ha,zk1 (K:=K) (a:=a) (xs:=rs.map runV) (λi Y H3=>∃(cs:Nat->List Tri)(o4 o5 o6 o7 o8:Option V),Y=[some (.int n),some (.ref a),some (.ref s),some (.ref ls),o4,o5,o6,o7,o8]/\Same H H3/\Steps H3 ls ad cs/\StepsOk rs hs i cs)
   ⟨_,_,_,_,_,_,rfl,S2,St0,Ok0⟩ (λi Y H3 _ ⟨_,_,_,_,_,_,_,S,_⟩=>S.seq ha) ?_ ?_⟩
  .rintro i x t Y H3 hx ht ⟨cs,o4,o5,o6,o7,o8,rfl,S3,St,Ok⟩;obtain⟨r,hr,rfl,hrt⟩:=R.at_ hx;have V0:=VM r (YAz hr);have hil:i<rs.length:=(YAi.mp hr).1;have S4:=S3.trans (zan (o:=.tup [.int i,.ref r.p]) ht);have St4:=St.same (zan (o:=.tup [.int i,.ref r.p]) ht);refine⟨t,_,rfl,SqT.of zac,rfl,_,_,rfl,_,_,rfl,r.p,_,rfl,zkL S4 hrt,rfl,_,_,rfl,_,_,rfl,_,_,rfl,_,_,rfl,rfl,rfl,?_⟩;generalize upd H3 t (.tup [.int i,.ref r.p])=H4 at *;refine⟨_,rfl,_,rfl,s,_,rfl,.inl (S4.seq hsq),rfl,ziY hs,_,rfl,?_⟩;rw[if_pos rfl,zkr];cases hc:hs.contains r.hand with
   |true=>
    refine iteF ⟨cs,_,_,_,_,_,rfl,S4,St4,Ok.up hr hc⟩
   |false=>
    refine iteT ?_;obtain⟨l1,e1⟩:∃l1,ad[r.one.toNat]?=some l1:=⟨_,YAe (by omega)⟩;obtain⟨l2,e2⟩:∃l2,ad[r.qe.toNat]?=some l2:=⟨_,YAe (by omega)⟩;have at1:atI (ad.map V.ref) r.one=some (.ref l1):=by
     have q:=zdO (xs:=ad.map V.ref) (j:=r.one.toNat) (v:=.ref l1) (by rw[YAq,e1];rfl)
     rwa[YBk V0.1]at q
    have at2:atI (ad.map V.ref) r.qe=some (.ref l2):=by
     have q:=zdO (xs:=ad.map V.ref) (j:=r.qe.toNat) (v:=.ref l2) (by rw[YAq,e2];rfl)
     rwa[YBk V0.2.2.1]at q
    have hl1:=St4.row _ _ e1;refine⟨_,rfl,_,rfl,ls,_,_,_,rfl,rfl,SqL.of St4.top,at1,.inl ⟨rfl,_,SqL.of hl1⟩,_,rfl,_,rfl,_,rfl,by show 3<=sizeLine;decide,λt1 ht1=>?_⟩;have few:=Ok.few r.one.toNat;refine⟨l1,_,_,rfl,rfl,zan ht1 _ _ hl1,by rw[YAc,YAP];omega,?_⟩;have St5:=St4.push e1 ht1 (n:=i) (e:=r.qe) (d:=r.rise);have hl1H:H l1=none:=hfr l1 (YAz e1);have hl2H:H l2=none:=hfr l2 (YAz e2);have S5:Same H (upd (upd H4 t1 (.tup [.int i,.int r.qe,.int r.rise])) l1 (.lst ((cs r.one.toNat).map triV++[.ref t1]))):=λc o e=>by rw[zaf (zae e hl1H)];exact zan ht1 _ _ (S4 c o e)
    generalize upd (upd H4 t1 (.tup [.int i,.int r.qe,.int r.rise])) l1 (.lst ((cs r.one.toNat).map triV++[.ref t1]))=H5 at *;have hl2:=St5.row _ _ e2;refine⟨_,rfl,_,rfl,ls,_,_,_,rfl,rfl,SqL.of St5.top,at2,.inl ⟨rfl,_,SqL.of hl2⟩,_,rfl,_,rfl,_,rfl,_,rfl,by show 3<=sizeLine;decide,λt2 ht2=>?_⟩;have few2:(addC cs r.one.toNat ⟨t1,i,r.qe,r.rise⟩ r.qe.toNat).length<=2*i+1:=by
     have:=Ok.few r.qe.toNat
     unfold addC;split
     .rename_i q;rw[<-q,YAo];simp;omega
     .omega
    refine⟨l2,_,_,rfl,rfl,zan ht2 _ _ hl2,by rw[YAc,YAP];omega,?_⟩;have St6:=St5.push e2 ht2 (n:=i) (e:=r.one) (d:=-r.rise);refine⟨_,_,_,_,_,_,rfl,λc o e=>?_,St6,Ok.add hr hc V0.1 V0.2.2.1⟩;rw[zaf (zae e hl2H)];exact zan ht2 _ _ (S5 c o e)
  .rintro Y H3 ⟨cs,o4,o5,o6,o7,o8,rfl,S3,St,Ok⟩;rw[YAc]at Ok;exact⟨_,rfl,k ls ad cs H3 S3 hal St Ok hfr hls⟩
def scTree:FnScope Ntr ["start","steps"] (zat zcM):=⟨rfl,rfl,rfl,by decide +kernel,rfl,by decide +kernel,by decide +kernel⟩
def zqc{f:Addr}{fd:FuncData}(F:Fun K "tree_from" "tree_from" zcM f fd):FnOk P w K mg base CX0 1 f fd ["start","steps"] (zkA K):=by
 refine F.ok scTree (λvs H Q E h=>?_) (λcdv A outer s0 H vs Q E hr h=>?_)
 .obtain⟨start,ls,n,ad,cs,rs,hs,rfl,_⟩:=h;rfl
 .obtain⟨start,ls,n,ad,cs,rs,hs,rfl,st0,st1,St,hal,So,VM,hn,hz,k⟩:=h;have nd:=scTree.nd;have hu:=zoO hr;refine⟨_,zam (zbu (i:=2) nd rfl (Or.inl rfl) (zpL (znT (pv 0) (zd5 (zah zaO (zah (zd5 zav) zav))) zqH) rfl rfl (by simp) (by decide)))
   (zam (zbu (i:=3) nd rfl (Or.inl rfl) (zd1 (zah (pv 0) zav)))
   (zam (zj9 YBn (zko (pv 3) (λ_=>rfl))
    (zam (zbu (i:=4) nd rfl (Or.inl rfl) (zd1 zav))
    (zam (zey YBn rfl (zeR (pv 3)) (zaz (i:=5) nd rfl (Or.inl rfl))
     (zam (zdE (zhs hu (pv 2) (pv 5) (λ_ _=>rfl)) (zcO (n:=2) rfl (zad (zaz (i:=6) nd rfl (Or.inl rfl)) (zad (zaz (i:=7) nd rfl (Or.inl rfl)) zaI))))
     (zaD (zey YBn rfl (zeR (zcW ix_list (pv 1) (pv 5) (λ_ _=>rfl))) (zcO (n:=3) rfl (zad (zaz (i:=8) nd rfl (Or.inl rfl)) (zad (zaz (i:=9) nd rfl (Or.inl rfl)) (zad (zaz (i:=10) nd rfl (Or.inl rfl)) zaI))))
      (zaD (zeM (zik (zf6 hu (pv 9) (pv 2)))
       (zam (zqa hu (pv 2) (pv 9) (zd5 (zah (zb8 op_add (pv 6) (pv 10)) (zah (zb8 zjW (pv 7) (zd5 (zah (pv 8) zav))) zav))) rfl)
       (zaD (zdc (zln YBx YBr YBs zb2 (pv 4) (zah (pv 9) zav))))) zbR))))))
    (zaD (zbu (i:=3) nd rfl (Or.inl rfl) (pv 4))))))
   (zaD (zbO (pv 2))))),?_⟩
  intro dt hdt;refine⟨_,rfl,by show 0<=sizeLine;exact YAH _,λl0 hl0=>⟨by show 2<=sizeLine;decide,λt0 ht0=>?_⟩⟩;have hdt1:upd H dt (.dK []) dt=some (.dK []):=zac;have hdt2:=zan (o:=.tup [.int 0,.ref l0]) ht0 _ _ (zan (o:=.tup []) hl0 _ _ hdt1);refine⟨hdt2,[(Sum.inl start,.ref t0)],rfl,by show 1<=15;decide,?_⟩;have SA:Same H (upd (upd (upd H dt (.dK [])) l0 (.tup [])) t0 (.tup [.int 0,.ref l0])):=((zan hdt).trans (zan hl0)).trans (zan ht0);have SB:Same H (upd (upd (upd (upd H dt (.dK [])) l0 (.tup [])) t0 (.tup [.int 0,.ref l0])) dt (.dK (mergeK [] [(Sum.inl start,.ref t0)]))):=λc o e=>by rw[zaf (zae e hdt)];exact SA c o e
  have hl01:upd (upd (upd H dt (.dK [])) l0 (.tup [])) t0 (.tup [.int 0,.ref l0]) l0=some (.tup []):=zan (o:=.tup [.int 0,.ref l0]) ht0 _ _ zac;have TH0:TreeH K (upd (upd (upd (upd H dt (.dK [])) l0 (.tup [])) t0 (.tup [.int 0,.ref l0])) dt (.dK (mergeK [] [(Sum.inl start,.ref t0)]))) dt [⟨start,t0,0,l0,[]⟩]:=by
   refine⟨zac,λx hx=>?_⟩;rw[YAg.mp hx];exact⟨zeV zac hdt2 trivial,zeF (SqT.of hl01) hdt2 trivial⟩
  generalize (upd (upd (upd (upd H dt (.dK [])) l0 (.tup [])) t0 (.tup [.int 0,.ref l0])) dt (.dK (mergeK [] [(Sum.inl start,.ref t0)])))=HA at *;have TO0:TreeOk rs hs start n [⟨start,t0,0,l0,[]⟩]:=by
   refine⟨by simp[zax],λx hx=>?_,λx hx=>?_,λx hx z hz=>?_,λx hx y hy i j z hi hj=>?_,YAh,λx hx=>?_,λx hx z hz=>?_⟩
   .rw[YAg.mp hx];exact⟨st0,st1⟩
   .rw[YAg.mp hx];rfl
   .rw[YAg.mp hx]at hz;cases hz
   .rw[YAg.mp hx]at hi;simp at hi
   .rw[YAg.mp hx];show 0<1;decide
   .rw[YAg.mp hx]at hz;cases hz
  clear hdt1 hdt2 SA hl01 hl0 ht0;refine⟨_,rfl,by show 1<=sizeLine;decide,λln0 hln0=>?_⟩;obtain⟨W,hW⟩:∃W:Nat->L2.St->Hp->Prop,W=λm Y H2=>∃(ns:List Nd)(nw:List Int)(ln:Addr)(o4 o5 o6 o7 o8 o9 o10:Option V),Y=[some (.int start),some (.ref ls),some (.ref dt),some (.ref ln),o4,o5,o6,o7,o8,o9,o10]/\m=2*(n-ns.length)+(if nw=[]then 0 else 1)/\Same H H2/\TreeH K H2 dt ns/\TreeOk rs hs start n ns/\H2 ln=some (.lst (nw.map V.int))/\(∀z∈nw,z∈zax ns)/\(∀x∈ns,x.m∈nw\/Closed cs ns x.m)/\∃q,itT (stepsF rs hs rs.length) start q=(ns.map zbb,nw):=⟨_,rfl⟩;refine⟨W,⟨_,by
   rw[hW];exact⟨[⟨start,t0,0,l0,[]⟩],[start],ln0,_,_,_,_,_,_,_,rfl,rfl,SB.trans (zan hln0),TH0.same (zan hln0),TO0,zac,λz hz=>hz,(λx hx=>.inl (by rw[YAg.mp hx];exact YAh)),0,rfl⟩⟩,λm Y H2 hw=>?_⟩
  rw[hW]at hw;obtain⟨ns,nw,ln,o4,o5,o6,o7,o8,o9,o10,rfl,hm,S2,TH,TO,hln,hnk,hcl,kq,hkq⟩:=hw;refine⟨_,rfl,_,.inl ⟨_,SqL.of hln,rfl⟩,?_⟩;refine ite2 (λhne=>?_) (λhne=>?_)
  .have hnw:nw≠[]:=λe=>by rw[e]at hne;simp at hne
   refine⟨λY' H'=>∃m',m'<m/\W m' Y' H',λ_ _ h=>h,?_⟩;refine⟨by show 0<=sizeLine;exact YAH _,λlf hlf=>?_⟩;have fl:H lf=none:=S2.free hlf;have nll:ln≠lf:=zae hln hlf;have TI0:TI K H rs hs start n dt ln lf nw ns.length (upd H2 lf (.lst [])) ns []:=
    ⟨S2.trans (zan hlf),TH.same (zan hlf),TO,zan hlf _ _ hln,zac,(λz hz=>by cases hz),hnk,by simp⟩
   generalize upd H2 lf (.lst [])=H3 at *;refine⟨_,rfl,ln,rfl,⟨_,SqL.of TI0.hln⟩,zfk (K:=K) (a:=ln) (xs:=nw.map V.int) (λi Y H4=>∃(ns':List Nd)(fr:List Int)(o5 o6 o7 o8 o9 o10:Option V),Y=[some (.int start),some (.ref ls),some (.ref dt),some (.ref ln),some (.ref lf),o5,o6,o7,o8,o9,o10]/\TI K H rs hs start n dt ln lf nw ns.length H4 ns' fr/\(∀x∈ns',x.m∈nw.drop i\/x.m∈fr\/Closed cs ns' x.m)/\(ns'.map zbb,fr)=(nw.take i).foldl (exM (stepsF rs hs rs.length)) (ns.map zbb,[]))
    ⟨ns,[],_,_,_,_,_,_,rfl,TI0,(λx hx=>(hcl x hx).elim .inl λh=>.inr (.inr h)),rfl⟩ (λi Y H4 _ ⟨_,_,_,_,_,_,_,_,_,X,_⟩=>SqL.of X.hln) ?_ ?_⟩
   .rintro i v Y H4 hv ⟨ns1,fr1,p5,p6,p7,p8,p9,p10,rfl,X1,C1,P1⟩;obtain⟨z,hz1,rfl⟩:=zp3 hv;obtain⟨p,hp,rfl⟩:=mem_keys.mp (X1.nwk z (YAz hz1));have pm:=X1.tok.inm p hp;have dg:DGet H4 dt (.int p.m) (some (.ref p.t)):=by
     have:=DGet.k (k:=Sum.inl p.m) X1.th.dict
     rw[zfR X1.tok.nod hp]at this;exact this
    refine⟨_,rfl,_,rfl,dt,_,rfl,dg,p.t,_,rfl,SqT.of (X1.th.node p hp).1,rfl,_,_,rfl,_,_,rfl,rfl,?_⟩;obtain⟨l1,e1⟩:∃l1,ad[p.m.toNat]?=some l1:=⟨_,YAe (by omega)⟩;have at1:atI (ad.map V.ref) p.m=some (.ref l1):=by
     have q:=zdO (xs:=ad.map V.ref) (j:=p.m.toNat) (v:=.ref l1) (by rw[YAq,e1];rfl)
     rwa[YBk pm.1]at q
    have St4:=St.same X1.same;refine⟨_,rfl,_,rfl,ls,_,_,_,rfl,rfl,SqL.of St4.top,at1,l1,rfl,⟨_,SqL.of (St4.row _ _ e1)⟩,zfk (K:=K) (a:=l1) (xs:=(cs p.m.toNat).map triV) (λj Y H5=>∃(ns':List Nd)(fr:List Int)(o8 o9 o10:Option V),Y=[some (.int start),some (.ref ls),some (.ref dt),some (.ref ln),some (.ref lf),some (.int p.m),some (.int p.h),some (.ref p.lt),o8,o9,o10]/\TI K H rs hs start n dt ln lf nw ns.length H5 ns' fr/\p∈ns' /\
     (∀x∈ns',x.m∈nw.drop (i+1)\/x.m∈fr\/Closed cs ns' x.m\/(x.m=p.m/\∀t∈(cs p.m.toNat).take j,t.e∈zax ns'))/\(ns'.map zbb,fr)=((stepsF rs hs rs.length p.m.toNat).take j).foldl (ex1 (zbb p)) (ns1.map zbb,fr1))
     ⟨ns1,fr1,_,_,_,rfl,X1,hp,(λx hx=>?_),rfl⟩ (λj Y H5 _ ⟨_,_,_,_,_,_,X,_⟩=>SqL.of ((St.same X.same).row _ _ e1)) ?_ ?_⟩
    .rcases C1 x hx with q|q|q
     .rw[zpD hz1]at q;rcases YAk.mp q with q|q
      .exact .inr (.inr (.inr ⟨q,λt ht=>by rw[List.take_zero]at ht;cases ht⟩))
      .exact .inl q
     .exact .inr (.inl q)
     .exact .inr (.inr (.inl q))
    .rintro j v Y H5 hv2 ⟨ns2,fr2,q8,q9,q10,rfl,X2,hp2,C2,P2⟩;obtain⟨t,ht,rfl⟩:∃t,(cs p.m.toNat)[j]?=some t/\v=.ref t.p:=by
      rw[YAq]at hv2;cases e:(cs p.m.toNat)[j]? with
      |none=>rw[e]at hv2;cases hv2
      |some t=>rw[e]at hv2;exact⟨t,rfl,(Option.some.inj hv2).symm⟩
     have htm:=YAz ht;have hsj:(stepsF rs hs rs.length p.m.toNat)[j]?=some (triC t):=by rw[<-So.cont,YAq,ht];rfl
     have St5:=St.same X2.same;refine⟨t.p,_,rfl,SqT.of (St5.tri _ t (by omega) htm),rfl,_,_,rfl,_,_,rfl,_,_,rfl,rfl,?_⟩;refine⟨_,rfl,_,rfl,dt,_,rfl,DGet.k (k:=Sum.inl t.e) X2.th.dict,_,rfl,?_⟩;cases hv3:valV (ns2.map ndK) (Sum.inl t.e)with
     |some v3=>
      have hk:t.e∈zax ns2:=by
       by_cases c:t.e∈zax ns2
       .exact c
       .rw[valV_none.mpr c]at hv3;cases hv3
      refine iteF ⟨ns2,fr2,_,_,_,rfl,X2,hp2,(λx hx=>?_),by
       rw[zeU _ _ hsj,<-P2];unfold ex1;rw[if_pos (by rw[zib];exact hk)]⟩
      rcases C2 x hx with q|q|q|⟨q1,q2⟩
      .exact .inl q
      .exact .inr (.inl q)
      .exact .inr (.inr (.inl q))
      .refine .inr (.inr (.inr ⟨q1,λu hu=>?_⟩));rw[zcl ht]at hu;rcases YAm.mp hu with hu|hu
       .exact q2 u hu
       .rw[YAg.mp hu];exact hk
     |none=>
      have hk:t.e∉zax ns2:=valV_none.mp hv3;have few:=X2.tok.few p hp2;have hlen:=X2.tok.len;refine iteT ?_;refine⟨_,rfl,_,rfl,_,_,rfl,rfl,_,rfl,_,rfl,by show 1<=sizeLine;decide,λtn htn=>?_⟩;refine⟨p.lt,tn,_,_,rfl,rfl,zcu (tp:=true) (zan htn) (X2.th.node p hp2).2,SqT.of zac,(by rw[YAc,YAP];show _+1<=_;omega),λlt H6 S6 hlt=>?_⟩;refine⟨by show 2<=sizeLine;decide,λtt htt=>?_⟩;have X3:=X2.grow (((zan (o:=.tup [.int t.n]) htn).trans S6).trans (zan (o:=.tup [.int (p.h+t.d),.ref lt]) htt));have hlt':SqT K (upd H6 tt (.tup [.int (p.h+t.d),.ref lt])) lt ((p.line++[t.n]).map V.int):=by
       rw[YAx];exact zcu (tp:=true) (zan htt) hlt
      have htt':upd H6 tt (.tup [.int (p.h+t.d),.ref lt]) tt=some (.tup [.int (p.h+t.d),.ref lt]):=zac;generalize upd H6 tt (.tup [.int (p.h+t.d),.ref lt])=H7 at *;refine⟨_,rfl,_,rfl,dt,_,rfl,DPut.k (k:=Sum.inl t.e) X3.th.dict (by rw[YAc,YAP];omega),?_⟩;have ndl:dt≠lf:=λz=>by have:=X3.th.dict;rw[z,X3.hlf]at this;cases this
      have hlf8:upd H7 dt (.dK (putK (ns2.map ndK) (Sum.inl t.e) (.ref tt))) lf=some (.lst (fr2.map V.int)):=by rw[zaf ndl.symm];exact X3.hlf
      have hcnt:=X2.cnt;refine⟨_,rfl,.inl ⟨rfl,_,SqL.of hlf8⟩,_,rfl,lf,_,_,rfl,rfl,hlf8,by rw[YAc,YAP];omega,?_⟩;have X4:=X3.add VM hdt fl nll hp2 (So.sound _ t htm) hk htt' hlt';refine⟨_,_,_,_,_,rfl,X4,YAy _ hp2,(λx hx=>?_),by
       rw[zeU _ _ hsj,<-P2];unfold ex1;rw[if_neg (by rw[zib];exact hk),YAx];rfl⟩
      rcases YAm.mp hx with hx|hx
      .rcases C2 x hx with q|q|q|⟨q1,q2⟩
       .exact .inl q
       .exact .inr (.inl (YAy _ q))
       .exact .inr (.inr (.inl q.snoc))
       .refine .inr (.inr (.inr ⟨q1,λu hu=>?_⟩));rw[zci];rw[zcl ht]at hu;rcases YAm.mp hu with hu|hu
        .exact YAy _ (q2 u hu)
        .rw[YAg.mp hu];exact YAp _ YAh
      .rw[YAg.mp hx];exact .inr (.inl (YAp _ YAh))
    .rintro Y H5 ⟨ns2,fr2,q8,q9,q10,rfl,X2,hp2,C2,P2⟩;refine⟨ns2,fr2,_,_,_,_,_,_,rfl,X2,(λx hx=>?_),by
      have el:((cs p.m.toNat).map triV).length=(stepsF rs hs rs.length p.m.toNat).length:=by rw[<-So.cont,YAc,YAc]
      rw[el,YBI]at P2;rw[zeU _ _ hz1,<-P1,P2];unfold exM;rw[zcn X1.tok.nod hp]⟩
     rcases C2 x hx with q|q|q|⟨q1,q2⟩
     .exact .inl q
     .exact .inr (.inl q)
     .exact .inr (.inr q)
     .refine .inr (.inr λt ht=>q2 t ?_);rw[YAc,YBI,<-q1];exact ht
   .rintro Y H4 ⟨ns1,fr1,p5,p6,p7,p8,p9,p10,rfl,X1,C1,P1⟩;refine⟨_,rfl,2*(n-ns1.length)+(if fr1=[]then 0 else 1),?_,?_⟩
    .have h1:=X1.cnt;have h2:=X1.tok.len;rw[hm,if_neg hnw];by_cases c:fr1=[]
     .rw[if_pos c];have hz0:fr1.length=0:=by rw[c];rfl
      omega
     .rw[if_neg c]
      have:0<fr1.length:=List.length_pos_iff.mpr c
      omega
    .rw[hW];refine⟨ns1,fr1,lf,_,_,_,_,_,_,_,rfl,rfl,X1.same,X1.th,X1.tok,X1.hlf,X1.frk,(λx hx=>?_),kq+1,by
      rw[YAc,YBI]at P1;show exL _ (itT _ start kq).1 (itT _ start kq).2=_;rw[hkq,P1];rfl⟩
     rcases C1 x hx with q|q|q
     .rw[YAc,YBW]at q;cases q
     .exact .inl q
     .exact .inr q
  .have hnw:nw=[]:=by
    cases nw with
    |nil=>rfl
    |cons a b=>simp at hne
   refine⟨_,rfl,k dt ns H2 S2 hdt TH TO (zmI VM TO So λx hx=>(hcl x hx).elim (λq=>by rw[hnw]at q;cases q) λq=>q) ⟨kq,by rw[hkq,hnw]⟩⟩
def scSomeLine:FnScope ["size","runs","struck","one","other","tree","height","line"] ["size","runs","struck","one","other"] (zat zcb):=⟨rfl,rfl,rfl,by decide +kernel,rfl,by decide +kernel,by decide +kernel⟩
def zdf{f:Addr}{fd:FuncData}(F:Fun K "some_line" "some_line" zcb f fd)(cF:Cal P w K mg base "steps_from" 1 ["size","runs","struck"] (zhG K))(cR:Cal P w K mg base "tree_from" 1 ["start","steps"] (zkA K)):FnOk P w K mg base CX0 2 f fd ["size","runs","struck","one","other"] (zlH K):=by
 refine F.ok scSomeLine (λvs H Q E h=>?_) (λcdv A outer s0 H vs Q E hr h=>?_)
 .obtain⟨n,a,s,rs,hs,one,qe,rfl,_⟩:=h;rfl
 .obtain⟨n,a,s,rs,hs,one,qe,rfl,ha,R,VM,hsq,h0,h1,hn,hz,k⟩:=h;have nd:=scSomeLine.nd;have hu:=zoO hr;refine⟨_,zam (zbu (i:=5) nd rfl (Or.inl rfl) (zeA cR hr rfl (zah (pv 3) (zah (zeA cF hr rfl (zah (pv 0) (zah (pv 1) (zah (pv 2) zav)))) zav))))
   (zam (zeM (zik (zf6 hu (pv 4) (pv 5))) (zaD (zbO zj7)) zbR)
   (zam (zdE (zhs hu (pv 5) (pv 4) (λ_ _=>rfl)) (zcO (n:=2) rfl (zad (zaz (i:=6) nd rfl (Or.inl rfl)) (zad (zaz (i:=7) nd rfl (Or.inl rfl)) zaI))))
   (zaD (zbO (pv 7))))),?_⟩
  refine⟨_,rfl,_,rfl,_,rfl,_,rfl,n,a,s,rs,hs,rfl,ha,R,VM,hsq,hn,hz,λls ad cs H1 S1 hal St So _ _=>?_⟩;refine⟨one,ls,n,ad,cs,rs,hs,rfl,h0,h1,St,hal,So,VM,hn,hz,λdt ns H2 S2 hdt TH TO hk hT=>?_⟩;have S3:=S1.trans S2;refine⟨_,rfl,_,rfl,dt,_,rfl,DGet.k (k:=Sum.inl qe) TH.dict,_,rfl,?_⟩;cases hv:valV (ns.map ndK) (Sum.inl qe)with
  |none=>
   refine iteT ?_;exact k .non H2 S3 ⟨ns,TO,hT,hk,.inl ⟨rfl,valV_none.mp hv⟩⟩
  |some v=>
   have hk1:qe∈zax ns:=by
    by_cases c:qe∈zax ns
    .exact c
    .rw[valV_none.mpr c]at hv;cases hv
   obtain⟨x,hx,rfl⟩:=mem_keys.mp hk1;have dg:DGet H2 dt (.int x.m) (some (.ref x.t)):=by
    have:=DGet.k (k:=Sum.inl x.m) TH.dict
    rw[zfR TO.nod hx]at this;exact this
   refine iteF ⟨_,rfl,_,rfl,dt,_,rfl,dg,x.t,_,rfl,SqT.of (TH.node x hx).1,rfl,_,_,rfl,_,_,rfl,rfl,?_⟩;exact⟨_,rfl,k _ H2 S3 ⟨ns,TO,hT,hk,.inr ⟨x,hx,rfl,rfl,(TH.node x hx).2⟩⟩⟩
def scTrees:FnScope ["size","runs","struck","steps","trees","reached","mark","tree"] ["size","runs","struck"] (zat zdC):=⟨rfl,rfl,rfl,by decide +kernel,rfl,by decide +kernel,by decide +kernel⟩
def zoE{f:Addr}{fd:FuncData}(F:Fun K "trees_of" "trees_of" zdC f fd)(T:Txt K mg)(cF:Cal P w K mg base "steps_from" 1 ["size","runs","struck"] (zhG K))(cR:Cal P w K mg base "tree_from" 1 ["start","steps"] (zkA K)):FnOk P w K mg base CX0 2 f fd ["size","runs","struck"] (zdN K):=by
 refine F.ok scTrees (λvs H Q E h=>?_) (λcdv A outer s0 H vs Q E hr h=>?_)
 .obtain⟨n,a,s,rs,hs,rfl,_⟩:=h;rfl
 .obtain⟨n,a,s,rs,hs,rfl,ha,R,VM,hsq,hn,hz,k⟩:=h;have nd:=scTrees.nd;have hu:=zoO hr;refine⟨_,zam (zbu (i:=3) nd rfl (Or.inl rfl) (zeA cF hr rfl (zah (pv 0) (zah (pv 1) (zah (pv 2) zav)))))
   (zam (zbu (i:=4) nd rfl (Or.inl rfl) (zd1 zav))
   (zam (zbu (i:=5) nd rfl (Or.inl rfl) zkD)
   (zam (zey YBn rfl (zfP rfl T.range (zah (pv 0) zav)) (zaz (i:=6) nd rfl (Or.inl rfl))
    (zaD (zeM (zik (zf6 hu (pv 6) (pv 5)))
     (zam (zbu (i:=7) nd rfl (Or.inl rfl) (zeA cR hr rfl (zah (pv 6) (zah (pv 3) zav))))
     (zam (zdc (zmm (pv 5) (pv 7) ⟨rfl,rfl,rfl,rfl⟩))
     (zaD (zdc (zln YBx YBr YBs zb2 (pv 4) (zah (pv 7) zav)))))) zbR)))
   (zaD (zbO (pv 4)))))),?_⟩
  refine⟨_,rfl,_,rfl,_,rfl,n,a,s,rs,hs,rfl,ha,R,VM,hsq,hn,hz,λls ad cs H1 S1 hal St So _ _=>?_⟩;refine⟨by show 0<=sizeLine;exact YAH _,λlt hlt=>?_⟩;intro dr hdr;have S2:=zan (o:=.lst []) hlt;have S3:=S2.trans (zan (o:=.dK []) hdr);have hlt3:upd (upd H1 lt (.lst [])) dr (.dK []) lt=some (.lst (([]:List TR).map trV)):=zan hdr _ _ zac;have hdr3:upd (upd H1 lt (.lst [])) dr (.dK []) dr=some (.dK (([]:List Nd).map ndK)):=zac;have fdr:H1 dr=none:=S2.free hdr;generalize upd (upd H1 lt (.lst [])) dr (.dK [])=H3 at *;refine⟨_,rfl,n,rfl,by omega,by omega,?_⟩;refine zmd (n:=((n:Nat):Int).toNat) (λi Y H4=>∃(ts:List TR)(rns:List Nd)(o6 o7:Option V),Y=[some (.int n),some (.ref a),some (.ref s),some (.ref ls),some (.ref lt),some (.ref dr),o6,o7]/\Same H1 H4/\H4 lt=some (.lst (ts.map trV))/\H4 dr=some (.dK (rns.map ndK))/\(∀t∈ts,TreeAt K H4 n rs hs t/\t.d≠dr)/\Firsts i (usable hs rs) (ts.map TR.st)/\(zax rns).Nodup/\(∀x∈rns,0<=x.m/\x.m<n)/\(∀j,j∈zax rns↔∃m:Int,0<=m/\m<i/\Conn (usable hs rs) m j)/\ts.length<=i/\(∀t∈ts,H1 t.d=none)/\(ts.map TR.d).Nodup)
   ⟨[],[],_,_,rfl,S3,hlt3,hdr3,(λt h=>by cases h),⟨List.Pairwise.nil,λm=>⟨(λh=>by cases h),λh=>absurd h.2.1 (by have:=h.1;omega)⟩⟩,YCJ,(λx h=>by cases h),(λj=>⟨(λh=>by cases h),λ⟨m,h0,h1,_⟩=>absurd h1 (by omega)⟩),YAn _,(λt h=>by cases h),YCJ⟩ ?_ ?_
  .rintro i Y H4 hi ⟨ts,rns,o6,o7,rfl,S4,h4t,h4r,hts,hF,hnd,hin,hk,hlen,hfd,hdd⟩;rw[YAD]at hi;have e0:(0:Int)+(i:Int)=(i:Int):=by omega
   have i0:(0:Int)<=0+(i:Int):=by omega
   have i1:(0:Int)+(i:Int)<(n:Int):=by omega
   have hrl:rns.length<=n:=by
    have h:=zaB (xs:=(List.range n).map Int.ofNat) hnd λk hk=>by
     obtain⟨x,hx,rfl⟩:=mem_keys.mp hk
     have:=hin x hx
     refine YAF.mpr ⟨x.m.toNat,YBc.mpr (by omega),?_⟩;show((x.m.toNat:Nat):Int)=x.m;omega
    unfold zax at h
    simpa using h
   refine⟨_,rfl,_,rfl,dr,_,rfl,DGet.k (k:=Sum.inl (0+(i:Int))) h4r,_,rfl,?_⟩;cases hv:valV (rns.map ndK) (Sum.inl (0+(i:Int)))with
   |some v=>
    have hk1:(0+(i:Int))∈zax rns:=by
     by_cases c:(0+(i:Int))∈zax rns
     .exact c
     .rw[valV_none.mpr c]at hv;cases hv
    have hex:=(hk _).mp hk1;rw[e0]at hex;refine iteF ⟨ts,rns,_,_,rfl,S4,h4t,h4r,hts,hF.no hex,hnd,hin,(λj=>?_),by omega,hfd,hdd⟩;rw[hk j];constructor
    .rintro⟨m,a1,a2,a3⟩;exact⟨m,a1,by omega,a3⟩
    .rintro⟨m,a1,a2,a3⟩;by_cases e:m=i
     .obtain⟨q,q0,q1,qc⟩:=hex;exact⟨q,q0,q1,qc.trans (e▸a3)⟩
     .exact⟨m,a1,by omega,a3⟩
   |none=>
    have hk1:=valV_none.mp hv;have hex:¬ ∃m:Int,0<=m/\m<i/\Conn (usable hs rs) m i:=λh=>hk1 ((hk _).mpr (by rw[e0];exact h));refine iteT ?_;refine⟨_,rfl,_,rfl,0+i,ls,n,ad,cs,rs,hs,rfl,i0,i1,St.same S4,hal,So,VM,hn,hz,λdt ns H5 S5 hdt TH TO hkk hT=>?_⟩;have h5r:=S5 _ _ h4r;have h5t:=S5 _ _ h4t;have ndt:dr≠dt:=zae h4r hdt;have hnl:=TO.len;refine⟨_,rfl,dr,rfl,.inl ⟨_,.inl h5r⟩,_,rfl,dt,_,_,rfl,ndt,h5r,TH.dict,(by rw[YAc,YAc,YAP];omega),?_⟩;have hdis:∀j∈zax ns,j∉zax rns:=λj hj hj2=>by
     obtain⟨m,m0,m1,mc⟩:=(hk j).mp hj2
     have:=(hkk j).mp hj
     rw[e0]at this;exact hex ⟨m,m0,m1,mc.trans this.symm⟩
    have kk1:∀l:List Nd,(l.map ndK).map (·.1)=(zax l).map Sum.inl:=λl=>by unfold zax;rw[YAM,YAM];rfl
    have emg:mergeK (rns.map ndK) (ns.map ndK)=(rns++ns).map ndK:=by
     rw[zc3,YAx]
     .intro kk hkx hkr;rw[kk1]at hkx hkr;obtain⟨x,hx,rfl⟩:=YAF.mp hkx;obtain⟨y,hy,e⟩:=YAF.mp hkr;have e':y=x:=Sum.inl.inj e;exact hdis x hx (e'▸hy)
     .rw[kk1];exact List.Pairwise.map _ (λa b h z=>h (Sum.inl.inj z)) TO.nod
    rw[emg];have ltr:lt≠dr:=λz=>by rw[z,h5r]at h5t;cases h5t
    have h6t:upd H5 dr (.dK ((rns++ns).map ndK)) lt=some (.lst (ts.map trV)):=by rw[zaf ltr];exact h5t
    refine⟨_,rfl,.inl ⟨rfl,_,SqL.of h6t⟩,_,rfl,lt,_,_,rfl,rfl,h6t,(by rw[YAc,YAP];omega),?_⟩;have new:TreeAt K H5 n rs hs ⟨dt,0+i,ns⟩:=⟨TH,TO,hkk,hT,i0,i1⟩;refine⟨ts++[⟨dt,0+i,ns⟩],rns++ns,_,_,rfl,λc o e=>?_,?_,?_,λt ht=>?_,?_,?_,λx hx=>?_,(λj=>?_),by rw[YAo];exact YCU hlen 1,(λt ht=>?_),?_⟩
    .rw[zaf (zae e hlt),zaf (zae e fdr)];exact S5 _ _ (S4 c o e)
    .rw[zac,YAx];rfl
    .rw[zaf ltr.symm,zac]
    .have up:∀t:TR,TreeAt K H5 n rs hs t->t.d≠dr->TreeAt K (upd (upd H5 dr (.dK ((rns++ns).map ndK))) lt (.lst (ts.map trV++[.ref dt]))) n rs hs t:=λt ht hne=>by
      have t6:=ht.upd (o':=.dK ((rns++ns).map ndK)) h5r trivial hne;refine t6.upd h6t trivial λz=>?_
      have:=t6.th.dict
      rw[z,h6t]at this;cases this
     rcases YAm.mp ht with q|q
     .exact⟨up t ((hts t q).1.same S5) (hts t q).2,(hts t q).2⟩
     .rw[YAg.mp q];exact⟨up _ new ndt.symm,ndt.symm⟩
    .rw[YAx];show Firsts (i+1) _ (ts.map TR.st++[0+(i:Int)]);rw[e0];exact hF.yes hex
    .unfold zax;rw[YAx];exact YCr.mpr ⟨hnd,TO.nod,λx hx y hy e=>hdis y hy (e▸hx)⟩
    .rcases YAm.mp hx with q|q
     .exact hin x q
     .exact TO.inm x q
    .unfold zax;rw[YAx,YAm];show(j∈zax rns\/j∈zax ns)↔_;rw[hk j,hkk j,e0];constructor
     .rintro(⟨m,a1,a2,a3⟩|a3)
      .exact⟨m,a1,by omega,a3⟩
      .exact⟨i,by omega,by omega,a3⟩
     .rintro⟨m,a1,a2,a3⟩;by_cases e:m=i
      .exact .inr (e▸a3)
      .exact .inl ⟨m,a1,by omega,a3⟩
    .rcases YAm.mp ht with q|q
     .exact hfd t q
     .rw[YAg.mp q];exact S4.free hdt
    .rw[YAx];refine zhl hdd λq=>?_;obtain⟨t,ht,e⟩:=YAF.mp q
     have:=(hts t ht).1.th.dict
     rw[e]at this;exact zae this hdt rfl
  .rintro Y H4 ⟨ts,rns,o6,o7,rfl,S4,h4t,h4r,hts,hF,hnd,hin,hk,hlen,hfd,hdd⟩;rw[YAD]at hF hlen;exact⟨_,rfl,k lt ts H4 (S1.trans S4) (S1.free hlt) h4t (λt ht=>(hts t ht).1) hF hlen (λt ht=>S1.free (hfd t ht)) hdd⟩
def scFlat:FnScope ["size","runs","heights","tree","mark","height","line"] ["size","runs"] (zat zjE):=⟨rfl,rfl,rfl,by decide +kernel,rfl,by decide +kernel,by decide +kernel⟩
def zjz{f:Addr}{fd:FuncData}(F:Fun K "flat" "flat" zjE f fd)(cT:Cal P w K mg base "trees_of" 2 ["size","runs","struck"] (zdN K))(cH:Cal P w K mg base "holds" 1 ["runs","heights"] (zjx K)):FnOk P w K mg base CX0 3 f fd ["size","runs"] (zrA K):=by
 refine F.ok scFlat (λvs H Q E h=>?_) (λcdv A outer s0 H vs Q E hr h=>?_)
 .obtain⟨n,a,rs,rfl,_⟩:=h;rfl
 .obtain⟨n,a,rs,rfl,ha,R,VM,hn,hz,kN,k⟩:=h;have nd:=scFlat.nd;have hr1:Room 1 _:=hr.mono (by decide);refine⟨_,zam (zbu (i:=2) nd rfl (Or.inl rfl) (zb8 zlV (zd1 (zah zaO zav)) (pv 0)))
   (zam (zey YBn rfl (zeR (zeA cT hr rfl (zah (pv 0) (zah (pv 1) (zah (zd1 zav) zav))))) (zaz (i:=3) nd rfl (Or.inl rfl))
    (zaD (zey YBn rfl (zoz (pv 3)) (zcO (n:=2) rfl (zad (zaz (i:=4) nd rfl (Or.inl rfl)) (zad (zcO (n:=2) rfl (zad (zaz (i:=5) nd rfl (Or.inl rfl)) (zad (zaz (i:=6) nd rfl (Or.inl rfl)) zaI))) zaI)))
     (zaD (zdE (pv 5) (zi1 (pv 2) (pv 4) zcU))))))
   (zam (zeM (zrZ (zeA cH hr1 rfl (zah (pv 1) (zah (pv 2) zav)))) (zaD (zbO (pv 2))) zbR)
   (zaD (zbO zj7)))),?_⟩
  refine⟨by show 1<=sizeLine;decide,λl0 hl0=>?_⟩;have S0:=zan (o:=.lst [.int 0]) hl0;refine⟨_,rfl,l0,n,_,rfl,rfl,zac,by omega,by omega,(by rw[YAP];show 1*_<=_;omega),λlh hlh=>?_⟩;have S1:=S0.trans (zan (o:=.lst (List.replicate ((n:Int)).toNat [V.int 0]).flatten) hlh);have fh:H lh=none:=S0.free hlh;have efl:(List.replicate ((n:Int)).toNat [V.int 0]).flatten=(List.replicate n (0:Int)).map V.int:=by
   rw[YAD,YDi];exact zkd _ n
  have hlh1:(upd (upd H l0 (.lst [.int 0])) lh (.lst (List.replicate ((n:Int)).toNat [V.int 0]).flatten)) lh=some (.lst ((List.replicate n (0:Int)).map V.int)):=by rw[zac,efl]
  generalize (upd (upd H l0 (.lst [.int 0])) lh (.lst (List.replicate ((n:Int)).toNat [V.int 0]).flatten))=H1 at *;refine⟨_,rfl,_,rfl,by show 0<=sizeLine;exact YAH _,λle hle=>?_⟩;have S2:=S1.trans (zan (o:=.lst []) hle);have hlh2:=zan (o:=.lst []) hle _ _ hlh1;refine⟨n,a,le,rs,[],rfl,S2.seq ha,R.same S2,VM,SqL.of zac,hn,hz,λlt ts H3 S3 hlt hlt3 hts hF htl hfd hdd=>?_⟩;have S4:=S2.trans S3;have hlh3:=S3 _ _ hlh2;have nlt:lt≠lh:=(zae hlh2 hlt).symm;have flt:H lt=none:=S2.free hlt;have ffd:∀t∈ts,H t.d=none:=λt h=>S2.free (hfd t h);generalize upd H1 le (.lst [])=H2 at *;have one:=λ{t u:TR} (a1:t∈ts) (b1:u∈ts) {x y:Nd} (hx:x∈t.ns) (hy:y∈u.ns) (e:x.m=y.m)=>znh hts hF a1 b1 hx hy e;have cover:=λ{i:Int} (h0:0<=i) (h1:i<n)=>zdS hts hF h0 h1;refine⟨lt,rfl,⟨_,SqL.of hlt3⟩,zfk (K:=K) (a:=lt) (xs:=ts.map trV) (λi Y H4=>∃(hts':List Int)(o3 o4 o5 o6:Option V),Y=[some (.int n),some (.ref a),some (.ref lh),o3,o4,o5,o6]/\Same H H4/\H4 lt=some (.lst (ts.map trV))/\H4 lh=some (.lst (hts'.map V.int))/\hts'.length=n/\(∀t∈ts.drop i,TreeAt K H4 n rs [] t)/\∀t∈ts.take i,∀x∈t.ns,gI hts' x.m=x.h)
   ⟨_,_,_,_,_,rfl,S4,hlt3,hlh3,by simp,hts,(λt h=>by cases h)⟩ (λi Y H4 _ ⟨_,_,_,_,_,_,_,h,_⟩=>SqL.of h) ?_ ?_⟩
  .rintro i v Y H4 hv ⟨hts1,o3,o4,o5,o6,rfl,S5,h4t,h4h,l1,hT,hW⟩;obtain⟨t,ht,rfl⟩:∃t,ts[i]?=some t/\v=.ref t.d:=by
    rw[YAq]at hv;cases e:ts[i]? with
    |none=>rw[e]at hv;cases hv
    |some t=>rw[e]at hv;exact⟨t,rfl,(Option.some.inj hv).symm⟩
   obtain⟨hi1,hi2⟩:=YAi.mp ht;have htm:t∈ts:=YAz ht;have edrop:ts.drop i=t::ts.drop (i+1):=by rw[YAW hi1,hi2]
   have Tt:TreeAt K H4 n rs [] t:=hT t (by rw[edrop];exact YAh);have rest:∀u∈ts.drop (i+1),u.d≠t.d:=λu hu e=>by
    obtain⟨j,hj⟩:=YBK hu;rw[List.getElem?_drop]at hj;have h1:(ts.map TR.d)[i+1+j]?=some t.d:=by rw[YAq,hj,<-e];rfl
    have h2:(ts.map TR.d)[i]?=some t.d:=by rw[YAq,ht];rfl
    have:=zkF hdd h1 h2
    omega
   refine⟨_,rfl,t.d,_,rfl,Tt.th.dict,λo=>?_⟩;have n1:t.d≠lt:=λz=>by have:=Tt.th.dict;rw[z,h4t]at this;cases this
   have n2:t.d≠lh:=λz=>by have:=Tt.th.dict;rw[z,h4h]at this;cases this
   refine zmg (d:=t.d) (o:=o) (kvs:=t.ns.map ndK) (λj Y H5=>∃(hts':List Int)(o4 o5 o6:Option V),Y=[some (.int n),some (.ref a),some (.ref lh),some (.ref t.d),o4,o5,o6]/\Same H H5/\H5 lt=some (.lst (ts.map trV))/\H5 t.d=some (.frz o (.dK (t.ns.map ndK)))/\H5 lh=some (.lst (hts'.map V.int))/\hts'.length=n/\(∀u∈ts.drop (i+1),TreeAt K H5 n rs [] u)/\(∀u∈ts.take i,∀x∈u.ns,gI hts' x.m=x.h)/\(∀x∈t.ns.take j,gI hts' x.m=x.h)/\∀x∈t.ns,H5 x.t=some (.tup [.int x.h,.ref x.lt]))
    ⟨hts1,_,_,_,rfl,λc o' e=>?_,?_,zac,?_,l1,λu hu=>?_,hW,(λx h=>by cases h),λx hx=>?_⟩ (λj Y H5 _ ⟨_,_,_,_,_,_,_,h,_⟩=>h) ?_ ?_
   .rw[zaf (zae e (ffd t htm))];exact S5 c o' e
   .rw[zaf n1.symm];exact h4t
   .rw[zaf n2.symm];exact h4h
   .exact(hT u (by rw[edrop];exact YAj _ hu)).upd Tt.th.dict trivial (rest u hu)
   .exact zeV (Tt.th.node x hx).1 Tt.th.dict trivial
   .rintro j kk vv tt Y H5 hkv htt ⟨hts2,q4,q5,q6,rfl,S6,h5t,h5d,h5h,l2,hT5,hW5,hV5,hN5⟩;obtain⟨x,hx,ek⟩:∃x,t.ns[j]?=some x/\(kk,vv)=ndK x:=by
     rw[YAq]at hkv;cases e:t.ns[j]? with
     |none=>rw[e]at hkv;cases hkv
     |some x=>rw[e]at hkv;exact⟨x,rfl,(Option.some.inj hkv).symm⟩
    unfold ndK at ek;injection ek with ek1 ek2
    subst ek1 ek2;have hxm:x∈t.ns:=YAz hx;have xb:=Tt.tok.inm x hxm;have Sn:=zan (o:=.tup [kV (Sum.inl x.m),.ref x.t]) htt;refine⟨tt,_,rfl,SqT.of zac,rfl,_,_,rfl,_,_,rfl,x.t,_,rfl,SqT.of (Sn _ _ (hN5 x hxm)),rfl,_,_,rfl,_,_,rfl,rfl,rfl,?_⟩;have h6h:=Sn _ _ h5h;refine⟨_,rfl,_,rfl,_,rfl,lh,_,x.m,_,rfl,rfl,h6h,zsa xb.1 (by rw[YAc,l2];exact xb.2),?_⟩;have n3:t.d≠lh:=n2;refine⟨hts2.set x.m.toNat x.h,_,_,_,rfl,λc o' e=>?_,?_,?_,by rw[zac,zof],by rw[List.length_set];exact l2,λu hu=>?_,λu hu y hy=>?_,λy hy=>?_,λy hy=>?_⟩
    .rw[zaf (zae e fh)];exact Sn _ _ (S6 c o' e)
    .rw[zaf nlt];exact Sn _ _ h5t
    .rw[zaf n3];exact Sn _ _ h5d
    .have u6:=(hT5 u hu).same Sn;refine u6.upd h6h trivial λz=>?_
     have:=u6.th.dict
     rw[z,h6h]at this;cases this
    .have hum:u∈ts:=YCV hu;have yb:=(hts u hum).tok.inm y hy;rw[zgI (by omega) yb.1];by_cases c:y.m=((x.m.toNat:Nat):Int)
     .rw[if_pos c];exact one htm hum hxm hy (by omega)
     .rw[if_neg c];exact hW5 u hu y hy
    .rw[zcl hx]at hy;have yt:y∈t.ns:=by
      rcases YAm.mp hy with q|q
      .exact YCV q
      .rw[YAg.mp q];exact hxm
     have yb:=Tt.tok.inm y yt;rw[zgI (by omega) yb.1];by_cases c:y.m=((x.m.toNat:Nat):Int)
     .rw[if_pos c];exact one htm htm hxm yt (by omega)
     .rw[if_neg c];rcases YAm.mp hy with q|q
      .exact hV5 y q
      .rw[YAg.mp q]at c;exact absurd (by omega) c
    .exact zeV (Sn _ _ (hN5 y hy)) h6h trivial
   .rintro Y H5 ⟨hts2,q4,q5,q6,rfl,S6,h5t,h5d,h5h,l2,hT5,hW5,hV5,hN5⟩;rw[YAc,YBI]at hV5;refine⟨hts2,_,_,_,_,rfl,S6,h5t,h5h,l2,hT5,λu hu y hy=>?_⟩;rw[zcl ht]at hu;rcases YAm.mp hu with q|q
    .exact hW5 u q y hy
    .rw[YAg.mp q]at hy;exact hV5 y hy
  .rintro Y H4 ⟨hts1,o3,o4,o5,o6,rfl,S5,h4t,h4h,l1,hT,hW⟩;rw[YAc,YBI]at hW;refine⟨_,rfl,_,rfl,a,lh,rs,hts1,rfl,S5.seq ha,R.same S5,SqL.of h4h,by rw[l1];exact VM,hz,λl o hl=>⟨_,rfl,?_⟩⟩;have S6:=S5.trans (zan (o:=o) hl);refine ite2 (λhb=>?_) (λhb=>?_)
   .refine⟨_,rfl,k lh hts1 _ S6 fh (zan hl _ _ h4h) ⟨l1,holds_iff.mp hb,λm m0 m1 mf=>?_⟩⟩;have hm:=(hF.2 m).mpr ⟨m0,m1,by rw[zcB];exact mf⟩;obtain⟨t,htm,e⟩:=YAF.mp hm;obtain⟨x,hx,ex⟩:=mem_keys.mp (hts t htm).tok.start;rw[<-e,<-ex,hW t htm x hx];exact zlX (hts t htm) hx ex
   .refine kN _ S6 λf hf=>hb (holds_iff.mpr λr hr=>?_);have V0:=VM r hr;obtain⟨t,htm,x,hx,ex⟩:=cover V0.1 V0.2.1;have Tt:=hts t htm;have ko:r.qe∈zax t.ns:=(Tt.keys _).mpr (by
     have:=(Tt.keys _).mp (mem_keys.mpr ⟨x,hx,ex⟩)
     rw[zcB]at this ⊢;exact this.trans (Conn.edge hr))
    obtain⟨y,hy,ey⟩:=mem_keys.mp ko;have h1:=zg7 hf (Tt.tok.walk x hx);have h2:=zg7 hf (Tt.tok.walk y hy);have h3:=hf r hr;have e1:=hW t htm x hx;have e2:=hW t htm y hy;rw[ex]at e1 h1;rw[ey]at e2 h2;rw[e1,e2];omega
def zoT:FnScope ["size","runs"] ["size","runs"] (zat zdm):=⟨rfl,rfl,rfl,by decide +kernel,rfl,by decide +kernel,by decide +kernel⟩
def zgb{f:Addr}{fd:FuncData}(F:Fun K "groups" "groups" zdm f fd)(T2:Txt2 mg)(cT:Cal P w K mg base "trees_of" 2 ["size","runs","struck"] (zdN K)):FnOk P w K mg base CX0 3 f fd ["size","runs"] (zoH K):=by
 refine F.ok zoT (λvs H Q E h=>?_) (λcdv A outer s0 H vs Q E hr h=>?_)
 .obtain⟨n,a,rs,rfl,_⟩:=h;rfl
 .obtain⟨n,a,rs,rfl,ha,R,VM,hn,hz,k⟩:=h;refine⟨_,zaD (zbO (zhR rfl (CompScope.of (N:=["size","runs"]) (osc:=zat zdm) (Nc:=["tree"]) (sub:=[none]) (by decide +kernel)) (zeR (zeA cT hr rfl (zah (pv 0) (zah (pv 1) (zah (zd1 zav) zav)))))
   (λ_ _ _ _ _=>zaz (i:=0) zn3 rfl (Or.inl rfl) (Or.inr rfl)) (zdM rfl) zbr (λ_ _ _ _ _=>pif0)
   (λ_ _ _ _ _=>zbA (r:=zo9) (zjs rfl) rfl T2.sorted YCb (zah (pv 0) zav)))),?_⟩
  refine⟨_,rfl,_,rfl,by show 0<=sizeLine;exact YAH _,λle hle=>?_⟩;have S1:=zan (o:=.lst []) hle;refine⟨n,a,le,rs,[],rfl,S1.seq ha,R.same S1,VM,SqL.of zac,by omega,hz,λlt ts H3 S3 hlt hlt3 hts hF htl hfd hdd=>?_⟩;have S4:=S1.trans S3;clear S1 S3 hlt hle hfd;rw[zcB]at hF;refine⟨lt,rfl,⟨_,SqL.of hlt3⟩,λl hl=>?_⟩;have nlt:lt≠l:=zae hlt3 hl;refine ziK (ys:=ts.map trV) (λi xs H2=>∃gs:List GR,xs=gs.map grV/\H2 l=some (.lst xs)/\Same H3 H2/\(∀g∈gs,H2 g.a=some (.lst (g.ms.map V.int))/\zqA n rs g/\H3 g.a=none)/\gs.map GR.st=(ts.take i).map TR.st/\gs.length=i/\i<=ts.length)
   ⟨[],rfl,zac,zan hl,(λg h=>by cases h),rfl,rfl,YAH _⟩ ?_ ?_ ?_
  .rintro i xs H2 hi ⟨gs,rfl,h2,S2,_⟩;exact⟨S2.seq (SqL.of hlt3),h2⟩
  .rintro i x xs H2 hx ⟨gs,rfl,h2,S2,hg,hs,hgl,hi⟩;obtain⟨t,ht,rfl⟩:∃t,ts[i]?=some t/\x=.ref t.d:=by
    rw[YAq]at hx;cases e:ts[i]? with
    |none=>rw[e]at hx;cases hx
    |some t=>rw[e]at hx;exact⟨t,rfl,(Option.some.inj hx).symm⟩
   have hil:i<ts.length:=(YAi.mp ht).1;have X:=hts t (YAz ht);have hnl:=X.tok.len;refine zqO ?_;have ek:(t.ns.map λx=>(x.m,V.ref x.t)).map (·.1)=zax t.ns:=by unfold zax;rw[YAM];rfl
   refine⟨_,rfl,t.d,t.ns.map λx=>(x.m,V.ref x.t),rfl,?_,by rw[YAc];omega,by rw[ek];exact X.tok.nod,λl2 ms hl2 hp hm=>?_⟩
   .rw[YAM];exact S2 _ _ X.th.dict
   .rw[ek]at hm;have n2:l≠l2:=zae h2 hl2;have f2:H3 l2=none:=S2.free hl2;refine⟨zan hl2 _ _ h2,?_,gs++[⟨l2,t.st,ms⟩],by rw[YAx];rfl,zac,λc o e=>?_,λg hgm=>?_,?_,by rw[YAo,hgl];rfl,by omega⟩
    .rw[YAc,YAP];omega
    .rw[zaf (zae e hl)];exact zan hl2 _ _ (S2 c o e)
    .have old:∀c o,c≠l->H2 c=some o->upd (upd H2 l2 (.lst (ms.map V.int))) l (.lst (gs.map grV++[.ref l2])) c=some o:=λc o hc e=>by rw[zaf hc];exact zan hl2 _ _ e
     rcases YAm.mp hgm with h|h
     .obtain⟨g1,g2,g3⟩:=hg g h;refine⟨old _ _ (λz=>?_) g1,g2,g3⟩;rw[z,h2]at g1;cases gs with
      |nil=>cases h
      |cons y ys=>
       cases e:g.ms with
       |nil=>rw[e]at g1;cases g1
       |cons z zs=>rw[e]at g1;cases g1
     .rw[YAg.mp h];refine⟨?_,⟨hp,λj=>?_⟩,f2⟩
      .show upd _ l _ l2=_;rw[zaf n2.symm,zac]
      .show j∈ms↔_;rw[hm j];constructor
       .intro q;obtain⟨x,hx1,rfl⟩:=mem_keys.mp q;have b:=X.tok.inm x hx1;have c:=(X.keys _).mp q;rw[zcB]at c;exact⟨b.1,b.2,c⟩
       .rintro⟨_,_,c⟩;exact(X.keys j).mpr (by rw[zcB];exact c)
    .rw[zcl ht,YAx,YAx,hs];rfl
  .rintro xs H2 ⟨gs,rfl,h2,S2,hg,hs,hgl,_⟩;rw[YAc,YBI]at hs;exact k l gs H2 (S4.trans S2) (S4.free hl) ⟨h2,λg hgm=>⟨(hg g hgm).1,(hg g hgm).2.1⟩,by rw[hs];exact hF⟩ λg hgm=>S4.free (hg g hgm).2.2
def scAcross:FnScope ["first","second","shared"] ["first","second"] (zat zeI):=⟨rfl,rfl,rfl,by decide +kernel,rfl,by decide +kernel,by decide +kernel⟩
def zmy{f:Addr}{fd:FuncData}(F:Fun K "across" "across" zeI f fd)(T:Txt K mg)(T6:mg "min"=none):FnOk P w K mg base CX0 1 f fd ["first","second"] (zhF K):=by
 refine F.ok scAcross (λvs H Q E h=>?_) (λcdv A0 outer s0 H vs Q E hr h=>?_)
 .obtain⟨a,b,A,B,rfl,_⟩:=h;rfl
 .obtain⟨a,b,A,B,rfl,ha,hb,hA,hB,k⟩:=h;have nd:=scAcross.nd;refine⟨_,zam (zbu (i:=2) nd rfl (Or.inl rfl) zaO)
   (zam (zq2 (zj9 YBn (PW.pt (znx (zcx znY (pv 2) (zbA (zii rfl) rfl T6 YCL (zah (zbA zcq rfl T.len YCI (zah (pv 0) zav)) (zah (zbA zcq rfl T.len YCI (zah (pv 1) zav)) zav))) (zcj _))
     (zjy (zcx zpz (zcW ix_tup (pv 0) (pv 2) (λ_ _=>rfl)) (zcW ix_tup (pv 1) (pv 2) (λ_ _=>rfl)) (zcj _)))))
    (zaD (zrH (i:=2) nd rfl (Or.inl rfl) zaO znn))))
   (zaD (zbO (zb8 zjW (zqf (zfs zlO (pv 0) (zg6 (pv 2)) zhI) (zp9 zlK zaO)) (zfs zlO (pv 1) (zg6 (pv 2)) zhI))))),?_⟩
  refine⟨λY' H'=>Y'=[some (.ref a),some (.ref b),some (.int (comm A B:Nat))]/\H'=H,?_,?_⟩
  .refine⟨λm Y H2=>∃j:Nat,Y=[some (.ref a),some (.ref b),some (.int j)]/\H2=H/\j<=A.length/\j<=B.length/\A.take j=B.take j/\m=A.length-j,⟨_,0,rfl,rfl,YAH _,YAH _,rfl,rfl⟩,?_⟩;rintro m Y H2 ⟨j,rfl,rfl,j1,j2,je,rfl⟩;refine⟨_,rfl,_,rfl,a,_,rfl,.inr ha,_,rfl,b,_,rfl,.inr hb,_,_,rfl,_,_,rfl,rfl,_,rfl,?_⟩;rw[YAc,YAc];refine ite2 (λh=>?_) (λh=>?_)
   .have hlt:=YA3 h;have l1:j<A.length:=by split at hlt<;>omega
    have l2:j<B.length:=by split at hlt<;>omega
    refine⟨_,rfl,_,rfl,a,_,_,_,rfl,rfl,ha,zq3 (by omega) (by omega),_,rfl,_,rfl,b,_,_,_,rfl,rfl,hb,zq3 (by omega) (by omega),rfl,_,rfl,?_⟩;refine ite2 (λh2=>?_) (λh2=>?_)
    .have e:=V.int.inj (YA3 h2);refine⟨λY' H'=>Y'=[some (.ref a),some (.ref b),some (.int (j+1:Nat))]/\H'=H2,λY' H' ⟨e1,e2⟩=>⟨_,by omega,j+1,e1,e2,l1,l2,zne je l1 l2 e,rfl⟩,?_⟩;exact⟨_,rfl,_,_,rfl,rfl,rfl,rfl⟩
    .refine⟨?_,rfl⟩
     have:j=comm A B:=zju j1 j2 je (.inr (.inr λz=>h2 (YAw (by
      unfold gI;rw[YAD,YAt,YAt,z]))))
     rw[<-this]
   .refine iteF ⟨?_,rfl⟩
    have:j=comm A B:=zju j1 j2 je (by
     have:¬ (j:Int)<_:=λz=>h (YAw z)
     split at this
     .right;left;omega
     .left;omega)
    rw[<-this]
  .rintro Y H2 ⟨rfl,rfl⟩;obtain⟨c1,c2,_,_⟩:=zex A B;refine⟨_,rfl,_,rfl,(comm A B:Nat),rfl,a,_,rfl,ha,λp1 H1 S1 q1=>?_⟩;rw[zkK c1]at q1;refine⟨_,rfl,p1,_,rfl,rfl,q1,λp2 hp2=>?_⟩;have S2:=S1.trans (zan (o:=.tup ((A.drop (comm A B)).map V.int).reverse) hp2);refine⟨_,rfl,_,rfl,(comm A B:Nat),rfl,b,_,rfl,zcu (tp:=true) S2 hb,λp3 H3 S3 q3=>?_⟩;rw[zkK c2]at q3;refine⟨p2,p3,_,_,rfl,rfl,zcu (tp:=true) S3 (SqT.of zac),q3,?_,λp H' S q=>?_⟩
   .simp only[YCz,YAc,YCw];rw[YAP];omega
   .refine k p H' ((S2.trans S3).trans S) ?_;unfold zbj;rw[YAx,List.map_reverse];exact q
def scRing:FnScope Nr ["size","runs","struck"] (zat zch):=⟨rfl,rfl,rfl,by decide +kernel,rfl,by decide +kernel,by decide +kernel⟩
def zp4{f:Addr}{fd:FuncData}(F:Fun K "open_ring" "open_ring" zch f fd)(T4:mg "enumerate"=none)(cT:Cal P w K mg base "trees_of" 2 ["size","runs","struck"] (zdN K))(cA:Cal P w K mg base "across" 1 ["first","second"] (zhF K)):FnOk P w K mg base CX0 3 f fd ["size","runs","struck"] (zr8 K):=by
 refine F.ok scRing (λvs H Q E h=>?_) (λcdv A outer s0 H vs Q E hr h=>?_)
 .obtain⟨n,a,s,rs,hs,rfl,_⟩:=h;rfl
 .obtain⟨n,a,s,rs,hs,rfl,ha,R,VM,hsq,hn,hz,k⟩:=h;have nd:=scRing.nd;have hr1:Room 1 _:=hr.mono (by decide);have hu:=zoO hr;refine⟨_,zam (zbu (i:=3) nd rfl (Or.inl rfl) zkD)
   (zam (zey YBn rfl (zeR (zeA cT hr rfl (zah (pv 0) (zah (pv 1) (zah (pv 2) zav))))) (zaz (i:=4) nd rfl (Or.inl rfl))
    (zaD (zdc (zmm (pv 3) (pv 4) ⟨rfl,rfl,rfl,rfl⟩))))
   (zam (zey YBn rfl (zny rfl T4 (zah (pv 1) zav)) (zcO (n:=2) rfl (zad (zaz (i:=5) nd rfl (Or.inl rfl)) (zad (zcO (n:=4) rfl (zad (zaz (i:=6) nd rfl (Or.inl rfl)) (zad (zaz (i:=7) nd rfl (Or.inl rfl)) (zad (zaz (i:=8) nd rfl (Or.inl rfl)) (zad (zaz (i:=9) nd rfl (Or.inl rfl)) zaI))))) zaI)))
    (zam (zdE (zhs hu (pv 3) (pv 6) (λ_ _=>rfl)) (zcO (n:=2) rfl (zad (zaz (i:=10) nd rfl (Or.inl rfl)) (zad (zaz (i:=11) nd rfl (Or.inl rfl)) zaI))))
    (zam (zdE (zhs hu (pv 3) (pv 7) (λ_ _=>rfl)) (zcO (n:=2) rfl (zad (zaz (i:=12) nd rfl (Or.inl rfl)) (zad (zaz (i:=13) nd rfl (Or.inl rfl)) zaI))))
    (zaD (zeM (PW.pt (znx (zcx ze3 (pv 9) (pv 2) (by with_unfolding_all rfl)) (zjy (zcx zsA (zb8 zm8 (pv 12) (pv 10)) (pv 8) (zcj _)))))
     (zaD (zbO (zd5 (zah (pv 6) (zah (zb8 zjW (zd5 (zah (pv 5) zav)) (zeA cA hr1 rfl (zah (pv 13) (zah (pv 11) zav)))) zav))))) zbR)))))
   (zaD (zbO zj7)))),?_⟩
  intro dr hdr;have S1:=zan (o:=.dK []) hdr;have hdr1:upd H dr (.dK []) dr=some (.dK (([]:List Nd).map ndK)):=zac;generalize upd H dr (.dK [])=H1 at *;refine⟨_,rfl,_,rfl,_,rfl,n,a,s,rs,hs,rfl,S1.seq ha,R.same S1,VM,S1.seq hsq,by omega,hz,λlt ts H3 S3 hlt hlt3 hts hF htl hfd hdd=>?_⟩;have ndl:lt≠dr:=(zae hdr1 hlt).symm;have ntd:∀t∈ts,t.d≠dr:=λt ht=>(zae hdr1 (hfd t ht)).symm;refine⟨lt,rfl,⟨_,SqL.of hlt3⟩,zfk (K:=K) (a:=lt) (xs:=ts.map trV) (λi Y H4=>∃(o4 o5 o6 o7 o8 o9 o10 o11 o12 o13:Option V),Y=[some (.int n),some (.ref a),some (.ref s),some (.ref dr),o4,o5,o6,o7,o8,o9,o10,o11,o12,o13]/\Same H H4/\H4 lt=some (.lst (ts.map trV))/\H4 dr=some (.dK ((zbc (ts.take i)).map ndK))/\(∀t∈ts,TreeAt K H4 n rs hs t)/\(zax (zbc (ts.take i))).Nodup)
   ⟨_,_,_,_,_,_,_,_,_,_,rfl,S1.trans S3,hlt3,S3 _ _ hdr1,hts,YCJ⟩ (λi Y H4 _ ⟨_,_,_,_,_,_,_,_,_,_,_,_,h,_⟩=>SqL.of h) ?_ ?_⟩
  .rintro i v Y H4 hv ⟨o4,o5,o6,o7,o8,o9,o10,o11,o12,o13,rfl,S4,h4t,h4r,hT,hnd⟩;obtain⟨t,ht,rfl⟩:∃t,ts[i]?=some t/\v=.ref t.d:=by
    rw[YAq]at hv;cases e:ts[i]? with
    |none=>rw[e]at hv;cases hv
    |some t=>rw[e]at hv;exact⟨t,rfl,(Option.some.inj hv).symm⟩
   have htm:=YAz ht;have Tt:=hT t htm;have hdis:∀j∈zax t.ns,j∉zax (zbc (ts.take i)):=λj hj hj2=>by
    obtain⟨x,hx,rfl⟩:=mem_keys.mp hj2;obtain⟨u,hu1,hxu⟩:=mem_reach.mp hx;obtain⟨i',hi'⟩:=YBK hu1;have li:=(YAi.mp hi').1;rw[YBz]at li;rw[YB7 (by omega)]at hi';exact zjX hT hF hi' ht (by omega) (mem_keys.mpr ⟨x,hxu,rfl⟩) hj
   have ereach:zbc (ts.take (i+1))=zbc (ts.take i)++t.ns:=by
    unfold zbc;rw[zcl ht,YDa];simp
   have hlenr:(zbc (ts.take i)).length<=n:=by
    have h:=zaB (xs:=(List.range n).map Int.ofNat) hnd λkk hk=>by
     obtain⟨x,hx,rfl⟩:=mem_keys.mp hk;obtain⟨u,hu1,hxu⟩:=mem_reach.mp hx
     have:=(hT u (YCV hu1)).tok.inm x hxu
     refine YAF.mpr ⟨x.m.toNat,YBc.mpr (by omega),?_⟩;show((x.m.toNat:Nat):Int)=x.m;omega
    unfold zax at h
    simpa using h
   have hnl:=Tt.tok.len;refine⟨_,rfl,dr,rfl,.inl ⟨_,.inl h4r⟩,_,rfl,t.d,_,_,rfl,(ntd t htm).symm,h4r,Tt.th.dict,(by rw[YAc,YAc,YAP];omega),?_⟩;have kk1:∀l:List Nd,(l.map ndK).map (·.1)=(zax l).map Sum.inl:=λl=>by unfold zax;rw[YAM,YAM];rfl
   have emg:mergeK ((zbc (ts.take i)).map ndK) (t.ns.map ndK)=(zbc (ts.take (i+1))).map ndK:=by
    rw[zc3,ereach,YAx]
    .intro kk hkx hkr;rw[kk1]at hkx hkr;obtain⟨x,hx,rfl⟩:=YAF.mp hkx;obtain⟨y,hy,e⟩:=YAF.mp hkr;have e':y=x:=Sum.inl.inj e;exact hdis x hx (e'▸hy)
    .rw[kk1];exact List.Pairwise.map _ (λa b h z=>h (Sum.inl.inj z)) Tt.tok.nod
   rw[emg];refine⟨_,_,_,_,_,_,_,_,_,_,rfl,λc o e=>?_,?_,zac,λu hu1=>(hT u hu1).upd h4r trivial (ntd u hu1),?_⟩
   .rw[zaf (zae e hdr)];exact S4 c o e
   .rw[zaf ndl];exact h4t
   .rw[ereach];unfold zax at hnd hdis ⊢;rw[YAx,YCr];exact⟨hnd,Tt.tok.nod,λx hx y hy e=>hdis y hy (e▸hx)⟩
  .rintro Y H4 ⟨o4,o5,o6,o7,o8,o9,o10,o11,o12,o13,rfl,S4,h4t,h4r,hT,hnd⟩;rw[YAc,YBI]at h4r hnd;have RC:Reach K H4 n rs hs ts:=⟨hT,hF,hnd⟩;have R4:=R.same S4;have node:∀m:Int,0<=m->m<n->∃x∈zbc ts,x.m=m:=λm m0 m1=>by
    obtain⟨t,ht,x,hx,e⟩:=zdS hT hF m0 m1;exact⟨x,mem_reach.mpr ⟨t,ht,hx⟩,e⟩
   have dg:∀(x:Nd),x∈zbc ts->∀H5,Same H4 H5->DGet H5 dr (.int x.m) (some (.ref x.t))/\H5 x.t=some (.tup [.int x.h,.ref x.lt])/\SqT K H5 x.lt (x.line.map V.int)/\x.line.length<=40:=λx hx H5 S5=>by
    have:=DGet.k (k:=Sum.inl x.m) (S5 _ _ h4r)
    rw[zfR hnd hx]at this;obtain⟨t,ht,hxt⟩:=mem_reach.mp hx;have q:=(hT t ht).th.node x hxt;have q1:=(hT t ht).tok.few x hxt;have q2:=(hT t ht).tok.len;exact⟨this,S5 _ _ q.1,zcu (tp:=true) S5 q.2,by omega⟩
   have look:=λ(x:Nd) (hx:x∈zbc ts)=>zcn hnd hx;refine⟨_,rfl,a,_,rfl,S4.seq ha,zk1 (K:=K) (a:=a) (xs:=rs.map runV) (λi Y H5=>∃(o5 o6 o7 o8 o9 o10 o11 o12 o13:Option V),Y=[some (.int n),some (.ref a),some (.ref s),some (.ref dr),o4,o5,o6,o7,o8,o9,o10,o11,o12,o13]/\Same H4 H5/\ringF ((zbc ts).map zbb) hs 0 rs=ringF ((zbc ts).map zbb) hs i (rs.drop i))
    ⟨_,_,_,_,_,_,_,_,_,rfl,zmf _,rfl⟩ (λi Y H5 _ ⟨_,_,_,_,_,_,_,_,_,_,S,_⟩=>(S4.trans S).seq ha) ?_ ?_⟩
   .rintro i x t Y H5 hx ht ⟨o5,o6,o7,o8,o9,o10,o11,o12,o13,rfl,S5,hF5⟩;obtain⟨r,hr,rfl,hrt⟩:=R4.at_ hx;have V0:=VM r (YAz hr);have hil:i<rs.length:=(YAi.mp hr).1;have edrop:rs.drop i=r::rs.drop (i+1):=by rw[YAW hil,(YAi.mp hr).2]
    have S6:=S5.trans (zan (o:=.tup [.int i,.ref r.p]) ht);refine⟨t,_,rfl,SqT.of zac,rfl,_,_,rfl,_,_,rfl,r.p,_,rfl,zkL S6 hrt,rfl,_,_,rfl,_,_,rfl,_,_,rfl,_,_,rfl,rfl,rfl,?_⟩;generalize upd H5 t (.tup [.int i,.ref r.p])=H6 at *;obtain⟨x,hx1,ex⟩:=node r.one V0.1 V0.2.1;obtain⟨y,hy1,ey⟩:=node r.qe V0.2.2.1 V0.2.2.2;obtain⟨x1,x2,x3,x4⟩:=dg x hx1 H6 S6;obtain⟨y1,y2,y3,y4⟩:=dg y hy1 H6 S6;have lx:=look x hx1;have ly:=look y hy1;rw[ex]at x1 lx;rw[ey]at y1 ly;refine⟨_,rfl,_,rfl,dr,_,rfl,x1,x.t,_,rfl,SqT.of x2,rfl,_,_,rfl,_,_,rfl,rfl,?_⟩;refine⟨_,rfl,_,rfl,dr,_,rfl,y1,y.t,_,rfl,SqT.of y2,rfl,_,_,rfl,_,_,rfl,rfl,?_⟩;refine⟨_,rfl,_,rfl,s,_,rfl,.inl ((S4.trans S6).seq hsq),rfl,ziY hs,_,rfl,?_⟩;rw[if_pos rfl,zkr];rw[edrop,zeH,lx,ly]at hF5;cases hc:hs.contains r.hand with
    |true=>
     rw[if_neg (λz=>by rw[hc]at z;cases z.1)]at hF5;exact iteF (iteF ⟨_,_,_,_,_,_,_,_,_,rfl,S6,hF5⟩)
    |false=>
     refine iteT ⟨_,rfl,_,rfl,_,_,rfl,rfl,_,rfl,rfl,_,rfl,?_⟩;by_cases e:y.h-x.h=r.rise
     .rw[if_neg (λz=>z.2 e)]at hF5;exact zsT (by show V.int (y.h-x.h)=_;rw[e]) ⟨_,_,_,_,_,_,_,_,_,rfl,S6,hF5⟩
     .rw[if_pos ⟨hc,e⟩]at hF5;refine ite2 (λ_=>?_) (λh2=>absurd (nb2 h2) λz=>e (V.int.inj z));refine⟨_,rfl,_,rfl,by show 1<=sizeLine;decide,λtq htq=>?_⟩;have S7:=zan (o:=.tup [.int i]) htq;refine⟨_,rfl,_,rfl,y.lt,x.lt,y.line,x.line,rfl,zcu (tp:=true) S7 y3,zcu (tp:=true) S7 x3,by omega,by omega,λp7 H7 S8 q7=>?_⟩;have hal:=zgO y.line x.line;refine⟨tq,p7,_,_,rfl,rfl,zcu (tp:=true) S8 (SqT.of zac),q7,?_,λp8 H8 S9 q8=>?_⟩
      .rw[YAc,YAP];show 1+_<=_;omega
      .refine⟨by show 2<=sizeLine;decide,λp9 hp9=>?_⟩;have SA:=zan (o:=.tup [.int r.one,.ref p8]) hp9;have SB:=(((S6.trans S7).trans S8).trans S9).trans SA;refine k _ ts _ (S4.trans SB) (RC.same SB) ?_;rw[hF5];exact⟨p9,p8,rfl,zac,zcu (tp:=true) SA q8⟩
   .rintro Y H5 ⟨o5,o6,o7,o8,o9,o10,o11,o12,o13,rfl,S5,hF5⟩;refine k .non ts H5 (S4.trans S5) (RC.same S5) ?_;rw[hF5,YAc,YBW];rfl
end
end Fen
namespace Fd
open PySem L2
section
variable{P:Program}{w:World}{K:qq}{mg:Str->Option Value}{base:Heap}
theorem zdf{f:Addr}{fd:FuncData}(F:Fun K "some_line" "some_line" Fen.zcb f fd)(cF:Fen.Cal P w K mg base "steps_from" 1 ["size","runs","struck"] (Fen.zhG K))(cR:Fen.Cal P w K mg base "tree_from" 1 ["start","steps"] (Fen.zkA K)):FnOk P w K mg base CX0 2 f fd ["size","runs","struck","one","other"] (spD K 5 zc0):=by
 refine(Fen.zdf F cF cR).imp λvs H Q E ⟨β,G,ds,gh,bx,hv,hl,P',q,hP⟩=>?_;obtain⟨n,a,b,rs,hs,one,qe,rfl,VM,h0,h1,hn,hz,k⟩:=q;obtain⟨v1,ws1,rfl,e1,hv⟩:=hv;obtain⟨v2,ws2,rfl,e2,hv⟩:=hv;obtain⟨v3,ws3,rfl,e3,hv⟩:=hv;obtain⟨v4,ws4,rfl,e4,hv⟩:=hv;obtain⟨v5,ws5,rfl,e5,hv⟩:=hv;cases hv;cases e1;cases e4;cases e5;obtain⟨x,vs,rfl,gx,hx⟩:=zeQ e2;obtain⟨y,us,rfl,gy,hy⟩:=zeQ e3;obtain⟨rs',rfl,R,er⟩:=zdr hx;rw[reps_ints]at hy;subst hy;refine⟨n,x,y,rs',hs,one,qe,rfl,SqL.of (gh _ _ gx),R.same gh,er.symm.inMarks VM,SqL.of (gh _ _ gy),h0,h1,hn,by rw[er.len];exact hz,λv H' S SL=>?_⟩;obtain⟨ns,a1,a2,a3,a4⟩:=SL;have st:=zdg (nl:=λ_=>False) gh bx S (λa z=>z.elim);rcases a4 with⟨rfl,k2⟩|⟨z,hz,ez,rfl,q⟩
 .exact hP _ (k none (er.lineIs ⟨ns,a1,a2,a3,.inl ⟨rfl,k2⟩⟩)) _ H' _ st rfl
 .exact hP _ (k (some z.line) (er.lineIs ⟨ns,a1,a2,a3,.inr ⟨z,hz,ez,rfl⟩⟩)) _ H' _ st (zi9 (zfS (gh.trans S) q))
def ziB{f:Addr}{fd:FuncData}(F:Fun K "open_ring" "open_ring" Fen.zch f fd)(T4:mg "enumerate"=none)(cT:Fen.Cal P w K mg base "trees_of" 2 ["size","runs","struck"] (Fen.zdN K))(cA:Fen.Cal P w K mg base "across" 1 ["first","second"] (Fen.zhF K)):FnOk P w K mg base CX0 3 f fd ["size","runs","struck"] (spD K 3 zcP):=by
 refine(Fen.zp4 F T4 cT cA).imp λvs H Q E ⟨β,G,ds,gh,bx,hv,hl,P',q,hP⟩=>?_;obtain⟨n,a,b,rs,hs,rfl,VM,hn,hz,k⟩:=q;obtain⟨v1,ws1,rfl,e1,hv⟩:=hv;obtain⟨v2,ws2,rfl,e2,hv⟩:=hv;obtain⟨v3,ws3,rfl,e3,hv⟩:=hv;cases hv;cases e1;obtain⟨x,vs,rfl,gx,hx⟩:=zeQ e2;obtain⟨y,us,rfl,gy,hy⟩:=zeQ e3;obtain⟨rs',rfl,R,er⟩:=zdr hx;rw[reps_ints]at hy;subst hy;refine⟨n,x,y,rs',hs,rfl,SqL.of (gh _ _ gx),R.same gh,er.symm.inMarks VM,SqL.of (gh _ _ gy),hn,by rw[er.len];exact hz,λv ts H' S Re Rr=>?_⟩;have st:=zdg (nl:=λ_=>False) gh bx S (λa z=>z.elim);have key:=k _ (er.ringIs ⟨K,H',ts,Re,rfl⟩);refine hP _ key _ H' _ st ?_;cases z:Fen.ringF ((Fen.zbc ts).map Fen.zbb) hs 0 rs' with
 |none=>rw[z]at Rr;exact Rr
 |some ml=>
  rw[z]at Rr;obtain⟨p,lt,rfl,hp,hq⟩:=Rr;exact⟨p,_,rfl,zfS (gh.trans S) (SqT.of hp),_,_,rfl,rfl,_,_,rfl,zi9 (zfS (gh.trans S) hq),rfl⟩
theorem zjz{f:Addr}{fd:FuncData}(F:Fun K "flat" "flat" Fen.zjE f fd)(cT:Fen.Cal P w K mg base "trees_of" 2 ["size","runs","struck"] (Fen.zdN K))(cH:Fen.Cal P w K mg base "holds" 1 ["runs","heights"] (Fen.zjx K)):FnOk P w K mg base CX0 3 f fd ["size","runs"] (spD K 2 ze0):=by
 refine(Fen.zjz F cT cH).imp λvs H Q E ⟨β,G,ds,gh,bx,hv,hl,P',q,hP⟩=>?_;obtain⟨n,a,rs,rfl,VM,hn,hz,k1,k2⟩:=q;obtain⟨v1,ws1,rfl,e1,hv⟩:=hv;obtain⟨v2,ws2,rfl,e2,hv⟩:=hv;cases hv;cases e1;obtain⟨x,vs,rfl,gx,hx⟩:=zeQ e2;obtain⟨rs',rfl,R,er⟩:=zdr hx;refine⟨n,x,rs',rfl,SqL.of (gh _ _ gx),R.same gh,er.symm.inMarks VM,hn,by rw[er.len];exact hz,λH' S no=>?_,λl hts H' S hl' hl2 fo=>?_⟩
 .exact hP _ (k1 (er.noHts no)) _ H' _ (zdg (nl:=λ_=>False) gh bx S (λa z=>z.elim)) rfl
 .exact hP _ (k2 hts (er.flatOk fo)) _ H' _ (zdg (nl:=λa=>a=l) gh bx S (λa z=>z▸hl')) ⟨l,_,rfl,zfC (gh.trans S) rfl hl2,λ_=>hl',reps_ints.mpr rfl⟩
theorem zgb{f:Addr}{fd:FuncData}(F:Fun K "groups" "groups" Fen.zdm f fd)(T2:Fen.Txt2 mg)(cT:Fen.Cal P w K mg base "trees_of" 2 ["size","runs","struck"] (Fen.zdN K)):FnOk P w K mg base CX0 3 f fd ["size","runs"] (spD K 2 zfr):=by
 refine(Fen.zgb F T2 cT).imp λvs H Q E ⟨β,G,ds,gh,bx,hv,hl,P',q,hP⟩=>?_;obtain⟨n,a,rs,rfl,VM,hn,hz,k⟩:=q;obtain⟨v1,ws1,rfl,e1,hv⟩:=hv;obtain⟨v2,ws2,rfl,e2,hv⟩:=hv;cases hv;cases e1;obtain⟨x,vs,rfl,gx,hx⟩:=zeQ e2;obtain⟨rs',rfl,R,er⟩:=zdr hx;refine⟨n,x,rs',rfl,SqL.of (gh _ _ gx),R.same gh,er.symm.inMarks VM,hn,by rw[er.len];exact hz,λl gs H' S hl' GA hg=>?_⟩;have gg:=gh.trans S;have st:=zdg (nl:=λa=>a=l\/a∈gs.map Fen.GR.a) gh bx S (λa z=>by
  rcases z with rfl|z
  .exact hl'
  .obtain⟨g,h1,rfl⟩:=YAF.mp z;exact hg g h1)
 refine hP _ (k (gs.map Fen.GR.ms) (er.grpsIs ⟨gs,λg hg=>(GA.rows g hg).2,GA.firsts,rfl⟩)) _ H' _ st ⟨l,_,rfl,zfC gg (.inl rfl) GA.lst,λ_=>hl',?_⟩;rw[YAM];have go:∀ds:List Fen.GR,(∀g∈ds,g∈gs)->Reps ⟨K,β,H,G⟩ (zff G H' λa=>a=l\/a∈gs.map Fen.GR.a) (ds.map ((λg=>D.lst true (g.map D.int))∘Fen.GR.ms)) (ds.map Fen.grV):=by
  intro ds
  induction ds with
  |nil=>intro _;rfl
  |cons g ds ih=>
   intro hm;refine⟨_,_,rfl,⟨g.a,_,rfl,zfC gg (.inr (YAG (hm g YAh))) (GA.rows g (hm g YAh)).1,λ_=>hg g (hm g YAh),reps_ints.mpr rfl⟩,ih λg' h'=>hm g' (YAj _ h')⟩
 exact go gs λg h=>h
end
end Fd
namespace Fd
open PySem L2 Fen
section
variable{P:Program}{w:World}{K:qq}{mg:Str->Option Value}{base:Heap}
local macro_rules|`(tactic| decreasing_trivial)=>`(tactic| first|assumption|exact Bt.len ‹_›|exact Bt.range ‹_›|exact Bt.list ‹_›|exact Bt.isinstance ‹_›|exact Bt.all ‹_›|exact Bt.tuple ‹_›|exact Bt.sorted ‹_›|exact Bt.set ‹_›|exact Bt.zip ‹_›|exact Bt.enumerate ‹_›|exact Bt.any ‹_›|exact Bt.min ‹_›|exact Bt.max ‹_›|exact Bt.int ‹_›|exact Bt.bool ‹_›|exact Bt.str ‹_›|exact Room.mono ‹_› (by first|decide|omega)|exact Room.units ‹_›|exact YCm|exact PyProof.Rows.boot_tuple|exact PyProof.Rows.boot_int|exact PyProof.Rows.boot_bool|exact PyProof.Rows.boot_str|decide|exact ndB_of (by kernel_rfl))
def zjZ(F:Fun K "hands_of" "hands_of" zeC f fd)(T:Bt mg):FnOk P w K mg base CX0 1 f fd ["runs"] (spD K 1 zbt):=
 zby (N:=["runs"]) F λ_ _=>
 (zar (zaA (DF.de (znU (Nc:=["one","other","rise","hand"]) (.tp 4 (.cons (.nm 0) (.cons (.nm 1) (.cons (.nm 2) (.cons (.nm 3) .nil))))) (zbi (dv 0)) (zbN (n:=4) rfl (zad (gn 0) (zad (gn 1) (zad (gn 2) (zad (gn 3) zaI))))) zaU (dv 3)))))
def zpB(F:Fun K "left" "left" zml f fd)(T:Bt mg):FnOk P w K mg base CX0 1 f fd ["runs","struck"] (spD K 2 zd0):=
 zby (N:=["runs","struck"]) F λ_ _=>
 (zar (zaA (DF.de (zaV (Nc:=["one","other","rise","hand","struck"]) (.tp 4 (.cons (.nm 0) (.cons (.nm 1) (.cons (.nm 2) (.cons (.nm 3) .nil))))) (zbi (dv 0)) (zbN (n:=4) rfl (zad (gn 0) (zad (gn 1) (zad (gn 2) (zad (gn 3) zaI))))) (zke (zg5 (dv 3) (dv 4))) (zbI (zaa (dv 0) (zaa (dv 1) (zaa (dv 2) (zaa (dv 3) zaj)))))))))
def zhO(F:Fun K "holds" "holds" zd9 f fd)(T:Bt mg):FnOk P w K mg base CX0 1 f fd ["runs","heights"] (spD K 2 zqC):=
 zby (N:=["runs","heights"]) F λ_ _=>
 (zar (zaA (zf8 (zaa (DF.de (zaV (Nc:=["one","other","rise","hand","heights"]) (.tp 4 (.cons (.nm 0) (.cons (.nm 1) (.cons (.nm 2) (.cons (.nm 3) .nil))))) (zbi (dv 0)) (zbN (n:=4) rfl (zad (gn 0) (zad (gn 1) (zad (gn 2) (zad (gn 3) zaI))))) zaU (d_eq (zfj (zaK 4 (dv 1)) (zaK 4 (dv 0))) (dv 2)))) zaj))))
def zjw(F:Fun K "lists_of" "lists_of" zec f fd)(T:Bt mg):FnOk P w K mg base CX0 1 f fd ["hands","length"] (spD K 2 zbY):=
 zby (N:=["hands","length","lists","turn"]) F λ_ _=>
 (zag (zba 2 (DF.de (zcf (zaa (DF.de (zcf zaj)) zaj))))
  (zag (zc7 (.nm 3) (zdL (dv 1)) (gn 3) (zar (zpv 2 (Nc:=["chosen","hand","hands"]) (.nm 0) (.nm 1) (zbi (dv 2)) (gn 0) (zbi (dv 2)) (gn 1) (zke (DW.dt (w_or (zcp (zck (dv 0))) (zcQ (t_lt (zaK 0 (zqr zai)) (dv 1)))))) (zco (dv 0) (DF.de (zcf (zaa (dv 1) zaj)))))))
  (zar (zaA (dv 2)))))
def zhy(F:Fun K "false_sets" "false_sets" zcL f fd)(T:Bt mg)(oi:Cal P w K mg base "hands_of" 1 ["runs"] (spD K 1 zbt))(ot:Cal P w K mg base "lists_of" 1 ["hands","length"] (spD K 2 zbY))(oz:Cal P w K mg base "flat" 3 ["size","runs"] (spD K 2 ze0))(oA:Cal P w K mg base "left" 1 ["runs","struck"] (spD K 2 zd0)):FnOk P w K mg base CX0 4 f fd ["size","runs","many"] (spD K 3 zb1):=
 zby (N:=["size","runs","many","hands","found","length","struck"]) F λ_ _=>
 (zag (zba 3 (zao oi (zaa (dv 1) zaj)))
  (zag (ziR 4 (zcf zaj))
  (zag (zc7 (.nm 5) (zdL (zco (zrh (zaa (dv 2) (zaa (zbP 3) zaj))) zai)) (gn 5) (zar (zc7 (.nm 6) (zbi (zao ot (zaa (dv 3) (zaa (dv 5) zaj)))) (gn 6) (zar (s_if (zkQ (zao oz (zaa (dv 0) (zaa (zao oA (zaa (dv 1) (zaa (dv 6) zaj))) zaj)))) (zar (zle 4 (dv 6))) za8)))))
  (zar (zja 4 (zaA (dv 4)))))))
def zli(F:Fun K "reading" "reading" zem f fd)(T:Bt mg)(oi:Cal P w K mg base "hands_of" 1 ["runs"] (spD K 1 zbt))(ot:Cal P w K mg base "lists_of" 1 ["hands","length"] (spD K 2 zbY))(oz:Cal P w K mg base "flat" 3 ["size","runs"] (spD K 2 ze0))(oA:Cal P w K mg base "left" 1 ["runs","struck"] (spD K 2 zd0)):FnOk P w K mg base CX0 4 f fd ["size","runs","many"] (spD K 3 zdi):=
 zby (N:=["size","runs","many","hands","length","struck","heights"]) F λ_ _=>
 (zag (zba 3 (zao oi (zaa (dv 1) zaj)))
  (zag (zc7 (.nm 4) (zdL (zco (zrh (zaa (dv 2) (zaa (zbP 3) zaj))) zai)) (gn 4) (zar (zc7 (.nm 5) (zbi (zao ot (zaa (dv 3) (zaa (dv 4) zaj)))) (gn 5) (zag (zba 6 (zao oz (zaa (dv 0) (zaa (zao oA (zaa (dv 1) (zaa (dv 5) zaj))) zaj))))
  (zar (s_if (zkQ (dv 6)) (zar (zaA (zbI (zaa (dv 5) (zaa (dv 6) zaj))))) za8))))))
  (zar (zaA ziw))))
def zho(F:Fun K "line_hands" "line_hands" zcD f fd)(T:Bt mg)(oi:Cal P w K mg base "hands_of" 1 ["runs"] (spD K 1 zbt)):FnOk P w K mg base CX0 2 f fd ["runs","line"] (spD K 2 zbG):=
 zby (N:=["runs","line"]) F λ_ _=>
 (zar (zaA (zao oi (zaa (DF.de (zaV (Nc:=["number","runs"]) (.nm 0) (zbi (dv 1)) (gn 0) zaU (zaK 1 (dv 0)))) zaj))))
theorem zc4(F:Fun K "paper_without" "paper_without" zbL f fd)(hm:mg "paper_without"=some (.ref f))(hb:Binds K fd ["size","runs","many","struck","ends"] [])(T:Bt mg)(oI:Cal P w K mg base "open_ring" 3 ["size","runs","struck"] (spD K 3 zcP))(oC:Cal P w K mg base "line_hands" 2 ["runs","line"] (spD K 2 zbG))(oJ:Cal P w K mg base "some_line" 2 ["size","runs","struck","one","other"] (spD K 5 zc0)):∀n,FnOk P w K mg base CX0 (4+n) f fd ["size","runs","many","struck","ends"] (spD K 5 (zaC n))
 |0=>⟨λvs H Q E ⟨β,G,ds,_,_,_,h,_⟩=>h,λA outer s H args us vs Q E _ _ _ _ ⟨β,G,ds,_,_,_,_,P,z,_⟩=>z.elim⟩
 |n+1=>by
  have cSelf:Cal P w K mg base "paper_without" (4+n) ["size","runs","many","struck","ends"] (spD K 5 (zaC n)):=Cal.of F (zc4 F hm hb T oI oC oJ n) hm hb;exact zby (N:=["size","runs","many","struck","ends","kind","found","one","other","mark","line","hands","rest"]) (k:=4+n) F λ_ _=>
   (zag (zba 5 zbQ)
  (zag (zba 6 (zao oI (zaa (dv 0) (zaa (dv 1) (zaa (dv 3) zaj)))))
  (zag (s_if (zou (dv 6)) (zag (zba 5 zbQ)
  (zag (zhJ (.tp 2 (.cons (.nm 7) (.cons (.nm 8) .nil))) (dv 4) (zbN (n:=2) rfl (zad (gn 7) (zad (gn 8) zaI))))
  (zar (zba 6 (zbI (zaa (dv 7) (zaa (zao oJ (zaa (dv 0) (zaa (dv 1) (zaa (dv 3) (zaa (dv 7) (zaa (dv 8) zaj)))))) zaj))))))) za8)
  (zag (zhJ (.tp 2 (.cons (.nm 9) (.cons (.nm 10) .nil))) (dv 6) (zbN (n:=2) rfl (zad (gn 9) (zad (gn 10) zaI))))
  (zag (zba 11 (d_if (t_gt (dv 2) zai) (zao oC (zaa (dv 1) (zaa (dv 10) zaj))) (DF.de (zcf zaj))))
  (zag (zps 12 (Nc:=["hand","size","runs","ends","many","struck"]) (.nm 0) (zbi (dv 11)) (gn 0) zaU (zbI (zaa (dv 0) (zaa (zao cSelf (zaa (dv 1) (zaa (dv 2) (zaa (zfj (dv 4) zai) (zaa (zco (dv 5) (DF.de (zcf (zaa (dv 0) zaj)))) (zaa (dv 3) zaj)))))) zaj))))
  (zar (zaA (zbI (zaa (dv 5) (zaa (dv 9) (zaa (dv 10) (zaa (zma (zaa (dv 12) zaj)) zaj)))))))))))))
def zhn(F:Fun K "some_paper" "some_paper" zcA f fd)(T:Bt mg)(oW:Cal P w K mg base "paper_without" (4+6) ["size","runs","many","struck","ends"] (spD K 5 (zaC 6))):FnOk P w K mg base CX0 11 f fd ["size","runs","many","one","other"] (spD K 5 zbq):=
 zby (N:=["size","runs","many","one","other"]) F λ_ _=>
 (zar (zaA (zao oW (zaa (dv 0) (zaa (dv 1) (zaa (dv 2) (zaa (DF.de (zcf zaj)) (zaa (zbI (zaa (dv 3) (zaa (dv 4) zaj))) zaj))))))))
def zhX(F:Fun K "none_paper" "none_paper" zcC f fd)(T:Bt mg)(oj:Cal P w K mg base "some_paper" 11 ["size","runs","many","one","other"] (spD K 5 zbq))(oT:Cal P w K mg base "reading" 4 ["size","runs","many"] (spD K 3 zdi)):FnOk P w K mg base CX0 12 f fd ["size","runs","many"] (spD K 3 zb0):=
 zby (N:=["size","runs","many"]) F λ_ _=>
 (zag (s_if (zkQ (zao oT (zaa (dv 0) (zaa (dv 1) (zaa (dv 2) zaj))))) (zar (zaA ziw)) za8)
  (zar (zaA (zao oj (zaa (dv 0) (zaa (dv 1) (zaa (dv 2) (zaa zai (zaa zai zaj)))))))))
def zmU(F:Fun K "lifted" "lifted" zfY f fd)(T:Bt mg)(oU:Cal P w K mg base "groups" 3 ["size","runs"] (spD K 2 zfr)):FnOk P w K mg base CX0 4 f fd ["size","runs","heights","mark"] (spD K 4 zef):=
 zby (N:=["size","runs","heights","mark","higher","group","each"]) F λ_ _=>
 (zag (ziR 4 (zgW (dv 2)))
  (zag (zc7 (.nm 5) (zbi (zao oU (zaa (dv 0) (zaa (dv 1) zaj)))) (gn 5) (zar (s_if (t_in (dv 3) (dv 5)) (zar (zc7 (.nm 6) (zbi (dv 5)) (gn 6) (zar (znB 4 (dv 6) zai)))) za8)))
  (zar (zja 4 (zaA (dv 4))))))
def zc8(F:Fun K "readings_to_compare" "readings_to_compare" za5 f fd)(T:Bt mg)(oM:Cal P w K mg base "false_sets" 4 ["size","runs","many"] (spD K 3 zb1))(oA:Cal P w K mg base "left" 1 ["runs","struck"] (spD K 2 zd0))(oz:Cal P w K mg base "flat" 3 ["size","runs"] (spD K 2 ze0))(oV:Cal P w K mg base "lifted" 4 ["size","runs","heights","mark"] (spD K 4 zef)):FnOk P w K mg base CX0 5 f fd ["size","runs","many","mark"] (spD K 4 zaR):=
 zby (N:=["size","runs","many","mark","found","false","kept","heights"]) F λ_ _=>
 (zag (ziR 4 (zcf zaj))
  (zag (zc7 (.nm 5) (zbi (zao oM (zaa (dv 0) (zaa (dv 1) (zaa (dv 2) zaj))))) (gn 5) (zag (zba 6 (zao oA (zaa (dv 1) (zaa (dv 5) zaj))))
  (zag (zba 7 (zao oz (zaa (dv 0) (zaa (dv 6) zaj))))
  (zag (zle 4 (zbI (zaa (DF.de (zgW (dv 5))) (zaa (dv 7) zaj))))
  (zar (zle 4 (zbI (zaa (DF.de (zgW (dv 5))) (zaa (zao oV (zaa (dv 0) (zaa (dv 6) (zaa (dv 7) (zaa (dv 3) zaj))))) zaj)))))))))
  (zar (zja 4 (zaA (dv 4))))))
def zgc(F:Fun K "rise_between" "rise_between" zb5 f fd)(T:Bt mg):FnOk P w K mg base CX0 1 f fd ["heights","one","other"] (spD K 3 zbg):=
 zby (N:=["heights","one","other"]) F λ_ _=>
 (zar (zaA (zfj (zaK 0 (dv 2)) (zaK 0 (dv 1)))))
def zp8(F:Fun K "told" "told" zmO f fd)(T:Bt mg)(om:Cal P w K mg base "readings_to_compare" 5 ["size","runs","many","mark"] (spD K 4 zaR))(ou:Cal P w K mg base "rise_between" 1 ["heights","one","other"] (spD K 3 zbg))(oj:Cal P w K mg base "some_paper" 11 ["size","runs","many","one","other"] (spD K 5 zbq))(oN:Cal P w K mg base "none_paper" 12 ["size","runs","many"] (spD K 3 zb0)):FnOk P w K mg base CX0 13 f fd ["size","runs","many","one","other"] (spD K 5 ze9):=
 zby (N:=["size","runs","many","one","other","found","false","heights","rise","unlike","others"]) F λ_ _=>
 (zag (zba 5 (zao om (zaa (dv 0) (zaa (dv 1) (zaa (dv 2) (zaa (dv 4) zaj))))))
  (zag (s_if (zcp (zck (dv 5))) (zar (zaA (zbI (zaa zbQ (zaa (zao oN (zaa (dv 0) (zaa (dv 1) (zaa (dv 2) zaj)))) zaj))))) za8)
  (zag (zhJ (.tp 2 (.cons (.nm 6) (.cons (.nm 7) .nil))) (zaK 5 zai) (zbN (n:=2) rfl (zad (gn 6) (zad (gn 7) zaI))))
  (zag (zba 8 (zao ou (zaa (dv 7) (zaa (dv 3) (zaa (dv 4) zaj)))))
  (zag (zc7 (.tp 2 (.cons (.nm 9) (.cons (.nm 10) .nil))) (zbi (dv 5)) (zbN (n:=2) rfl (zad (gn 9) (zad (gn 10) zaI))) (zar (s_if (t_ne (zao ou (zaa (dv 10) (zaa (dv 3) (zaa (dv 4) zaj)))) (dv 8)) (zar (zaA (zbI (zaa zbQ (zaa (zbI (zaa (dv 6) (zaa (dv 7) zaj))) (zaa (zbI (zaa (dv 9) (zaa (dv 10) zaj))) zaj)))))) za8)))
  (zar (zaA (zbI (zaa zbQ (zaa (dv 8) (zaa (zao oj (zaa (dv 0) (zaa (dv 1) (zaa (dv 2) (zaa (dv 3) (zaa (dv 4) zaj)))))) zaj)))))))))))
def zhS(F:Fun K "_law_great" "_law_great" zh7 f fd)(T:Bt mg)(og:Cal P w K mg base "_law_take" 1 ["_law_box_here","_law_many"] (spD K 2 zak)):FnOk P w K mg base CX0 2 f fd ["_law_box_here"] (spD K 1 zbE):=
 zby (N:=["_law_box_here","_law_ways","_law_found","_law_k"]) F λ_ _=>
 (zag (zba 1 (zao og (zaa (dv 0) (zaa zai zaj))))
  (zag (s_if (t_eq (dv 1) zai) (zar (zaA (zao og (zaa (dv 0) (zaa zai zaj))))) za8)
  (zag (s_if (t_eq (dv 1) zai) (zar (zaA (zao og (zaa (dv 0) (zaa zai zaj))))) za8)
  (zag (zba 2 zai)
  (zag (zc7 (.nm 3) (zdL zai) (gn 3) (zar (zba 2 (zco (zn5 (dv 2) zai) (zao og (zaa (dv 0) (zaa zai zaj)))))))
  (zar (zaA (dv 2))))))))
theorem ze2(F:Fun K "_law_same" "_law_same" zmN f fd)(hm:mg "_law_same"=some (.ref f))(hb:Binds K fd ["_law_found","_law_due"] [])(T:Bt mg) :∀n,FnOk P w K mg base CX0 (1+n) f fd ["_law_found","_law_due"] (spD K 2 (za7 n))
 |0=>⟨λvs H Q E ⟨β,G,ds,_,_,_,h,_⟩=>h,λA outer s H args us vs Q E _ _ _ _ ⟨β,G,ds,_,_,_,_,P,z,_⟩=>z.elim⟩
 |n+1=>by
  have cSelf:Cal P w K mg base "_law_same" (1+n) ["_law_found","_law_due"] (spD K 2 (za7 n)):=Cal.of F (ze2 F hm hb T n) hm hb;exact zby (N:=["_law_found","_law_due"]) (k:=1+n) F λ_ _=>
   (zag (s_if (DW.dt (w_or (zck (zbS (dv 1))) (zcQ (zck (zbS (dv 1)))))) (zag (s_if (DW.dt (w_or (t_ne (zbS (dv 0)) (zbS (dv 1))) (zcQ (t_ne (zbS (dv 0)) (zbS (dv 1)))))) (zar (zaA zcv)) za8)
  (zar (zaA (zg9 (d_eq (zbP 0) (zbP 1)) (zhm (zf8 (zaa (DF.de (zaV (Nc:=["_law_one","_law_other"]) (.tp 2 (.cons (.nm 0) (.cons (.nm 1) .nil))) (zs0 (dv 0) (dv 1)) (zbN (n:=2) rfl (zad (gn 0) (zad (gn 1) zaI))) zaU (zao cSelf (zaa (dv 0) (zaa (dv 1) zaj))))) zaj))))))) za8)
  (zag (s_if (DW.dt (w_or (zou (dv 0)) (zcQ (zou (dv 1))))) (zar (zaA (zg9 (zrx (dv 0)) (zhm (zrx (dv 1)))))) za8)
  (zag (s_if (DW.dt (w_or (t_ne (zbS (dv 0)) (zbS (dv 1))) (zcQ (t_ne (zbS (dv 0)) (zbS (dv 1)))))) (zar (zaA zcv)) za8)
  (zar (zaA (zg9 (d_eq (zbS (dv 0)) (zbS (dv 1))) (zhm (d_eq (dv 0) (dv 1)))))))))
def zfN(F:Fun K "_law_numbers" "_law_numbers" zdZ f fd)(T:Bt mg):FnOk P w K mg base CX0 1 f fd ["_law_found","_law_size"] (spD K 2 zbf):=
 zby (N:=["_law_found","_law_size"]) F λ_ _=>
 (zag (s_if (DW.dt (w_or (zcp (zck (zbS (dv 0)))) (zcQ (t_ne (zbP 0) (dv 1))))) (zar (zaA zcv)) za8)
  (zar (zaA (zf8 (zaa (DF.de (zaV (Nc:=["_law_one"]) (.nm 0) (zbi (dv 0)) (gn 0) zaU (zg9 (zbS (dv 0)) (zhm (zqK (zbS (dv 0))))))) zaj)))))
def zeh(F:Fun K "_law_other_rise" "_law_other_rise" zi0 f fd)(T:Bt mg)(og:Cal P w K mg base "_law_take" 1 ["_law_box_here","_law_many"] (spD K 2 zak))(oD:Cal P w K mg base "_law_great" 2 ["_law_box_here"] (spD K 1 zbE)):FnOk P w K mg base CX0 3 f fd ["_law_box_here","_law_rise"] (spD K 2 za9):=
 zby (N:=["_law_box_here","_law_rise"]) F λ_ _=>
 (zar (zaA (zco (dv 1) (d_ix (DF.de (zcf (zaa zai (zaa (zqr zai) (zaa (zco zai (zao og (zaa (dv 0) (zaa zai zaj)))) (zaa (zao oD (zaa (dv 0) zaj)) (zaa (zqr (zao oD (zaa (dv 0) zaj))) zaj))))))) (zao og (zaa (dv 0) (zaa zai zaj)))))))
def zh3(F:Fun K "_law_world" "_law_world" zi3 f fd)(T:Bt mg)(og:Cal P w K mg base "_law_take" 1 ["_law_box_here","_law_many"] (spD K 2 zak))(ox:Cal P w K mg base "_law_other_rise" 3 ["_law_box_here","_law_rise"] (spD K 2 za9)):FnOk P w K mg base CX0 4 f fd ["_law_box_here","_law_most_marks","_law_most_hands","_law_most_runs"] (spD K 4 zbH):=
 zby (N:=["_law_box_here","_law_most_marks","_law_most_hands","_law_most_runs","_law_size","_law_hands_here","_law_wide","_law_heights","_law_names","_law_false","_law_bad","_law_runs","_law_k","_law_one","_law_other","_law_hand","_law_rise"]) F λ_ _=>
 (zag (zba 4 (zco zai (zao og (zaa (dv 0) (zaa (dv 1) zaj)))))
  (zag (zba 5 (zco zai (zao og (zaa (dv 0) (zaa (dv 2) zaj)))))
  (zag (zba 6 (d_ix (DF.de (zcf (zaa zai (zaa zai (zaa (zsO zai zai) zaj))))) (zao og (zaa (dv 0) (zaa zai zaj)))))
  (zag (zps 7 (Nc:=["_law_k","_law_box_here","_law_wide"]) (.nm 0) (zdL (dv 4)) (gn 0) zaU (zao og (zaa (dv 1) (zaa (dv 2) zaj))))
  (zag (zba 8 (DF.de (zaV (Nc:=["_law_k","_law_box_here"]) (.nm 0) (zdL (dv 5)) (gn 0) zaU (d_if (t_eq (zao og (zaa (dv 1) (zaa zai zaj))) zai) (zqT (zn5 zai (dv 0)) zai) (dv 0)))))
  (zag (zba 9 (DF.de (zf9 (DF.de (zaV (Nc:=["_law_k","_law_names","_law_box_here","_law_hands_here"]) (.nm 0) (zdL (zao og (zaa (dv 0) (zaa zai zaj)))) (gn 0) zaU (zaK 1 (zao og (zaa (dv 2) (zaa (dv 3) zaj)))))))))
  (zag (zba 10 (zco zai (zao og (zaa (dv 0) (zaa zai zaj)))))
  (zag (ziR 11 (zcf zaj))
  (zag (zc7 (.nm 12) (zdL (zn5 (zao og (zaa (dv 0) (zaa (zco (dv 3) zai) zaj))) (zqM (zaa (d_gt (dv 4) zai) zaj)))) (gn 12) (zag (zba 13 (zao og (zaa (dv 0) (zaa (dv 4) zaj))))
  (zag (zba 14 (zqT (zco (zco (dv 13) zai) (zao og (zaa (dv 0) (zaa (zfj (dv 4) zai) zaj)))) (dv 4)))
  (zag (zba 15 (zaK 8 (zao og (zaa (dv 0) (zaa (dv 5) zaj)))))
  (zag (zba 16 (zfj (zaK 7 (dv 14)) (zaK 7 (dv 13))))
  (zag (s_if (DW.dt (zor (t_in (dv 15) (dv 9)) (zmD (t_lt (zao og (zaa (dv 0) (zaa zai zaj))) (dv 10))))) (zar (zba 16 (zao ox (zaa (dv 0) (zaa (dv 16) zaj))))) za8)
  (zar (zle 11 (zbI (zaa (dv 13) (zaa (dv 14) (zaa (dv 16) (zaa (dv 15) zaj)))))))))))))
  (zar (zja 11 (zaA (zbI (zaa (dv 4) (zaa (dv 11) (zaa (dv 7) (zaa (dv 9) zaj)))))))))))))))))
def ziu(F:Fun K "_law_left" "_law_left" zno f fd)(T:Bt mg):FnOk P w K mg base CX0 1 f fd ["_law_runs","_law_struck"] (spD K 2 zbC):=
 zby (N:=["_law_runs","_law_struck"]) F λ_ _=>
 (zar (zaA (DF.de (zaV (Nc:=["_law_run","_law_struck"]) (.nm 0) (zbi (dv 0)) (gn 0) (zke (zg5 (zaK 0 zai) (dv 1))) (dv 0)))))
def zfB(F:Fun K "_law_settled" "_law_settled" zeB f fd)(T:Bt mg):FnOk P w K mg base CX0 1 f fd ["_law_size","_law_runs"] (spD K 2 zbx):=
 zby (N:=["_law_size","_law_runs","_law_labels","_law_heights","_law_one","_law_other","_law_rise","_law_hand","_law_by","_law_home","_law_at"]) F λ_ _=>
 (zag (ziR 2 (zl0 (dv 0)))
  (zag (ziR 3 (zsB (DF.de (zcf (zaa zai zaj))) (dv 0)))
  (zag (zc7 (.tp 4 (.cons (.nm 4) (.cons (.nm 5) (.cons (.nm 6) (.cons (.nm 7) .nil))))) (zbi (dv 1)) (zbN (n:=4) rfl (zad (gn 4) (zad (gn 5) (zad (gn 6) (zad (gn 7) zaI))))) (zag (zba 8 (zfj (zco (zaK 3 (dv 4)) (dv 6)) (zaK 3 (dv 5))))
  (zar (s_if (t_eq (zaK 2 (dv 4)) (zaK 2 (dv 5))) (zar (s_if (t_ne (dv 8) zai) (zar (zaA ziw)) za8)) (zag (zba 9 (DF.de (zcf (zaa (zaK 2 (dv 4)) (zaa (zaK 2 (dv 5)) zaj)))))
  (zar (zc7 (.nm 10) (zdL (dv 0)) (gn 10) (zar (s_if (t_eq (zaK 2 (dv 10)) (zaK 9 zai)) (zag (zsQ 2 (zaK 9 zai) (dv 10))
  (zar (znB 3 (dv 10) (dv 8)))) za8)))))))))
  (zar (zja 3 (zja 2 (zaA (zbI (zaa (dv 2) (zaa (dv 3) zaj))))))))))
def zhe(F:Fun K "_law_hands" "_law_hands" zjp f fd)(T:Bt mg):FnOk P w K mg base CX0 1 f fd ["_law_runs"] (spD K 1 za0):=
 zby (N:=["_law_runs"]) F λ_ _=>
 (zar (zaA (DF.de (zf9 (DF.de (zaV (Nc:=["_law_run"]) (.nm 0) (zbi (dv 0)) (gn 0) zaU (zaK 0 zai)))))))
def zhB(F:Fun K "_law_lists" "_law_lists" zic f fd)(T:Bt mg):FnOk P w K mg base CX0 1 f fd ["_law_hands_here","_law_many"] (spD K 2 zb4):=
 zby (N:=["_law_hands_here","_law_many","_law_some","_law_hand"]) F λ_ _=>
 (zag (zba 2 (DF.de (zcf (zaa (DF.de (zcf zaj)) zaj))))
  (zag (zc7 (.nm 3) (zbi (dv 0)) (gn 3) (zar (zba 2 (zco (dv 2) (DF.de (zaV (Nc:=["_law_one","_law_hand","_law_many"]) (.nm 0) (zbi (dv 2)) (gn 0) (zke (t_lt (zbP 0) (dv 2))) (zco (dv 0) (DF.de (zcf (zaa (dv 1) zaj))))))))))
  (zar (zaA (DF.de (zaV (Nc:=["_law_size","_law_one"]) (.tp 2 (.cons (.nm 0) (.cons (.nm 1) .nil))) (zbi (zpy (zaa (DF.de (zaV (Nc:=["_law_one"]) (.nm 0) (zbi (dv 2)) (gn 0) zaU (zbI (zaa (zbP 0) (zaa (dv 0) zaj))))) zaj))) (zbN (n:=2) rfl (zad (gn 0) (zad (gn 1) zaI))) zaU (dv 1)))))))
def zim(F:Fun K "_law_sets" "_law_sets" zm2 f fd)(T:Bt mg)(oO:Cal P w K mg base "_law_lists" 1 ["_law_hands_here","_law_many"] (spD K 2 zb4))(oh:Cal P w K mg base "_law_hands" 1 ["_law_runs"] (spD K 1 za0))(oG:Cal P w K mg base "_law_settled" 1 ["_law_size","_law_runs"] (spD K 2 zbx))(oq:Cal P w K mg base "_law_left" 1 ["_law_runs","_law_struck"] (spD K 2 zbC)):FnOk P w K mg base CX0 2 f fd ["_law_size","_law_runs","_law_many"] (spD K 3 zbW):=
 zby (N:=["_law_size","_law_runs","_law_many","_law_found","_law_some","_law_here"]) F λ_ _=>
 (zag (ziR 3 (zcf zaj))
  (zag (zc7 (.nm 4) (zbi (zao oO (zaa (zao oh (zaa (dv 1) zaj)) (zaa (dv 2) zaj)))) (gn 4) (zag (zba 5 (zao oG (zaa (dv 0) (zaa (zao oq (zaa (dv 1) (zaa (dv 4) zaj))) zaj))))
  (zar (s_if (zkQ (dv 5)) (zar (zle 3 (zbI (zaa (dv 4) (zaa (zaK 5 zai) (zaa (zaK 5 zai) zaj)))))) za8))))
  (zar (zja 3 (zaA (dv 3))))))
def zf5(F:Fun K "_law_verdict" "_law_verdict" zez f fd)(T:Bt mg):FnOk P w K mg base CX0 1 f fd ["_law_sets_here","_law_one","_law_other"] (spD K 3 zbh):=
 zby (N:=["_law_sets_here","_law_one","_law_other","_law_rises","_law_some","_law_labels","_law_heights"]) F λ_ _=>
 (zag (s_if (t_eq (dv 0) (DF.de (zcf zaj))) (zar (zaA (zbI (zaa zbQ zaj)))) za8)
  (zag (ziR 3 (zcf zaj))
  (zag (zc7 (.tp 3 (.cons (.nm 4) (.cons (.nm 5) (.cons (.nm 6) .nil)))) (zbi (dv 0)) (zbN (n:=3) rfl (zad (gn 4) (zad (gn 5) (zad (gn 6) zaI)))) (zag (s_if (t_ne (zaK 5 (dv 1)) (zaK 5 (dv 2))) (zar (zaA (zbI (zaa zbQ zaj)))) za8)
  (zar (zle 3 (zfj (zaK 6 (dv 2)) (zaK 6 (dv 1)))))))
  (zag (zja 3 (s_if (t_ne (zr0 (zaa (dv 3) zaj)) (zq6 (zaa (dv 3) zaj))) (zar (zaA (zbI (zaa zbQ zaj)))) za8))
  (zar (zaA (zbI (zaa zbQ (zaa (zaK 3 zai) zaj)))))))))
def ziF(F:Fun K "_law_walk" "_law_walk" zmA f fd)(T:Bt mg):FnOk P w K mg base CX0 1 f fd ["_law_runs","_law_mark","_law_line"] (spD K 3 zce):=
 zby (N:=["_law_runs","_law_mark","_law_line","_law_here","_law_height","_law_at","_law_one","_law_other","_law_rise","_law_hand"]) F λ_ _=>
 (zag (zba 3 (dv 1))
  (zag (zba 4 zai)
  (zag (s_if (t_ne (zoK (dv 2)) (zbP 2)) (zar (zaA ziw)) za8)
  (zag (zc7 (.nm 5) (zbi (dv 2)) (gn 5) (zag (s_if (DW.dt (w_or (zcp (zpe zai (dv 5) (zbP 0))) (zcQ (zg5 (dv 3) (d_sl (zaK 0 (dv 5)) zjq (zil zai)))))) (zar (zaA ziw)) za8)
  (zag (zhJ (.tp 4 (.cons (.nm 6) (.cons (.nm 7) (.cons (.nm 8) (.cons (.nm 9) .nil))))) (zaK 0 (dv 5)) (zbN (n:=4) rfl (zad (gn 6) (zad (gn 7) (zad (gn 8) (zad (gn 9) zaI))))))
  (zar (s_if (t_eq (dv 3) (dv 6)) (zar (zqR 3 4 (dv 7) (zco (dv 4) (dv 8)))) (zar (zqR 3 4 (dv 6) (zfj (dv 4) (dv 8)))))))))
  (zar (zaA (zbI (zaa (dv 3) (zaa (dv 4) zaj)))))))))
theorem zdJ(F:Fun K "_law_formed" "_law_formed" zfA f fd)(hm:mg "_law_formed"=some (.ref f))(hb:Binds K fd ["_law_paper","_law_deep"] [])(T:Bt mg) :∀n,FnOk P w K mg base CX0 (1+n) f fd ["_law_paper","_law_deep"] (spD K 2 (za4 n))
 |0=>⟨λvs H Q E ⟨β,G,ds,_,_,_,h,_⟩=>h,λA outer s H args us vs Q E _ _ _ _ ⟨β,G,ds,_,_,_,_,P,z,_⟩=>z.elim⟩
 |n+1=>by
  have cSelf:Cal P w K mg base "_law_formed" (1+n) ["_law_paper","_law_deep"] (spD K 2 (za4 n)):=Cal.of F (zdJ F hm hb T n) hm hb;exact zby (N:=["_law_paper","_law_deep","_law_kind","_law_mark","_law_line","_law_rest"]) (k:=1+n) F λ_ _=>
   (zag (s_if (DW.dt (w_or (zcp (zck (zbS (dv 0)))) (w_or (t_ne (zbP 0) zai) (zcQ (t_eq (dv 1) zai))))) (zar (zaA zcv)) za8)
  (zag (zhJ (.tp 4 (.cons (.nm 2) (.cons (.nm 3) (.cons (.nm 4) (.cons (.nm 5) .nil))))) (dv 0) (zbN (n:=4) rfl (zad (gn 2) (zad (gn 3) (zad (gn 4) (zad (gn 5) zaI))))))
  (zag (s_if (DW.dt (w_or (zcp (zck (zbS (dv 2)))) (w_or (zcp (zck (zbS (dv 4)))) (zcQ (zcp (zck (zbS (dv 5)))))))) (zar (zaA zcv)) za8)
  (zag (s_if (zcp (zck (zf8 (zaa (DF.de (zaV (Nc:=["_law_one"]) (.nm 0) (zbi (zco (zbI (zaa (dv 3) zaj)) (dv 4))) (gn 0) zaU (zg9 (zbS (dv 0)) (zhm (zqK (zbS (dv 0))))))) zaj)))) (zar (zaA zcv)) za8)
  (zag (s_if (zcp (zck (zf8 (zaa (DF.de (zaV (Nc:=["_law_pair"]) (.nm 0) (zbi (dv 5)) (gn 0) zaU (zg9 (zbS (dv 0)) (zhm (d_eq (zbP 0) zai))))) zaj)))) (zar (zaA zcv)) za8)
  (zag (s_if (zcp (zck (zf8 (zaa (DF.de (zaV (Nc:=["_law_pair"]) (.nm 0) (zbi (dv 5)) (gn 0) zaU (zg9 (zbS (zaK 0 zai)) (zhm (zqK (zbS (zaK 0 zai))))))) zaj)))) (zar (zaA zcv)) za8)
  (zar (zaA (zf8 (zaa (DF.de (zaV (Nc:=["_law_pair","_law_deep"]) (.nm 0) (zbi (dv 5)) (gn 0) zaU (zao cSelf (zaa (zaK 0 zai) (zaa (zfj (dv 1) zai) zaj))))) zaj))))))))))
theorem zek(F:Fun K "_law_sound" "_law_sound" zh6 f fd)(hm:mg "_law_sound"=some (.ref f))(hb:Binds K fd ["_law_size","_law_runs","_law_paper","_law_many","_law_struck","_law_wish"] [])(T:Bt mg)(oK:Cal P w K mg base "_law_walk" 1 ["_law_runs","_law_mark","_law_line"] (spD K 3 zce))(oh:Cal P w K mg base "_law_hands" 1 ["_law_runs"] (spD K 1 za0)):∀n,FnOk P w K mg base CX0 (2+n) f fd ["_law_size","_law_runs","_law_paper","_law_many","_law_struck","_law_wish"] (spD K 6 (zaQ n))
 |0=>⟨λvs H Q E ⟨β,G,ds,_,_,_,h,_⟩=>h,λA outer s H args us vs Q E _ _ _ _ ⟨β,G,ds,_,_,_,_,P,z,_⟩=>z.elim⟩
 |n+1=>by
  have cSelf:Cal P w K mg base "_law_sound" (2+n) ["_law_size","_law_runs","_law_paper","_law_many","_law_struck","_law_wish"] (spD K 6 (zaQ n)):=Cal.of F (zek F hm hb T oK oh n) hm hb;exact zby (N:=["_law_size","_law_runs","_law_paper","_law_many","_law_struck","_law_wish","_law_kind","_law_mark","_law_line","_law_rest","_law_found","_law_hands_here"]) (k:=2+n) F λ_ _=>
   (zag (zhJ (.tp 4 (.cons (.nm 6) (.cons (.nm 7) (.cons (.nm 8) (.cons (.nm 9) .nil))))) (dv 2) (zbN (n:=4) rfl (zad (gn 6) (zad (gn 7) (zad (gn 8) (zad (gn 9) zaI))))))
  (zag (s_if (DW.dt (w_or (zcp (zpe zai (dv 7) (dv 0))) (zcQ (zg5 (dv 6) (zbI (zaa zbQ (zaa zbQ zaj))))))) (zar (zaA zcv)) za8)
  (zag (zba 10 (zao oK (zaa (dv 1) (zaa (dv 7) (zaa (dv 8) zaj)))))
  (zag (s_if (DW.dt (w_or (zou (dv 10)) (zcQ (zck (zsd (zaa (DF.de (zaV (Nc:=["_law_at","_law_struck","_law_runs"]) (.nm 0) (zbi (dv 8)) (gn 0) zaU (d_in (d_ix (zaK 2 (dv 0)) zai) (dv 1)))) zaj)))))) (zar (zaA zcv)) za8)
  (zag (s_if (DW.dt (zor (t_eq (dv 6) zbQ) (zmD (DW.dt (w_or (t_eq (dv 8) (zbI zaj)) (w_or (t_ne (zaK 10 zai) (dv 7)) (zcQ (t_eq (zaK 10 zai) zai)))))))) (zar (zaA zcv)) za8)
  (zag (s_if (DW.dt (zor (t_eq (dv 6) zbQ) (zor (t_ne (dv 5) zbQ) (zmD (t_ne (zco (zbI (zaa (dv 7) zaj)) (dv 10)) (dv 5)))))) (zar (zaA zcv)) za8)
  (zag (zba 11 (zn5 (zao oh (zaa (DF.de (zaV (Nc:=["_law_at","_law_runs"]) (.nm 0) (zbi (dv 8)) (gn 0) zaU (zaK 1 (dv 0)))) zaj)) (zqM (zaa (d_gt (dv 3) zai) zaj))))
  (zag (s_if (t_ne (DF.de (zaV (Nc:=["_law_pair"]) (.nm 0) (zbi (dv 9)) (gn 0) zaU (zaK 0 zai))) (dv 11)) (zar (zaA zcv)) za8)
  (zar (zaA (zf8 (zaa (DF.de (zaV (Nc:=["_law_hand","_law_one","_law_size","_law_runs","_law_wish","_law_many","_law_struck"]) (.tp 2 (.cons (.nm 0) (.cons (.nm 1) .nil))) (zbi (dv 9)) (zbN (n:=2) rfl (zad (gn 0) (zad (gn 1) zaI))) zaU (zao cSelf (zaa (dv 2) (zaa (dv 3) (zaa (dv 1) (zaa (zfj (dv 5) zai) (zaa (zco (dv 6) (DF.de (zcf (zaa (dv 0) zaj)))) (zaa (dv 4) zaj))))))))) zaj))))))))))))
def zhY(F:Fun K "_law_shows" "_law_shows" ziN f fd)(T:Bt mg)(oY:Cal P w K mg base "_law_formed" (1+6) ["_law_paper","_law_deep"] (spD K 2 (za4 6)))(oZ:Cal P w K mg base "_law_sound" (2+6) ["_law_size","_law_runs","_law_paper","_law_many","_law_struck","_law_wish"] (spD K 6 (zaQ 6))):FnOk P w K mg base CX0 9 f fd ["_law_size","_law_runs","_law_paper","_law_many","_law_wish"] (spD K 5 zbD):=
 zby (N:=["_law_size","_law_runs","_law_paper","_law_many","_law_wish"]) F λ_ _=>
 (zar (zaA (zg9 (zao oY (zaa (dv 2) (zaa (zco (dv 3) zai) zaj))) (zhm (zao oZ (zaa (dv 0) (zaa (dv 1) (zaa (dv 2) (zaa (dv 3) (zaa (DF.de (zcf zaj)) (zaa (dv 4) zaj)))))))))))
def zfd(F:Fun K "_law_explains" "_law_explains" zdt f fd)(T:Bt mg)(ow:Cal P w K mg base "_law_numbers" 1 ["_law_found","_law_size"] (spD K 2 zbf))(oq:Cal P w K mg base "_law_left" 1 ["_law_runs","_law_struck"] (spD K 2 zbC))(oh:Cal P w K mg base "_law_hands" 1 ["_law_runs"] (spD K 1 za0)):FnOk P w K mg base CX0 2 f fd ["_law_size","_law_runs","_law_many","_law_found"] (spD K 4 zbo):=
 zby (N:=["_law_size","_law_runs","_law_many","_law_found","_law_false","_law_heights"]) F λ_ _=>
 (zag (s_if (DW.dt (w_or (zcp (zck (zbS (dv 3)))) (w_or (t_ne (zbP 3) zai) (zcQ (zcp (zck (zbS (zaK 3 zai)))))))) (zar (zaA zcv)) za8)
  (zag (zhJ (.tp 2 (.cons (.nm 4) (.cons (.nm 5) .nil))) (dv 3) (zbN (n:=2) rfl (zad (gn 4) (zad (gn 5) zaI))))
  (zag (s_if (DW.dt (w_or (zcp (zck (zao ow (zaa (dv 4) (zaa (zbP 4) zaj))))) (w_or (zcp (zck (zao ow (zaa (dv 5) (zaa (dv 0) zaj))))) (zcQ (t_gt (zbP 4) (dv 2)))))) (zar (zaA zcv)) za8)
  (zag (s_if (DW.dt (w_or (t_ne (dv 4) (DF.de (zf9 (dv 4)))) (zcQ (zcp (zck (zf8 (zaa (DF.de (zaV (Nc:=["_law_hand","_law_runs"]) (.nm 0) (zbi (dv 4)) (gn 0) zaU (d_in (dv 0) (zao oh (zaa (dv 1) zaj))))) zaj))))))) (zar (zaA zcv)) za8)
  (zar (zaA (zf8 (zaa (DF.de (zaV (Nc:=["_law_run","_law_heights"]) (.nm 0) (zbi (zao oq (zaa (dv 1) (zaa (dv 4) zaj)))) (gn 0) zaU (d_eq (zfj (zaK 1 (zaK 0 zai)) (zaK 1 (zaK 0 zai))) (zaK 0 zai)))) zaj))))))))
def zep(F:Fun K "_law_told_right" "_law_told_right" zcK f fd)(T:Bt mg)(oE:Cal P w K mg base "_law_shows" 9 ["_law_size","_law_runs","_law_paper","_law_many","_law_wish"] (spD K 5 zbD))(oQ:Cal P w K mg base "_law_same" (1+6) ["_law_found","_law_due"] (spD K 2 (za7 6)))(oF:Cal P w K mg base "_law_explains" 2 ["_law_size","_law_runs","_law_many","_law_found"] (spD K 4 zbo)):FnOk P w K mg base CX0 10 f fd ["_law_size","_law_runs","_law_many","_law_one","_law_other","_law_found","_law_verdict_here"] (spD K 7 zaw):=
 zby (N:=["_law_size","_law_runs","_law_many","_law_one","_law_other","_law_found","_law_verdict_here","_law_first","_law_second"]) F λ_ _=>
 (zag (s_if (DW.dt (w_or (zcp (zck (zbS (dv 5)))) (w_or (t_eq (zbP 5) zai) (zcQ (t_ne (zaK 5 zai) (zaK 6 zai)))))) (zar (zaA zcv)) za8)
  (zag (s_if (t_eq (zaK 5 zai) zbQ) (zar (zaA (zg9 (d_eq (zbP 5) zai) (zhm (zao oE (zaa (dv 0) (zaa (dv 1) (zaa (zaK 5 zai) (zaa (dv 2) (zaa zbQ zaj)))))))))) za8)
  (zag (s_if (t_eq (zaK 5 zai) zbQ) (zag (s_if (DW.dt (w_or (t_ne (zbP 5) zai) (zcQ (zcp (zck (zao oQ (zaa (d_sl (dv 5) zjq (zil zai)) (zaa (dv 6) zaj)))))))) (zar (zaA zcv)) za8)
  (zar (zaA (zao oE (zaa (dv 0) (zaa (dv 1) (zaa (zaK 5 zai) (zaa (dv 2) (zaa (zbI (zaa (dv 3) (zaa (dv 4) (zaa (zaK 6 zai) zaj)))) zaj))))))))) za8)
  (zag (s_if (DW.dt (w_or (t_ne (zbP 5) zai) (zcQ (zcp (zck (zf8 (zaa (DF.de (zaV (Nc:=["_law_here","_law_size","_law_runs","_law_many"]) (.nm 0) (zbi (d_sl (dv 5) (zil zai) zjq)) (gn 0) zaU (zao oF (zaa (dv 1) (zaa (dv 2) (zaa (dv 3) (zaa (dv 0) zaj))))))) zaj))))))) (zar (zaA zcv)) za8)
  (zag (zhJ (.tp 2 (.cons (.nm 7) (.cons (.nm 8) .nil))) (DF.de (zaV (Nc:=["_law_here","_law_other","_law_one"]) (.nm 0) (zbi (d_sl (dv 5) (zil zai) zjq)) (gn 0) zaU (zfj (d_ix (zaK 0 zai) (dv 1)) (d_ix (zaK 0 zai) (dv 2))))) (zbN (n:=2) rfl (zad (gn 7) (zad (gn 8) zaI))))
  (zar (zaA (d_ne (dv 7) (dv 8)))))))))
def ziG(F:Fun K "_law_kept" "_law_kept" zmF f fd)(T:Bt mg):FnOk P w K mg base CX0 1 f fd ["_law_found"] (spD K 1 za3):=
 zby (N:=["_law_found"]) F λ_ _=>
 (zag (s_if (t_ne (zaK 0 zai) zbQ) (zar (zaA (dv 0))) za8)
  (zar (zaA (zco (zbI (zaa (zaK 0 zai) zaj)) (zma (zaa (DF.de (zaV (Nc:=["_law_here"]) (.nm 0) (zbi (d_sl (dv 0) (zil zai) zjq)) (gn 0) zaU (zbI (zaa (DF.de (zgW (zaK 0 zai))) (zaa (DF.de (zgW (zaK 0 zai))) zaj))))) zaj))))))
def zrg(F:Fun K "law" "law" sLaw f fd)(T:Bt mg)(cB:Cal P w K mg base "_law_box" 1 ["_law_script"] (Fen.zqE K))(oP:Cal P w K mg base "_law_world" 4 ["_law_box_here","_law_most_marks","_law_most_hands","_law_most_runs"] (spD K 4 zbH))(og:Cal P w K mg base "_law_take" 1 ["_law_box_here","_law_many"] (spD K 2 zak))(oR:Cal P w K mg base "_law_sets" 2 ["_law_size","_law_runs","_law_many"] (spD K 3 zbW))(oH:Cal P w K mg base "_law_verdict" 1 ["_law_sets_here","_law_one","_law_other"] (spD K 3 zbh))(oX:Cal P w K mg base "told" 13 ["size","runs","many","one","other"] (spD K 5 ze9))(oS:Cal P w K mg base "_law_kept" 1 ["_law_found"] (spD K 1 za3))(oQ:Cal P w K mg base "_law_same" (1+13) ["_law_found","_law_due"] (spD K 2 (za7 13)))(oy:Cal P w K mg base "_law_told_right" 10 ["_law_size","_law_runs","_law_many","_law_one","_law_other","_law_found","_law_verdict_here"] (spD K 7 zaw))(hw:lawW 12 zd6):FnOk P w K mg base CX0 15 f fd ["_law_script"] (zmT K):=by
 refine zq5 (N:=["_law_size","_law_runs","_law_heights","_law_false","_law_many","_law_sets_here","_law_one","_law_handed","_law_other","_law_verdict_here","_law_found","_law_kept_here"]) (k:=14) F rfl cB (λ_ _=>?_) hw;unfold zd6;exact(zag (zhJ (.tp 4 (.cons (.nm 2) (.cons (.nm 3) (.cons (.nm 4) (.cons (.nm 5) .nil))))) (zao oP (zaa (dv 1) (zaa (d_ix (DF.de (zcf (zaa zai (zaa zai zaj)))) (zao og (zaa (dv 1) (zaa zai zaj)))) (zaa (d_ix (DF.de (zcf (zaa zai (zaa zai zaj)))) (zao og (zaa (dv 1) (zaa zai zaj)))) (zaa zai zaj))))) (zbN (n:=4) rfl (zad (gn 2) (zad (gn 3) (zad (gn 4) (zad (gn 5) zaI))))))
  (zag (zba 6 (zao og (zaa (dv 1) (zaa zai zaj))))
  (zag (zba 7 (zao oR (zaa (dv 2) (zaa (dv 3) (zaa (dv 6) zaj)))))
  (zag (zba 8 (zao og (zaa (dv 1) (zaa (dv 2) zaj))))
  (zag (zba 9 (DF.de (zgW (dv 3))))
  (zag (zc7 (.nm 10) (zdL (dv 2)) (gn 10) (zag (zba 11 (zao oH (zaa (dv 7) (zaa (dv 8) (zaa (dv 10) zaj)))))
  (zrV 12 13 oX oS (zaa (dv 2) (zaa (dv 9) (zaa (dv 6) (zaa (dv 8) (zaa (dv 10) zaj))))) (DW.dt (w_or (zcp (zck (zao oy (zaa (dv 2) (zaa (dv 3) (zaa (dv 6) (zaa (dv 8) (zaa (dv 10) (zaa (dv 12) (zaa (dv 11) zaj)))))))))) (zcQ (t_ne (dv 9) (dv 3))))) (zpH (zpZ (znG (j:=0) (zme 12))) (zlS (znG (j:=0) (znG (j:=1) (zme 12))) zaO (zlS (znG (j:=1) (znG (j:=2) (zme 12))) zaO zpC)))
  (zar (s_if (zcp (zck (zao oQ (zaa (zao oX (zaa (dv 2) (zaa (dv 9) (zaa (dv 6) (zaa (dv 8) (zaa (dv 10) zaj)))))) (zaa (dv 13) zaj))))) (zar (zaA zcv)) za8)))))
  (zar (zaA zcv))))))))
end
end Fd
namespace Hd
open PySem L2 Fen PySem.W PySem.Calls PyProof.Rows
noncomputable section
noncomputable abbrev dE(P:Params)(k:Str)(n:Nat)(v:Value):DictEntry:=⟨PyData.keyHash P k,.str k n,v⟩
noncomputable def dN:Stmt->Str
 |.FunctionDef x ..=>x
 |_ => ""
noncomputable abbrev cO(s:Stmt)(a:Nat)(l:Int)(lt:Nat)(n:Int)(v:Addr)(g h:Value)(q:Addr)(d:Nat):Obj:=⟨.type "code",none,.fields #[.str (dN s) a,.str (dN s) (a+1),.str "/claim/cut.py" (a+2),.int l lt,.int n 0,.int 0 0,.int 0 0,.int 3 0,.ref v,.bool true,.int 181 0,.ref (v+1),.none,g,h,.ref q,.int (d-1) 0,.int l lt,.str "/claim/cut.py" d],#[]⟩
noncomputable abbrev cP(s:Stmt)(a:Nat)(l:Int)(lt:Nat)(n:Int)(v:Addr)(d:Nat):Obj:=cO s a l lt n v .none .none (v+2) d
noncomputable abbrev fD(x:Str)(s:Stmt)(m:Str)(t:Nat)(c:Addr):FuncData:=PySem.W.fnOf x x (zdh s) (zcg s) (zat s) .none .none .none (.str m t) none (.ref c) .none
noncomputable abbrev fO(s:Stmt)(m:Str)(t:Nat)(c:Addr):Obj:=⟨.type "function",none,.func (fD (dN s) s m t c),#[]⟩
noncomputable abbrev fI(s:Stmt):Obj:=⟨.none,none,.func ⟨dN s,dN s,zdh s,.stmts (zcg s),zat s,0,[],.none,.none,.none,.none,none,.none,.none,0⟩,#[]⟩
noncomputable abbrev cT:Obj:=⟨.type "tuple",none,.seq #[] 0,#[]⟩
noncomputable abbrev cF:Obj:=⟨.none,none,.fields #[],#[]⟩
noncomputable def tS:Nat->List Str->List Value
 |_,[]=>[]
 |n,x::l=>.str x n::tS (n+1) l
noncomputable abbrev cN(n:Nat)(l:List Str):Obj:=⟨.type "tuple",none,.seq (tS n l).toArray 0,#[]⟩
noncomputable def cV:List (Int×Nat×Nat)->List Value
 |[]=>[]
 | (l,t,c)::r=>.int l t::.int 0 0::.ref c::cV r
noncomputable def bT(f:Nat->Obj)(n:Nat):Nat->Nat->Nat->BT
 |0,_,_=>.nil
 |k+1,a,b=>match Nat.blt b n with
  |true=>.node (f b) (bT f n k (Nat.mul 2 a) (Nat.add a b)) (bT f n k (Nat.mul 2 a) (Nat.add (Nat.mul 2 a) b))
  |false=>.nil
noncomputable abbrev u0:Str:="fenlevel.trees"
noncomputable abbrev u1:Str:="fenlevel.runs"
noncomputable abbrev u2:Str:="fenlevel.readings"
noncomputable abbrev u3:Str:="fenlevel.rings"
noncomputable abbrev u4:Str:="fenlevel.papers"
noncomputable abbrev u5:Str:="fenlevel.sure"
noncomputable abbrev u6:Str:="law_fenlevel_k14_whole_sure_open_or_none_lef"
noncomputable def c0(P:Params)(d c:Obj):List Obj:=[PySem.W.boot_o_0 P,PySem.W.boot_o_1 P,PySem.W.boot_o_2 P,d,PySem.W.boot_o_4 P,PySem.W.boot_o_5 P,PySem.W.boot_o_6 P,PySem.W.boot_o_7 P,PySem.W.boot_o_8 P,PySem.W.boot_o_9 P,PySem.W.boot_o_10 P,cT,c,⟨.type "code",none,.fields #[.str "<module>" 182,.str "<module>" 183,.str "/claim/cut.py" 184,.int 1 0,.int 0 0,.int 0 0,.int 0 0,.int 0 0,.ref 11,.bool false,.int 181 0,.ref 12,.none,.none,.none,.none,.int 185 0,.int 1 0,.str "/claim/cut.py" 186],#[]⟩,⟨.type "frame",none,.plain,#[some (.ref 13),some (.ref 3),some (.ref 3),none,some (.str "__main__" 164),none,some (.ref 0)]⟩,cT,cF,fI zbT,cP zbT 189 2 0 3 15 193,fO zbT u0 187 18,cT,cF,cN 198 ["start","steps","tree","newest","fresh","mark","height","line","number","end","rise"],cT]
noncomputable def c1(P:Params):List Obj:=[fI zcM,cO zcM 195 9 0 2 20 (.ref 22) (.ref 23) 24 210,fO zcM u0 187 25,cT,cF,cN 215 ["size","runs","struck","steps","trees","reached","mark","tree"],cT,fI zdC,cO zdC 212 22 0 3 27 (.ref 29) (.ref 30) 31 224,fO zdC u0 187 32,cT,cF,fI zeC,cP zeC 228 33 0 1 34 232,fO zeC u1 226 37,cT,cF,fI zml,cP zml 234 35 0 2 39 238,fO zml u1 226 42,cT,cF,fI zd9,cP zd9 240 37 0 2 44 244]
noncomputable def c2(P:Params):List Obj:=[fO zd9 u1 226 47,cT,cF,fI zdm,cP zdm 246 39 0 2 49 250,fO zdm u1 226 52,cT,cF,cN 255 ["size","runs","heights","tree","mark","height","line"],cT,fI zjE,cO zjE 252 41 0 2 54 (.ref 56) (.ref 57) 58 263,fO zjE u1 226 59,cT,cF,fI zec,cP zec 267 50 0 2 61 271,fO zec u2 265 64,cT,cF,cN 276 ["size","runs","many","hands","found","length","struck"],cT,fI zcL,cO zcL 273 55 0 3 66 (.ref 68) (.ref 69) 70 284]
noncomputable def c3(P:Params):List Obj:=[fO zcL u2 265 71,cT,cF,cN 289 ["size","runs","many","hands","length","struck","heights"],cT,fI zem,cO zem 286 63 0 3 73 (.ref 75) (.ref 76) 77 297,fO zem u2 265 78,cT,cF,fI zcD,cP zcD 301 72 0 2 80 305,fO zcD u3 299 83,cT,cF,cN 310 ["size","runs","struck","one","other","tree","height","line"],cT,fI zcb,cO zcb 307 74 0 5 85 (.ref 87) (.ref 88) 89 319,fO zcb u3 299 90,cT,cF,cN 324 ["first","second","shared"],cT]
noncomputable def c4(P:Params):List Obj:=[fI zeI,cO zeI 321 80 0 2 92 (.ref 94) (.ref 95) 96 328,fO zeI u3 299 97,cT,cF,cN 333 ["size","runs","struck","reached","tree","number","one","other","rise","hand","low","to_one","high","to_other"],cT,fI zch,cO zch 330 85 0 3 99 (.ref 101) (.ref 102) 103 348,fO zch u3 299 104,cT,cF,fI zbL,cP zbL 352 96 0 5 106 356,fO zbL u4 350 109,cT,cF,cN 361 ["size","runs","many","one","other"],cT,fI zcA,cO zcA 358 107 0 5 111 (.ref 113) (.ref 114) 115 367,fO zcA u4 350 116,cT,cF]
noncomputable def c5(P:Params):List Obj:=[cN 372 ["size","runs","many"],cT,fI zcC,cO zcC 369 109 0 3 118 (.ref 120) (.ref 121) 122 376,fO zcC u4 350 123,cT,cF,cN 383 ["size","runs","heights","mark","higher","group","each"],cT,fI zfY,cO zfY 380 114 0 4 125 (.ref 127) (.ref 128) 129 391,fO zfY u5 378 130,cT,cF,cN 396 ["size","runs","many","mark","found","false","kept","heights"],cT,fI za5,cO za5 393 121 0 4 132 (.ref 134) (.ref 135) 136 405,fO za5 u5 378 137,cT,cF,cN 410 ["heights","one","other"],cT,fI zb5]
noncomputable def c6(P:Params):List Obj:=[cO zb5 407 129 0 3 139 (.ref 141) (.ref 142) 143 414,fO zb5 u5 378 144,cT,cF,cN 419 ["size","runs","many","one","other","found","false","heights","rise","unlike","others"],cT,fI zmO,cO zmO 416 131 0 5 146 (.ref 148) (.ref 149) 150 431,fO zmO u5 378 151,cT,cF,cN 438 ["_law_script"],cT,fI sBox,cO sBox 435 142 0 1 153 (.ref 155) (.ref 156) 157 440,fO sBox u6 433 158,cT,cF,cN 445 ["_law_box_here","_law_many","_law_rest","_law_cell","_law_seed"],cT,fI zjH,cO zjH 442 144 0 2 160 (.ref 162) (.ref 163) 164 451,fO zjH u6 433 165,cT]
noncomputable def c7(P:Params):List Obj:=[cF,cN 456 ["_law_box_here","_law_ways","_law_found","_law_k"],cT,fI zh7,cO zh7 453 160 0 1 167 (.ref 169) (.ref 170) 171 461,fO zh7 u6 433 172,cT,cF,fI zmN,cP zmN 463 170 0 2 174 467,fO zmN u6 433 177,cT,cF,fI zdZ,cP zdZ 469 180 0 2 179 473,fO zdZ u6 433 182,cT,cF,cN 478 ["_law_box_here","_law_rise"],cT,fI zi0,cO zi0 475 184 0 2 184 (.ref 186) (.ref 187) 188 481,fO zi0 u6 433 189,cT]
noncomputable def c8(P:Params):List Obj:=[cF,fI zi3,cP zi3 483 186 0 4 191 487,fO zi3 u6 433 194,cT,cF,fI zno,cP zno 489 204 0 2 196 493,fO zno u6 433 199,cT,cF,cN 498 ["_law_size","_law_runs","_law_labels","_law_heights","_law_one","_law_other","_law_rise","_law_hand","_law_by","_law_home","_law_at"],cT,fI zeB,cO zeB 495 206 0 2 201 (.ref 203) (.ref 204) 205 510,fO zeB u6 433 206,cT,cF,fI zjp,cP zjp 512 221 0 1 208 516,fO zjp u6 433 211,cT,cF,fI zic]
noncomputable def c9(P:Params):List Obj:=[cP zic 518 223 0 2 213 522,fO zic u6 433 216,cT,cF,cN 527 ["_law_size","_law_runs","_law_many","_law_found","_law_some","_law_here"],cT,fI zm2,cO zm2 524 228 0 3 218 (.ref 220) (.ref 221) 222 534,fO zm2 u6 433 223,cT,cF,cN 539 ["_law_sets_here","_law_one","_law_other","_law_rises","_law_some","_law_labels","_law_heights"],cT,fI zez,cO zez 536 235 0 3 225 (.ref 227) (.ref 228) 229 547,fO zez u6 433 230,cT,cF,cN 552 ["_law_runs","_law_mark","_law_line","_law_here","_law_height","_law_at","_law_one","_law_other","_law_rise","_law_hand"],cT,fI zmA,cO zmA 549 246 0 3 232 (.ref 234) (.ref 235) 236 563,fO zmA u6 433 237,cT]
noncomputable def c10(P:Params):List Obj:=[cF,fI zfA,cP zfA 565 260 0 2 239 569,fO zfA u6 433 242,cT,cF,fI zh6,cP zh6 571 273 0 6 244 575,fO zh6 u6 433 247,cT,cF,cN 580 ["_law_size","_law_runs","_law_paper","_law_many","_law_wish"],cT,fI ziN,cO ziN 577 288 0 5 249 (.ref 251) (.ref 252) 253 586,fO ziN u6 433 254,cT,cF,fI zdt,cP zdt 588 290 0 4 256 592,fO zdt u6 433 259,cT,cF,fI zcK]
noncomputable def c11(P:Params):List Obj:=[cP zcK 594 299 0 7 261 598,fO zcK u6 433 264,cT,cF,fI zmF,cP zmF 600 312 0 1 266 604,fO zmF u6 433 269,cT,cF,cN 609 ["_law_script","_law_box_here","_law_size","_law_runs","_law_heights","_law_false","_law_many","_law_sets_here","_law_one","_law_handed","_law_other","_law_verdict_here","_law_found","_law_kept_here"],cT,fI sLaw,cO sLaw 606 316 0 1 271 (.ref 273) (.ref 274) 275 624,fO sLaw u6 433 276]
noncomputable def oB(P:Params)(d c:Obj):List Obj:=c0 P d c++(c1 P++(c2 P++(c3 P++(c4 P++(c5 P++(c6 P++(c7 P++(c8 P++(c9 P++(c10 P++(c11 P)))))))))))
noncomputable def e3(P:Params):List DictEntry:=[dE P "__doc__" 166 (.none),dE P "__package__" 167 (.none),dE P "__loader__" 168 (.builtin "__main__.__loader__#opaque"),dE P "__spec__" 169 (.none),dE P "__annotations__" 170 (.ref 6),dE P "__builtins__" 171 (.ref 4),dE P "__file__" 173 (.str "/claim/cut.py" 172),dE P "__cached__" 174 (.none),dE P "steps_from" 194 (.ref 19),dE P "tree_from" 211 (.ref 26),dE P "trees_of" 225 (.ref 33),dE P "hands_of" 233 (.ref 38),dE P "left" 239 (.ref 43),dE P "holds" 245 (.ref 48),dE P "groups" 251 (.ref 53),dE P "flat" 264 (.ref 60),dE P "lists_of" 272 (.ref 65),dE P "false_sets" 285 (.ref 72),dE P "reading" 298 (.ref 79),dE P "line_hands" 306 (.ref 84),dE P "some_line" 320 (.ref 91),dE P "across" 329 (.ref 98),dE P "open_ring" 349 (.ref 105),dE P "paper_without" 357 (.ref 110),dE P "some_paper" 368 (.ref 117),dE P "none_paper" 377 (.ref 124),dE P "lifted" 392 (.ref 131),dE P "readings_to_compare" 406 (.ref 138),dE P "rise_between" 415 (.ref 145),dE P "told" 432 (.ref 152),dE P "_law_box" 441 (.ref 159),dE P "_law_take" 452 (.ref 166),dE P "_law_great" 462 (.ref 173),dE P "_law_same" 468 (.ref 178),dE P "_law_numbers" 474 (.ref 183),dE P "_law_other_rise" 482 (.ref 190),dE P "_law_world" 488 (.ref 195),dE P "_law_left" 494 (.ref 200),dE P "_law_settled" 511 (.ref 207),dE P "_law_hands" 517 (.ref 212),dE P "_law_lists" 523 (.ref 217),dE P "_law_sets" 535 (.ref 224),dE P "_law_verdict" 548 (.ref 231),dE P "_law_walk" 564 (.ref 238),dE P "_law_formed" 570 (.ref 243),dE P "_law_sound" 576 (.ref 248),dE P "_law_shows" 587 (.ref 255),dE P "_law_explains" 593 (.ref 260),dE P "_law_told_right" 599 (.ref 265),dE P "_law_kept" 605 (.ref 270),dE P "law" 625 (.ref 277)]
noncomputable def d3(P:Params)(x:Str)(t k:Nat):Obj:=⟨.type "dict",none,.dict (dE P "__name__" 165 (.str x t)::(e3 P).take k).toArray (k+1),#[]⟩
noncomputable def v4:List Value:=cV [(2,0,18),(9,0,25),(22,0,32),(33,0,37),(35,0,42),(37,0,47),(39,0,52),(41,0,59),(50,0,64),(55,0,71),(63,0,78),(72,0,83),(74,0,90),(80,0,97),(85,0,104),(96,0,109),(107,0,116),(109,0,123),(114,0,130),(121,0,137),(129,0,144),(131,0,151),(142,0,158),(144,0,165),(160,0,172),(170,0,177),(180,0,182),(184,0,189),(186,0,194),(204,0,199),(206,0,206),(221,0,211),(223,0,216),(228,0,223),(235,0,230),(246,0,237),(260,0,242),(273,0,247),(288,0,254),(290,0,259),(299,0,264),(312,0,269),(316,0,276)]
noncomputable def d4(k:Nat):Obj:=⟨.none,none,.fields (v4.take k).toArray,#[]⟩
noncomputable def bE:List Stmt:=PySem.W.behindTheImports PySem.Challenge.pw_fenlevel_k14_whole_sure_open_or_none_lef
noncomputable def eN:PySem.Env:={scope:=(PySem.Challenge.pw_fenlevel_k14_whole_sure_open_or_none_lef).main.scope,locals:=mainNs,globals:=mainNs,cells:=[],code:=.ref 13,frame:=some 14}
noncomputable def cB:Code:=.body bE eN
noncomputable def fB:List Frame:=[topFrame ⟨0,0,0,0⟩]
noncomputable def sA(w:PySem.World)(os:OsState):Shared:=⟨⟨⟨(oB w.params (d3 w.params "__main__" 164 8) (d4 0)).take 15⟩,{}⟩,#[],{},187,os⟩
noncomputable def sB0(w:PySem.World)(os:OsState):SharedT:=⟨bT (λi=>(oB w.params (d3 w.params "__main__" 164 8) (d4 0)).getD i cT) 15 12 1 0,15,{},#[],{},187,os⟩
noncomputable def sB1(w:PySem.World)(os:OsState):SharedT:=⟨bT (λi=>(oB w.params (d3 w.params "fenlevel.rings" 299 20) (d4 36)).getD i cT) 85 12 1 0,85,{},#[],{},307,os⟩
noncomputable def sB2(w:PySem.World)(os:OsState):SharedT:=⟨bT (λi=>(oB w.params (d3 w.params "law_fenlevel_k14_whole_sure_open_or_none_lef" 433 31) (d4 69)).getD i cT) 160 12 1 0,160,{},#[],{},442,os⟩
noncomputable def sB3(w:PySem.World)(os:OsState):SharedT:=⟨bT (λi=>(oB w.params (d3 w.params "law_fenlevel_k14_whole_sure_open_or_none_lef" 433 44) (d4 108)).getD i cT) 239 12 1 0,239,{},#[],{},565,os⟩
noncomputable def sB4(w:PySem.World)(os:OsState):SharedT:=⟨bT (λi=>(oB w.params (d3 w.params "law_fenlevel_k14_whole_sure_open_or_none_lef" 433 51) (d4 129)).getD i cT) 278 12 1 0,278,{},#[],{},626,os⟩
noncomputable def hE(P:Params):Heap:=⟨⟨oB P (d3 P "law_fenlevel_k14_whole_sure_open_or_none_lef" 433 51) (d4 129)⟩,{}⟩
noncomputable def St0:Prop:=∀(w:PySem.World)(os:OsState),topGo treeTable PySem.Challenge.pw_fenlevel_k14_whole_sure_open_or_none_lef w 11 (some (.ref 6)) 12 ⟨PySem.W.boot_heap w.params,Array.mk [],PySem.W.boot_drawn,PySem.W.boot_toks,os⟩ (topStub PySem.Challenge.pw_fenlevel_k14_whole_sure_open_or_none_lef)=some (sA w os,⟨denote treeTable cB,cB,⟨0,0,0,0⟩,fB⟩)
noncomputable def St1:Prop:=∀(w:PySem.World)(os:OsState),segRun treeTable PySem.Challenge.pw_fenlevel_k14_whole_sure_open_or_none_lef w 11 (some (.ref 6)) 1 1 (sA w os) (blockOf bE eN cB ⟨0,0,0,0⟩ fB)=some (.next,(sB0 w os).abs,cB,⟨0,0,0,0⟩)
noncomputable def St2:Prop:=∀(w:PySem.World)(os:OsState),segRunT treeTable PySem.Challenge.pw_fenlevel_k14_whole_sure_open_or_none_lef w 11 (some (.ref 6)) 1 399 (sB0 w os) (piecesOf ((bE.drop 0).take 16) eN cB ⟨0,0,0,0⟩ fB)=some (.next,sB1 w os,cB,⟨72,0,73,54⟩)
noncomputable def St3:Prop:=∀(w:PySem.World)(os:OsState),segRunT treeTable PySem.Challenge.pw_fenlevel_k14_whole_sure_open_or_none_lef w 11 (some (.ref 6)) 1 397 (sB1 w os) (piecesOf ((bE.drop 16).take 14) eN cB ⟨72,0,73,54⟩ fB)=some (.next,sB2 w os,cB,⟨142,0,143,45⟩)
noncomputable def St4:Prop:=∀(w:PySem.World)(os:OsState),segRunT treeTable PySem.Challenge.pw_fenlevel_k14_whole_sure_open_or_none_lef w 11 (some (.ref 6)) 1 398 (sB2 w os) (piecesOf ((bE.drop 30).take 13) eN cB ⟨142,0,143,45⟩ fB)=some (.next,sB3 w os,cB,⟨246,0,259,35⟩)
noncomputable def St5:Prop:=∀(w:PySem.World)(os:OsState),segRunT treeTable PySem.Challenge.pw_fenlevel_k14_whole_sure_open_or_none_lef w 11 (some (.ref 6)) 1 206 (sB3 w os) (piecesOf ((bE.drop 43).take 7) eN cB ⟨246,0,259,35⟩ fB)=some (.next,sB4 w os,cB,⟨316,0,334,15⟩)
noncomputable def St6:Prop:=∀(w:PySem.World)(os:OsState),topRun treeTable PySem.Challenge.pw_fenlevel_k14_whole_sure_open_or_none_lef w 11 (some (.ref 6)) 2 (sB4 w os).abs ⟨doneF .next,cB,⟨316,0,334,15⟩,fB⟩=some ⟨hE w.params,#[],{},626,os⟩
noncomputable def vw:Program:={PySem.Challenge.pw_fenlevel_k14_whole_sure_open_or_none_lef with main:={(PySem.Challenge.pw_fenlevel_k14_whole_sure_open_or_none_lef).main with body:=[top 1,top 2,top 3,top 5,top 6,top 7,top 8,top 9,top 11,top 12,top 13,top 15,top 16,top 17,top 18,top 20,top 21,top 22,top 24,top 25,top 26,top 27,top 29,top 30,top 31,top 32,top 33,top 34,top 35,top 36,top 37,top 38,top 39,top 40,top 41,top 42,top 43,top 44,top 45,top 46,top 47,top 48,top 49]}}
noncomputable def hA:List Addr:=[3,18,19,25,26,32,33,37,38,42,43,47,48,52,53,59,60,64,65,71,72,78,79,83,84,90,91,97,98,104,105,109,110,116,117,123,124,130,131,137,138,144,145,151,152,158,159,165,166,172,173,177,178,182,183,189,190,194,195,199,200,206,207,211,212,216,217,223,224,230,231,237,238,242,243,247,248,254,255,259,260,264,265,269,270,276,277]
noncomputable def hK(P:Params):List (Nat×Obj):=hA.map λa=>(a,(oB P (d3 P "law_fenlevel_k14_whole_sure_open_or_none_lef" 433 51) (d4 129)).getD a cT)
noncomputable def hH:PySem.W.Hook:=kHook hK hA (λ_=>by kernel_rfl)
noncomputable def xT(s:Shared):Bool:=xlAt vw [] s&&recOk (RowW.records (PySem.Challenge.rw_fenlevel_k14_whole_sure_open_or_none_lef).row.toRowW) s
noncomputable def StZ:Prop:=∀w:PySem.World,((PySem.W.boot_heap w.params).isNs mainGlobals&&(Array.mk []:Array GenState).size==0,(PySem.W.boot_heap w.params).objs.size,(PySem.W.boot_heap w.params).nsMap mainGlobals "__annotations__")=(true,11,some (.ref 6))
noncomputable def StA:Prop:=∀(w:PySem.World)(os:OsState),(staticsOk (importedModules (PySem.Challenge.pw_fenlevel_k14_whole_sure_open_or_none_lef).main.body) (PySem.W.boot_heap w.params) (hE w.params)&&namesBound PySem.Challenge.pw_fenlevel_k14_whole_sure_open_or_none_lef (hE w.params)&&gensDone ⟨hE w.params,#[],{},626,os⟩&&laidKept (PySem.W.boot_heap w.params) (hE w.params))=true
noncomputable def StB:Prop:=∀(w:PySem.World)(os:OsState),openSeen vw [] (importedModules (PySem.Challenge.pw_fenlevel_k14_whole_sure_open_or_none_lef).main.body) xT true ⟨hE w.params,#[],{},626,os⟩=openGood vw []
noncomputable def StC:Prop:=∀(w:PySem.World)(os:OsState),hH.obs ⟨hE w.params,#[],{},626,os⟩=hH.val w
def pr0:(Function.const Prop true (St0/\St1/\St2/\St3/\St4/\St5/\St6/\StZ/\StA/\StB/\StC))=true:=by k_qdec
def th0:St0:=PySem.W.Fast.te937873346748051313.mpr (λ_ _=>by kernel_rfl)
def th1:St1:=PySem.W.Fast.te13982121027552719780.mpr (λ_ _=>by kernel_rfl)
def th2:St2:=PySem.W.Fast.te10105581574835445100.mpr (λ_ _=>by kernel_rfl)
def th3:St3:=PySem.W.Fast.te16437609458486848278.mpr (λ_ _=>by kernel_rfl)
def th4:St4:=PySem.W.Fast.te13904560402631476566.mpr (λ_ _=>by kernel_rfl)
def th5:St5:=PySem.W.Fast.te6988618110474044161.mpr (λ_ _=>by kernel_rfl)
def th6:St6:=PySem.W.Fast.te18292254230441717836.mpr (λ_ _=>by kernel_rfl)
def thZ:StZ:=PySem.W.Fast.te16988565736444548789.mpr (λ_=>by kernel_rfl)
def thA:StA:=PySem.W.Fast.te17744963595637626835.mpr (λ_ _=>by kernel_rfl)
def thB:StB:=PySem.W.Fast.te8016293489012441566.mpr (λ_ _=>by kernel_rfl)
def thC:StC:=PySem.W.Fast.te1647357278597937641.mpr (λ_ _=>by kernel_rfl)
def gr{tb:String->Option Builtin}{p:Program}{w:PySem.World}{n₀:Nat}{ann:Option Value}{env:PySem.Env}{q:Pos}{n N:Nat}{s s' r:Shared}{c:Code}{pos p':Pos}(l:List Stmt)(a k:Nat)(h:segRun tb p w n₀ ann 1 n s (piecesOf ((l.drop a).take k) env c pos [topFrame q])=some (.next,s',c,p'))
  (z:topRun tb p w n₀ ann N s' (restOf (l.drop (a+k)) env c p' [topFrame q])=some r):topRun tb p w n₀ ann (n+N) s (restOf (l.drop a) env c pos [topFrame q])=some r:=by
 have:=piece_app (rest:=(l.drop a).drop k) h (by rw[List.drop_drop];exact z)
 rwa[YBZ]at this
def zqh:bE.drop 50=[]:=by kernel_rfl
def zqe:∀(w:PySem.World)(os:OsState),topRun treeTable PySem.Challenge.pw_fenlevel_k14_whole_sure_open_or_none_lef w 11 (some (.ref 6)) (12+(1+(399+(397+(398+(206+2)))))) ⟨PySem.W.boot_heap w.params,Array.mk [],PySem.W.boot_drawn,PySem.W.boot_toks,os⟩ (topStub PySem.Challenge.pw_fenlevel_k14_whole_sure_open_or_none_lef)=some ⟨hE w.params,#[],{},626,os⟩:=λw os=>
 go_top (th0 w os) (piece_block (th1 w os) (gr bE 0 16 (segRun_of (th2 w os)) (gr bE 16 14 (segRun_of (th3 w os)) (gr bE 30 13 (segRun_of (th4 w os)) (gr bE 43 7 (segRun_of (th5 w os)) (by rw[zqh];exact piece_nil (th6 w os)))))))
def left_o:LeftO PySem.Challenge.pw_fenlevel_k14_whole_sure_open_or_none_lef vw [] xT hH.obs hH.val 2918:=
 LeftO.of_pieces (boot_open (by kernel_rfl) (by kernel_rfl) (λ_=>by kernel_rfl)) thZ zqe (by kernel_rfl) λw=>funext λos=>looks_pair (thA w os) (looks_pair (thB w os) (thC w os))
end
end Hd
namespace Fd
open PySem L2 Fen Hd
def us0{p:List Value->Prop}(k:p []):∀us:List Value,us.length=0->p us
 |[],_=>k
def usS{p:List Value->Prop}{n:Nat}(k:∀(a:Value) (us:List Value),us.length=n->p (a::us)):∀us:List Value,us.length=n+1->p us
 |a::us,h=>k a us (Nat.succ.inj h)
noncomputable def fdOf(P:Params)(f:Addr):FuncData:=match List.lookup f (hK P)with
 |some ⟨_,_,.func d,_⟩=>d
 |_=>fD "" (.Pass ⟨0,0,0,0⟩) "" 0 0
noncomputable def fcOf(P:Params)(f:Addr):Addr:=match (fdOf P f).code with
 |.ref c=>c
 |_=>0
noncomputable def fmOf(P:Params)(f:Addr):Value:=(fdOf P f).pyModule
noncomputable abbrev fE(P:Params)(x:Str)(s:Stmt)(f:Addr):FuncData:=PySem.W.fnOf x x (zdh s) (zcg s) (zat s) .none .none .none (fmOf P f) none (.ref (fcOf P f)) .none
def fF{P:Params}(x:Str)(s:Stmt)(f:Addr)(l:List.lookup f (hK P)=some ⟨.type "function",none,.func (fE P x s f),#[]⟩:=by kernel_rfl)(y:PySem.W.codeIn (hK P) (.ref (fcOf P f)) x=true:=by kernel_rfl):Fun (hK P) x x s f (fE P x s f):=zrd l y (by simp only[PySem.W.keepIn,l])
def mkC{P:Program}{w:PySem.World}{base h:Heap}{mg:Str->Option Value}(X:PySem.W.Frag.In (hK w.params) h)(G:h.Ns mainGlobals mg){k:Nat}{ps:List Str}{sp:Sp}(x:Str)(s:Stmt)(f:Addr)(ok:∀{fd:FuncData},Fun (hK w.params) x x s f fd->FnOk P w (hK w.params) mg base CX0 k f fd ps sp)
  (F:Fun (hK w.params) x x s f (fE w.params x s f):=by exact fF _ _ _) (m:PySem.W.nsIn (hK w.params) mainGlobals x=some (some (.ref f)):=by kernel_rfl)
  (b:∀(kV doc pm:Value)(an:Option Addr)(cdv ct:Value)(us:List Value),us.length=ps.length->bindArgs (PySem.W.fnOf x x (zdh s) (zcg s) (zat s) .none kV doc pm an cdv ct) ⟨us,[]⟩=pure (ps.zip us):=by(intro _ _ _ _ _ _;repeat (first|exact us0 rfl|refine usS λ_=>?_))):Cal P w (hK w.params) mg base x k ps sp:=
 Cal.of F (ok F) (YBE X G m) (F.binds b)
def all_mk{l:PySem.W.OpenLaw}{w:PySem.World}{h:Heap}{mg:Str->Option Value}{fa:Addr}(X:PySem.W.Frag.In (hK w.params) h)(G:h.Ns mainGlobals mg)(hfa:mg "law"=some (.ref fa)) :
  ∃fd:FuncData,(∀(s:Shared)(v:Value),BindsTo s fd ⟨[v],[]⟩ [("_law_script",v)])/\∀base:Heap,PySem.W.Frag.In (hK w.params) base->base.Ns mainGlobals mg->FnOk l.prog w (hK w.params) mg base CX0 15 fa fd ["_law_script"] (zmT (hK w.params)):=by
 have e:=hfa.symm.trans (YBE X G (v:=.ref 277) (by kernel_rfl));cases e;have qp:∀{x:Str},PySem.W.nsIn (hK w.params) mainGlobals x=some none->mg x=none:=PySem.W.mg_none_of X G;have T:Bt mg:=⟨qp (by kernel_rfl),qp (by kernel_rfl),qp (by kernel_rfl),qp (by kernel_rfl),qp (by kernel_rfl),qp (by kernel_rfl),qp (by kernel_rfl),qp (by kernel_rfl),qp (by kernel_rfl),qp (by kernel_rfl),qp (by kernel_rfl),qp (by kernel_rfl),qp (by kernel_rfl),qp (by kernel_rfl),qp (by kernel_rfl),qp (by kernel_rfl)⟩;have F:=fF (P:=w.params) "law" sLaw 277;refine⟨fE w.params "law" sLaw 277,λs v=>.of_eq rfl,λbase _ _=>?_⟩;have M:=@mkC l.prog w base h mg X G;have F0:=fF (P:=w.params) "steps_from" zbT 19;have b0:=F0.binds (ps:=["size","runs","struck"]) λ_ _ _ _ _ _=>usS λ_=>usS λ_=>usS λ_=>us0 rfl;have m0:mg "steps_from"=_:=YBE X G (v:=.ref 19) (by kernel_rfl);have h_steps:=Fen.Cal.of F0 (Fen.zoF (P:=l.prog) (w:=w) (base:=base) F0 ⟨T.list,T.len,T.range⟩ T.enumerate) m0 b0;have F1:=fF (P:=w.params) "tree_from" zcM 26;have b1:=F1.binds (ps:=["start","steps"]) λ_ _ _ _ _ _=>usS λ_=>usS λ_=>us0 rfl;have m1:mg "tree_from"=_:=YBE X G (v:=.ref 26) (by kernel_rfl);have h_tree:=Fen.Cal.of F1 (Fen.zqc (P:=l.prog) (w:=w) (base:=base) F1 ) m1 b1;have F2:=fF (P:=w.params) "trees_of" zdC 33;have b2:=F2.binds (ps:=["size","runs","struck"]) λ_ _ _ _ _ _=>usS λ_=>usS λ_=>usS λ_=>us0 rfl;have m2:mg "trees_of"=_:=YBE X G (v:=.ref 33) (by kernel_rfl);have h_trees:=Fen.Cal.of F2 (Fen.zoE (P:=l.prog) (w:=w) (base:=base) F2 ⟨T.list,T.len,T.range⟩ h_steps h_tree) m2 b2;have oi:=M "hands_of" zeC 38 λF=>zjZ F T;have oA:=M "left" zml 43 λF=>zpB F T;have qd:=M "holds" zd9 48 λF=>zhO F T;have oU:=M "groups" zdm 53 λF=>zgb F ⟨T.all,T.isinstance,T.tuple,T.bool,T.int,T.str,T.sorted,T.set⟩ h_trees;have F5:=fF (P:=w.params) "holds" zd9 48;have b5:=F5.binds (ps:=["runs","heights"]) λ_ _ _ _ _ _=>usS λ_=>usS λ_=>us0 rfl;have m5:mg "holds"=_:=YBE X G (v:=.ref 48) (by kernel_rfl);have h_holds:=Fen.Cal.of F5 (Fen.zhO (P:=l.prog) (w:=w) (base:=base) F5 ⟨T.all,T.isinstance,T.tuple,T.bool,T.int,T.str,T.sorted,T.set⟩) m5 b5;have oz:=M "flat" zjE 60 λF=>zjz F h_trees h_holds;have ot:=M "lists_of" zec 65 λF=>zjw F T;have oM:=M "false_sets" zcL 72 λF=>zhy F T oi ot oz oA;have oT:=M "reading" zem 79 λF=>zli F T oi ot oz oA;have oC:=M "line_hands" zcD 84 λF=>zho F T oi;have oJ:=M "some_line" zcb 91 λF=>zdf F h_steps h_tree;have F13:=fF (P:=w.params) "across" zeI 98;have b13:=F13.binds (ps:=["first","second"]) λ_ _ _ _ _ _=>usS λ_=>usS λ_=>us0 rfl;have m13:mg "across"=_:=YBE X G (v:=.ref 98) (by kernel_rfl);have h_across:=Fen.Cal.of F13 (Fen.zmy (P:=l.prog) (w:=w) (base:=base) F13 ⟨T.list,T.len,T.range⟩ T.min) m13 b13;have oI:=M "open_ring" zch 105 λF=>ziB F T.enumerate h_trees h_across;have F15:=fF (P:=w.params) "paper_without" zbL 110;have b15:=F15.binds (ps:=["size","runs","many","struck","ends"]) λ_ _ _ _ _ _=>usS λ_=>usS λ_=>usS λ_=>usS λ_=>usS λ_=>us0 rfl;have m15:mg "paper_without"=_:=YBE X G (v:=.ref 110) (by kernel_rfl);have r_paper_without:=zc4 (P:=l.prog) (w:=w) (base:=base) F15 m15 b15 T oI oC oJ;have oj:=M "some_paper" zcA 117 λF=>zhn F T (Cal.of F15 (r_paper_without 6) m15 b15);have oN:=M "none_paper" zcC 124 λF=>zhX F T oj oT;have oV:=M "lifted" zfY 131 λF=>zmU F T oU;have om:=M "readings_to_compare" za5 138 λF=>zc8 F T oM oA oz oV;have ou:=M "rise_between" zb5 145 λF=>zgc F T;have oX:=M "told" zmO 152 λF=>zp8 F T om ou oj oN;have cB:=M "_law_box" sBox 159 λF=>Fen.zrN F ⟨T.list,T.len,T.range⟩;have og:=M "_law_take" zjH 166 λF=>zjD F T;have oD:=M "_law_great" zh7 173 λF=>zhS F T og;have F25:=fF (P:=w.params) "_law_same" zmN 178;have b25:=F25.binds (ps:=["_law_found","_law_due"]) λ_ _ _ _ _ _=>usS λ_=>usS λ_=>us0 rfl;have m25:mg "_law_same"=_:=YBE X G (v:=.ref 178) (by kernel_rfl);have r__law_same:=ze2 (P:=l.prog) (w:=w) (base:=base) F25 m25 b25 T;have ow:=M "_law_numbers" zdZ 183 λF=>zfN F T;have ox:=M "_law_other_rise" zi0 190 λF=>zeh F T og oD;have oP:=M "_law_world" zi3 195 λF=>zh3 F T og ox;have oq:=M "_law_left" zno 200 λF=>ziu F T;have oG:=M "_law_settled" zeB 207 λF=>zfB F T;have oh:=M "_law_hands" zjp 212 λF=>zhe F T;have oO:=M "_law_lists" zic 217 λF=>zhB F T;have oR:=M "_law_sets" zm2 224 λF=>zim F T oO oh oG oq;have oH:=M "_law_verdict" zez 231 λF=>zf5 F T;have oK:=M "_law_walk" zmA 238 λF=>ziF F T;have F36:=fF (P:=w.params) "_law_formed" zfA 243;have b36:=F36.binds (ps:=["_law_paper","_law_deep"]) λ_ _ _ _ _ _=>usS λ_=>usS λ_=>us0 rfl;have m36:mg "_law_formed"=_:=YBE X G (v:=.ref 243) (by kernel_rfl);have r__law_formed:=zdJ (P:=l.prog) (w:=w) (base:=base) F36 m36 b36 T;have F37:=fF (P:=w.params) "_law_sound" zh6 248;have b37:=F37.binds (ps:=["_law_size","_law_runs","_law_paper","_law_many","_law_struck","_law_wish"]) λ_ _ _ _ _ _=>usS λ_=>usS λ_=>usS λ_=>usS λ_=>usS λ_=>usS λ_=>us0 rfl;have m37:mg "_law_sound"=_:=YBE X G (v:=.ref 248) (by kernel_rfl);have r__law_sound:=zek (P:=l.prog) (w:=w) (base:=base) F37 m37 b37 T oK oh;have oE:=M "_law_shows" ziN 255 λF=>zhY F T (Cal.of F36 (r__law_formed 6) m36 b36) (Cal.of F37 (r__law_sound 6) m37 b37);have oF:=M "_law_explains" zdt 260 λF=>zfd F T ow oq oh;have oy:=M "_law_told_right" zcK 265 λF=>zep F T oE (Cal.of F25 (r__law_same 6) m25 b25) oF;have oS:=M "_law_kept" zmF 270 λF=>ziG F T;exact zrg F T cB oP og oR oH oX oS (Cal.of F25 (r__law_same 13) m25 b25) oy zqz
def walk{l:PySem.W.OpenLaw}{q:Program}{loose:List Str}{XP:(Str->Option Value)->Heap->Prop}{YP:PySem.World->Heap->Prop}{d:DefRec}{K:Params->qq}(hn:l.most=some 63)(hdf:d.params.defaults=[])
  (hY:∀(w:PySem.World)(h:Heap),YP w h->(K w.params).In h)
  (F:∀(w:PySem.World)(mg:Str->Option Value)(fa:Addr)(h:Heap),(K w.params).In h->h.Ns mainGlobals mg->mg d.name=some (.ref fa) ->
   ∃fd:FuncData,(∀(s:Shared)(u:Value),BindsTo s fd ⟨[u],[]⟩ [("_law_script",u)])/\∀base:Heap,(K w.params).In base->base.Ns mainGlobals mg->FnOk l.prog w (K w.params) mg base CX0 15 fa fd ["_law_script"] (zmT (K w.params))) :
  PySem.W.WalkO q loose XP YP l.row.toRowW d [] (λf vs=>PySem.call f vs):=
 L2.zpG (n:=63) (k:=15) (x:="_law_script") (CX:=λ_=>CX0) (sp:=λw=>zmT (K w.params)) hn (by decide) hdf ⟨rfl,by decide,by decide⟩ hY F (λ_ _ a ns hl _ hS=>⟨a,ns,rfl,hS,hl,λ_=>rfl⟩) λ_ _ _ _ _ z=>z
end Fd
open PySem PySem.W PyProof.Rows
set_option maxRecDepth 100000 in
set_option maxHeartbeats 0 in
theorem PySem.Challenge.cw_fenlevel_k14_whole_sure_open_or_none_lef_holds : PySem.Challenge.rw_fenlevel_k14_whole_sure_open_or_none_lef.Holds := by
 w_on;o_law
 refine holds_open (q:=Hd.vw) (loose:=[]) (Xt:=Hd.xT) (XP:=XL Hd.vw []) (Yf:=Hd.hH.obs) (Ya:=Hd.hH.val) (YP:=Hd.hH.says) (N:=2918) Hd.left_o Hd.hH.of Hd.hH.keeps (λs e=>xl_of s (YCT.mp e).1) XL.keeps (by rfl) (by rfl) (by rfl) (λs e=>recFacts_of (YCT.mp e).2) (by rfl) (by first|assumption|decide +kernel) (by decide +kernel) ⟨rfl,rfl,rfl,rfl,rfl,by decide +kernel⟩ ?hw ?hc
 (case hw=>w_witness2)
 exact Fd.walk (l:=PySem.Challenge.rw_fenlevel_k14_whole_sure_open_or_none_lef) rfl rfl (λw h qo=>PySem.W.kIn_of qo) (λw mg fa h KX G hmg=>Fd.all_mk KX G hmg)
