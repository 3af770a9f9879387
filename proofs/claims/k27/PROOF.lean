import PyProof.Rows.All
import Wide.All
import OpenK.AllK
import Wide.FinOn
import Lean
import PyProof.EqAt
import PyProof.EqKinds
import PyProof.TupleCall
import PyProof.SetKind
import PyProof.Rows.SortShell
import PyProof.SetRoads
import PyProof.ListNew
import PyProof.CollectWalk
import PyProof.Rows.SetFrom
import PyProof.NeKinds
import PyProof.IsiHeapPairs
import PyProof.IsiNone
import PyProof.IsiPairs
import PyProof.ZipIter
import PyProof.Draws
import PyProof.WalksMore
import PyProof.EnumMake
import PyProof.EnumFor
import PyProof.ListRange
import PyProof.RangeFor
import PyProof.DictUpdate
import PyProof.DictItemsLoops
import PyProof.DictWalks
import PyProof.DictIter
import PyProof.P3Eq
import PyProof.P3In
import PyProof.NeData
import KE.KTryMore
import PyProof.ExcArgsOwn
import PyProof.StrOps2
import PyProof.TupleKey
import PyProof.DictFindH
import PyProof.MeetsDict
import PyProof.Rows.RuleN_abs
import PySem.Challenge.RW_fenlevel_k27_set_aside_and_heeded
abbrev qk:=PySem.W.Frag
set_option compiler.extract_closed false
noncomputable section
set_option linter.all false
def YAa:=@PySem.wpAny_bind
def YAb:=@List.length_map
def YAc:=@PySem.Heap.get?_push_of_some
def YAd:=@PySem.wpAny_pure
def YAe:=@List.getElem?_eq_some_iff
def YAf:=@List.getElem?_eq_getElem
def YAg:=@List.mem_cons_self
def YAh:=@PySem.Heap.lt_size
def YAi:=@List.getElem?_set_self
def YAj:=@List.mem_cons_of_mem
def YAk:=@List.length_append
def YAl:=@List.getElem?_set_ne
def YAm:=@List.map_cons
def YAn:=@PySem.Heap.get?_push_size
def YAo:=@Nat.le_refl
def YAp:=@decide_eq_false
def YAq:=@List.size_toArray
def YAr:=@Nat.lt_of_lt_of_le
def YAs:=@Nat.ne_of_lt
def YAt:=@decide_eq_true
def YAu:=@List.getElem?_map
def YAv:=@List.mem_cons
def YAw:=@List.mem_singleton
def YAx:=@Nat.le_trans
def YAy:=@List.length_cons
def YAz:=@List.getElem?_cons_succ
def YAA:=@Bool.and_eq_true
def YAB:=@List.not_mem_nil
def YAC:=@List.map_append
def YAD:=@of_decide_eq_true
def YAE:=@List.mem_append_right
def YAF:=@PySem.wpAny_field
def YAG:=@List.mem_append
def YAH:=@PySem.wpAny_callSpecial?_slot
def YAI:=@PySem.wpAny_newObj_type
def YAJ:=@PySem.Heap.get?_update_other
def YAK:=@Ne.symm
def YAL:=@List.getD_eq_getElem?_getD
def YAM:=@List.mem_map
def YAN:=@List.map_map
def YAO:=@List.lookup_cons
def YAP:=@List.nodup_cons
def YAQ:=@PyProof.Rows.slot_tuple_getitem
def YAR:=@PySem.Heap.get?_update_self
def YAS:=@PySem.W.segRun_of
def YAT:=@PySem.wpAny_mono
def YAU:=@beq_eq_false_iff_ne
def YAV:=@List.filterMap_cons
def YAW:=@PySem.wpAny_holding
def YAX:=@PySem.sizeLine_eq
def YAY:=@PySem.W.mg_of
def YAZ:=@Int.eq_ofNat_of_zero_le
def YA0:=@List.forall_mem_cons
def YA1:=@List.append_nil
def YA2:=@PySem.wpAny_call_entry
def YA3:=@PySem.wpAny_truthy_bool
def YA4:=@PySem.wpAny_Call_Name_kw
def YA5:=@Int.emod_lt_of_pos
def YA6:=@List.getElem?_append_left
def YA7:=@PySem.mem_of_lookup
def YA8:=@List.replicate_succ
def YA9:=@List.length_range
def YBa:=@PySem.F.slot_dict_keyiterator_next
def YBb:=@Nat.lt_irrefl
def YBc:=@Bool.false_ne_true
def YBd:=@List.map_nil
def YBe:=@Array.length_toList
def YBf:=@decide_eq_true_eq
def YBg:=@PySem.wpAny_seqItems
def YBh:=@Array.getElem?_eq_getElem
def YBi:=@List.length_zip
def YBj:=@Int.emod_nonneg
def YBk:=@List.mem_filterMap
def YBl:=@PySem.wpAny_setField_rec
def YBm:=@PySem.wpAny_typeNameOfWhole_keyiter
def YBn:=@List.mem_append_left
def YBo:=@Decidable.of_not_not
def YBp:=@List.getElem?_replicate
def YBq:=@PySem.Heap.size_push
def YBr:=@List.flatten_cons
def YBs:=@PyProof.Rows.callWith_type1
def YBt:=@PyProof.Rows.boot_list
def YBu:=@List.getElem?_append_right
def YBv:=@PySem.F.slot_tuple_iterator_next
def YBw:=@Array.getElem?_eq_some_iff
def YBx:=@List.all_eq_true
def YBy:=@List.getElem_mem
def YBz:=@Nat.ne_of_gt
def YBA:=@Bool.false_eq_true
def YBB:=@PySem.Obj.data_mapFields
def YBC:=@List.map_singleton
def YBD:=@PySem.wpAny_setField
def YBE:=@List.drop_eq_getElem_cons
def YBF:=@List.mem_filter
def YBG:=@Int.toNat_natCast
def YBH:=@Nat.min_self
def YBI:=@Nat.zero_le
def YBJ:=@PySem.wpAny_attempt
def YBK:=@List.map_congr_left
def YBL:=@false_implies
def YBM:=@List.length_take
def YBN:=@PySem.W.callWith_K
def YBO:=@PySem.wpAny_execs_nil
def YBP:=@List.find?_cons
def YBQ:=@PySem.Obj.isFreed_of_fields
def YBR:=@PySem.F.slot_zip_next
def YBS:=@implies_true
def YBT:=@List.contains_iff_mem
def YBU:=@PySem.wpAny_pyIter_list
def YBV:=@PySem.wpAny_isInstance
def YBW:=@Nat.le_add_right
def YBX:=@PySem.Heap.SameBut.update
def YBY:=@Option.isSome_iff_exists
def YBZ:=@PySem.F.args_tuple_add_2
def YB0:=@List.length_filterMap_le
def YB1:=@PySem.wpAny_passesOwn
def YB2:=@PySem.F.entry_tuple_add
def YB3:=@List.length_set
def YB4:=@List.any_cons
def YB5:=@PySem.tupleKind_room_in1
def YB6:=@decide_eq_false_iff_not
def YB7:=@PySem.F.plainAttrs_list
def YB8:=@or_false
def YB9:=@PySem.W.cellsFrom_some
def YCa:=@PySem.F.slot_tuple_add
def YCb:=@List.range_succ_eq_map
def YCc:=@List.take_of_length_le
def YCd:=@PyProof.Rows.boot_dict
def YCe:=@PySem.wpAny_rule
def YCf:=@beq_iff_eq
def YCg:=@List.append_assoc
def YCh:=@PySem.Obj.cls_mapFields
def YCi:=@Nat.lt_succ_of_lt
def YCj:=@List.mem_range
def YCk:=@if_false
def YCl:=@PySem.codeAny_mono
def YCm:=@PySem.W.methodCall_KW
def YCn:=@List.length_singleton
def YCo:=@Array.getElem?_toList
def YCp:=@List.length_filter_le
def YCq:=@PySem.wpAny_execs_cons
def YCr:=@Nat.lt_succ_self
def YCs:=@Nat.min_le_right
def YCt:=@List.length_drop
def YCu:=@List.mem_of_getElem?
def YCv:=@PySem.wpAny_updateSeq_pair
def YCw:=@Bool.and_eq_true_iff
def YCx:=@Bool.or_eq_false_iff
def YCy:=@PySem.wpAny_standAt
def YCz:=@PySem.wpAny_onRaise
def YCA:=@PySem.call_meets
def YCB:=@PySem.W.plainGet_of
def YCC:=@PySem.W.callWith_K0
def YCD:=@List.of_mem_zip
def YCE:=@List.forIn_cons
def YCF:=@ne_true_of_eq_false
def YCG:=@Nat.min_eq_left
def YCH:=@PyProof.Rows.assignInOrder_cons
def YCI:=@PySem.wpAny_typeOf
def YCJ:=@PySem.F.args_str_split_2
def YCK:=@List.map_filterMap
def YCL:=@if_true
def YCM:=@PySem.isSubtype_stop
def YCN:=@Nat.mul_le_mul
def YCO:=@PySem.wpAny_Name
def YCP:=@PySem.wpAny_Assign_Name
def YCQ:=@PySem.wpAny_call
def YCR:=@PySem.typeIs_str
def YCS:=@Option.isSome_map
def YCT:=@PySem.F.args_zip_next_1
def YCU:=@Option.some.injEq
def YCV:=@Nat.le_succ_of_le
def YCW:=@PySem.F.entry_str_split
def YCX:=@PySem.wpAny_dictEntries
def YCY:=@and_true
def YCZ:=@PySem.noFill_tuple_add
def YC0:=@List.zipIdx_cons
def YC1:=@PySem.F.entry_zip_next
def YC2:=@List.drop_length
def YC3:=@PySem.F.slot_str_split
def YC4:=@List.filter_cons
def YC5:=@List.nil_append
def YC6:=@PySem.wpAny_specialOf
def YC7:=@List.zipIdx_nil
def YC8:=@Option.map_some
def YC9:=@PySem.wpAny_dictEpoch
def YDa:=@PySem.wpAny_updateSeq
def YDb:=@Int.ediv_nonneg
def YDc:=@List.forIn_nil
def YDd:=@List.nodup_nil
def YDe:=@PySem.boot_len
def YDf:=@PySem.wpAny_letGo
set_option Elab.async false
set_option linter.all false
set_option maxRecDepth 100000
namespace L2
open PySem PySem.Spec PyProof.Rows
abbrev Key:=Sum Int Str
def zkP:Key->Value->Bool
 |.inl k,v=>Value.isInt k v
 |.inr x,v=>Value.isStrOf x v
def keyH(w:World):Key->Int
 |.inl k=>hashInt k
 |.inr x=>hashStr w x
def za7:∀{k:Key}{v:Value},zkP k v=true->(∃i t,k=Sum.inl i/\v=Value.int i t)\/(∃x t,k=Sum.inr x/\v=Value.str x t)
 |.inl i,v,h=>by
  obtain⟨t,e⟩:=Value.isInt_shape (k:=i) (v:=v) h;exact .inl ⟨i,t,rfl,e⟩
 |.inr x,v,h=>by
  obtain⟨t,e⟩:=Value.isStrOf_shape (x:=x) (v:=v) h;exact .inr ⟨x,t,rfl,e⟩
def znF(i:Int)(t:Tok):zkP (.inl i) (.int i t)=true:=by simp[zkP,Value.isInt]
def zgS(x:Str)(t:Tok):zkP (.inr x) (.str x t)=true:=by simp[zkP,Value.isStrOf]
def zt2(a b:Int):decide ((Sum.inl a:Key)=Sum.inl b)=(a==b):=by
 by_cases e:a=b
 .subst e;simp
 .have h:¬ (Sum.inl a:Key)=Sum.inl b:=λq=>e (Sum.inl.inj q);rw[YAp h];exact(YAU.mpr e).symm
def zuh(a b:Str):decide ((Sum.inr a:Key)=Sum.inr b)=decide (a=b):=by
 by_cases e:a=b
 .subst e;simp
 .have h:¬ (Sum.inr a:Key)=Sum.inr b:=λq=>e (Sum.inr.inj q);rw[YAp h,YAp e]
def zuU(a:Int)(b:Str):decide ((Sum.inl a:Key)=Sum.inr b)=false:=YAp (λq=>nomatch q)
def ztd(a:Str)(b:Int):decide ((Sum.inr a:Key)=Sum.inl b)=false:=YAp (λq=>nomatch q)
noncomputable def za2(prog:Program)(w:World):PySem.KeyKind prog w Key where
 is:=zkP
 hash:=keyH w
 inj:=λv a b ha hb=>by
  rcases za7 ha with⟨i,t,rfl,rfl⟩|⟨x,t,rfl,rfl⟩
  .rcases za7 hb with⟨j,u,rfl,e⟩|⟨y,u,rfl,e⟩
   .injection e with e1 _;rw[e1]
   .exact nomatch e
  .rcases za7 hb with⟨j,u,rfl,e⟩|⟨y,u,rfl,e⟩
   .exact nomatch e
   .injection e with e1 _;rw[e1]
 byValue:=λk v h=>by
  rcases za7 h with⟨i,t,rfl,rfl⟩|⟨x,t,rfl,rfl⟩<;>rfl
 pyHash:=λhv h=>by
  rcases za7 hv with⟨i,t,rfl,rfl⟩|⟨x,t,rfl,rfl⟩
  .exact wpAny_pyHash_int h
  .exact wpAny_pyHash_str h
 eqBool:=λhu hv h=>by
  rcases za7 hu with⟨i,t,rfl,rfl⟩|⟨x,t,rfl,rfl⟩
  .rcases za7 hv with⟨j,u,rfl,rfl⟩|⟨y,u,rfl,rfl⟩
   .rw[zt2]at h;exact wpAny_eqBool_int h
   .rw[zuU]at h;exact SeqAt.EqAt.int_str i t y u _ _ _ _ h
  .rcases za7 hv with⟨j,u,rfl,rfl⟩|⟨y,u,rfl,rfl⟩
   .rw[ztd]at h;exact SeqAt.EqAt.str_int x t j u _ _ _ _ h
   .rw[zuh]at h;exact wpAny_eqBool_str h
 «strs»:=λk x t v h=>by
  rcases za7 h with⟨i,u,rfl,e⟩|⟨y,u,rfl,e⟩
  .exact nomatch e
  .injection e with e1 _
   subst e1;cases v<;>rfl
def zkB(prog:Program)(w:World)(i:Int)(t:Tok):(za2 prog w).is (.inl i) (.int i t)=true:=znF i t
def zkO(prog:Program)(w:World)(x:Str)(t:Tok):(za2 prog w).is (.inr x) (.str x t)=true:=zgS x t
inductive V where
 |non|bl (b:Bool)|int (i:Int)|str (x:Str)|byt (b:Array UInt8)|flt (b:UInt64)|ref (a:Addr)|ty (n:String)
 deriving DecidableEq
def RelV:V->Value->Prop
 |.non,u=>u=Value.none
 |.bl b,u=>u=Value.bool b
 |.int i,u=>∃t,u=Value.int i t
 |.str x,u=>∃t,u=Value.str x t
 |.byt b,u=>∃t,u=Value.bytes b t
 |.flt b,u=>∃t,u=Value.float b t
 |.ref a,u=>u=Value.ref a
 |.ty n,u=>u=Value.type n
abbrev Vals:List V->List Value->Prop:=Paired RelV
theorem Vals.length{xs:List V}{us:List Value}(r:Vals xs us):xs.length=us.length:=Paired.length r
theorem Vals.get:∀{xs:List V}{us:List Value}{i:Nat}{x:V},Vals xs us->xs[i]?=some x->∃u,us[i]?=some u/\RelV x u
 |_,_,_,_,.nil,e=>by simp at e
 |_,_,0,_,.cons r _,e=>by simp at e;subst e;exact⟨_,rfl,r⟩
 |_,_,i+1,x,.cons _ t,e=>by
  obtain⟨u,h1,h2⟩:=Vals.get (i:=i) (x:=x) t (by simpa using e);exact⟨u,by simpa using h1,h2⟩
theorem Vals.set(r:RelV x u):∀{xs:List V}{us:List Value}(i:Nat),Vals xs us->Vals (xs.set i x) (us.set i u)
 |_,_,_,.nil=>.nil
 |_,_,0,.cons _ t=>.cons r t
 |_,_,i+1,.cons q t=>.cons q (Vals.set r i t)
theorem Vals.append:∀{xs ys:List V}{us ws:List Value},Vals xs us->Vals ys ws->Vals (xs++ys) (us++ws)
 |_,_,_,_,.nil,s=>s
 |_,_,_,_,.cons r t,s=>.cons r (Vals.append t s)
theorem Vals.take:∀{xs:List V}{us:List Value}(n:Nat),Vals xs us->Vals (xs.take n) (us.take n)
 |_,_,0,_=>.nil
 |_,_,_+1,.nil=>.nil
 |_,_,n+1,.cons r t=>.cons r (Vals.take n t)
theorem Vals.drop:∀{xs:List V}{us:List Value}(n:Nat),Vals xs us->Vals (xs.drop n) (us.drop n)
 |_,_,0,r=>r
 |_,_,_+1,.nil=>.nil
 |_,_,n+1,.cons _ t=>Vals.drop n t
def RelO:Option V->Option Value->Prop
 |some v,some u=>RelV v u
 |none,none=>True
 |_,_=>False
def KV{κ:Type}:List (κ×V)->List (κ×Value)->Prop:=Paired λ(p:κ×V) (q:κ×Value)=>p.1=q.1/\RelV p.2 q.2
def kV:Key->V
 |.inl i=>.int i
 |.inr x=>.str x
inductive HO where
 /-- a list -/
 |lst (xs:List V)
 /-- a tuple (never changes) -/
 |tup (xs:List V)
 /-- a dict whose keys are ints and texts;one whose keys are tuples of ints and texts (the empty one is both) -/
 |dK (kvs:List (Key×V))|dT (kvs:List (List Key×V))
 /-- a set of ints: its members,its size -/
 |set (qj:Int->Bool) (n:Nat)
 /-- an instance of the class at C,its dict at dx,its attributes -/
 |ins (C dx:Addr) (fs:List (Str×V))
 /-- the dict of the instance at x -/
 |own (x:Addr)
 /-- the dict of an exception -/
 |xd (fs:List (Str×V))
 /-- a bound method,f of x -/
 |met (f x:Addr)
 /-- a range object lo,lo + 1,.. below hi -/
 |rng (lo hi:Int)
 /-- a thing that is known to the object (the script;a dict while a loop walks it): read,never written while it is so -/
 |frz (o:Obj) (u:HO)
 /-- a code object's table -/
 |tbl (ps:Array Value)
 /-- any qe thing,by what is true of its one object (a def of one's own: SetO a qj n:=HO.ext λh=>..) -/
 |ext (φ:Heap->Prop)
abbrev Hp:=Addr->Option HO
def upd(H:Hp)(a:Addr)(o:HO):Hp:=λb=>if b=a then some o else H b
def zah:upd H a o a=some o:=by unfold upd;rw[if_pos rfl]
def upd_ne(h:b≠a):upd H a o b=H b:=by unfold upd;rw[if_neg h]
def zka:upd (upd H a o) a u=upd H a u:=by
 funext b;unfold upd;split<;>rfl
def zu5{H:Hp}{a b:Addr}{o u:HO}(h:H a=some o)(h':H b=some u)(d:o≠u):a≠b:=by
 intro e;subst e;rw[h]at h';exact d (Option.some.inj h')
def zau{H:Hp}{a b:Addr}{o:HO}(h:H a=some o)(h':H b=none):a≠b:=by
 intro e;subst e;rw[h]at h';cases h'
section
variable(P:Program)(w:World)
noncomputable def ObjOk(H:Hp)(h:Heap)(a:Addr):HO->Prop
 |.lst xs=>xs.length<=sizeLine/\∃(its:List Value)(n:Nat),Vals xs its/\h.get? a=some {cls:=.type "list",data:=.seq its.toArray n}
 |.tup xs=>xs.length<=sizeLine/\∃its:List Value,Vals xs its/\IsTup h a its.toArray
 |.dK kvs=>kvs.length<=sizeLine/\(a==sysModules)=false/\∃vs,KV kvs vs/\h.DictOf (za2 P w) a vs
 |.dT kvs=>kvs.length<=sizeLine/\(a==sysModules)=false/\∃xs:List (List Key×Addr×Value),
   Paired (λ(p:List Key×V) (q:List Key×Addr×Value)=>p.1=q.1/\H q.2.1=some (.tup (p.1.map kV))/\RelV p.2 q.2.2) kvs xs /\
   ∃o es ep,h.get? a=some o/\o.ExactDict/\o.data=.dict es ep/\es.toList=xs.map (entryOfKey (tupleKind (za2 P w)))/\(xs.map (·.1)).Nodup
 |.set qj n=>h.SetOf (intKind P w) a qj n
 |.ins C dx fs=>H dx=some (.own a)/\fs.length<=1000/\dx≠a/\h.get? a=some (PySem.W.instObj C dx) /\
   ∃mA,h.Ns1 dx mA/\(∀f,RelO (fs.lookup f) (mA f))/\PySem.Within mA (fs.map (·.1))
 |.own _=>∃o,h.get? a=some o
 |.xd fs=>∃mA,h.Ns1 a mA/\∀f,RelO (fs.lookup f) (mA f)
 |.rng lo hi=>∃t u v,h.get? a=some {cls:=.type "range",data:=.fields #[.int lo t,.int hi u,.int 1 v]}
 |.frz o u=>h.get? a=some o/\ObjOk H h a u
 |.tbl ps=>h.get? a=some {cls:=.none,data:=.fields ps}
 |.met f x=>h.get? a=some (PySem.W.methodObj (.ref f) (.ref x))
 |.ext φ=>φ h/\(∃o,h.get? a=some o)/\∀h1 h2:Heap,φ h1->(∀o,h1.get? a=some o->h2.get? a=some o)->φ h2
def HOk(H:Hp)(h:Heap):Prop:=∀a o,H a=some o->ObjOk P w H h a o
end
section
variable{P:Program}{w:World}{H H':Hp}{h h':Heap}{a:Addr}{o:HO}
theorem ObjOk.lt(x:ObjOk P w H h a o):a<h.objs.size:=by
 cases o with
 |lst xs=>obtain⟨_,_,_,_,e⟩:=x;exact YAh e
 |tup xs=>obtain⟨_,_,_,p⟩:=x;exact p.lt
 |dK kvs=>obtain⟨_,_,_,_,o,_,_,e,_⟩:=x;exact YAh e
 |dT kvs=>obtain⟨_,_,_,_,o,_,_,e,_⟩:=x;exact YAh e
 |set qj n=>obtain⟨o,_,_,_,e,_⟩:=x;exact YAh e
 |ins C dx fs=>obtain⟨_,_,_,e,_⟩:=x;exact YAh e
 |own y=>obtain⟨_,e⟩:=x;exact YAh e
 |xd fs=>obtain⟨_,⟨_,_,_,e,_⟩,_⟩:=x;exact YAh e
 |rng lo hi=>obtain⟨_,_,_,e⟩:=x;exact YAh e
 |frz ob u=>obtain⟨e,_⟩:=x;exact YAh e
 |tbl ps=>exact YAh (show h.get? a=some _ from x)
 |met f y=>exact YAh (show h.get? a=some _ from x)
 |ext φ=>obtain⟨_,⟨_,e⟩,_⟩:=x;exact YAh e
theorem Paired.mapP{α β:Type}{F G:α->β->Prop}:∀{l₁:List α}{l₂:List β},Paired F l₁ l₂->(∀a b,F a b->G a b)->Paired G l₁ l₂
 |_,_,.nil,_=>.nil
 |_,_,.cons r t,f=>.cons (f _ _ r) (Paired.mapP t f)
def ObjOk.stay(x:ObjOk P w H h a o)(k:∀b u,(b=a\/H b=some (.own a))->h.get? b=some u->h'.get? b=some u)
  (ho:∀b,H b=some (.own a)->H' b=some (.own a)) (ht:∀b xs,H b=some (.tup xs)->H' b=some (.tup xs)):ObjOk P w H' h' a o:=by
 induction o with
 |lst xs=>obtain⟨z,its,n,r,e⟩:=x;exact⟨z,its,n,r,k _ _ (.inl rfl) e⟩
 |tup xs=>obtain⟨z,its,r,ob,e,c⟩:=x;exact⟨z,its,r,ob,k _ _ (.inl rfl) e,c⟩
 |dK kvs=>obtain⟨z,y,vs,r,ob,es,ep,e,c⟩:=x;exact⟨z,y,vs,r,ob,es,ep,k _ _ (.inl rfl) e,c⟩
 |dT kvs=>
  obtain⟨z,y,xs,r,ob,es,ep,e,c⟩:=x;exact⟨z,y,xs,Paired.mapP r λp q z=>⟨z.1,ht _ _ z.2.1,z.2.2⟩,ob,es,ep,k _ _ (.inl rfl) e,c⟩
 |set qj n=>obtain⟨ob,es,ep,t,e,c⟩:=x;exact⟨ob,es,ep,t,k _ _ (.inl rfl) e,c⟩
 |ins C dx fs=>
  obtain⟨d,z,ne,e,mA,⟨od,es,ep,e2,c⟩,r⟩:=x;exact⟨ho _ d,z,ne,k _ _ (.inl rfl) e,mA,⟨od,es,ep,k _ _ (.inr d) e2,c⟩,r⟩
 |own y=>obtain⟨ob,e⟩:=x;exact⟨ob,k _ _ (.inl rfl) e⟩
 |xd fs=>obtain⟨mA,⟨od,es,ep,e,c⟩,r⟩:=x;exact⟨mA,⟨od,es,ep,k _ _ (.inl rfl) e,c⟩,r⟩
 |rng lo hi=>obtain⟨t,u,v,e⟩:=x;exact⟨t,u,v,k _ _ (.inl rfl) e⟩
 |frz ob u ih=>obtain⟨e,q⟩:=x;exact⟨k _ _ (.inl rfl) e,ih q⟩
 |tbl ps=>
  have e:h.get? a=some {cls:=.none,data:=.fields ps}:=x;show h'.get? a=some {cls:=.none,data:=.fields ps};exact k a _ (.inl rfl) e
 |met f y=>
  have e:h.get? a=some (PySem.W.methodObj (.ref f) (.ref y)):=x;show h'.get? a=some (PySem.W.methodObj (.ref f) (.ref y));exact k a _ (.inl rfl) e
 |ext φ=>obtain⟨p,⟨o,e⟩,st⟩:=x;exact⟨st _ _ p λo q=>k _ _ (.inl rfl) q,⟨o,k _ _ (.inl rfl) e⟩,st⟩
theorem HOk.lt(x:HOk P w H h)(e:H a=some o):a<h.objs.size:=(x a o e).lt
def HOk.fresh(x:HOk P w H h)(e:h.objs.size<=a):H a=none:=by
 cases q:H a with
 |none=>rfl
 |some u=>exact absurd (YAr (x.lt q) e) (YBb _)
def HOk.kept(x:HOk P w H h)(k:∀b u,h.get? b=some u->h'.get? b=some u):HOk P w H h':=λa o e=>
 (x a o e).stay (λb u _ q=>k b u q) (λ_ q=>q) λ_ _ q=>q
def HOk.laid(x:HOk P w H h)(k:∀b u,h.get? b=some u->h'.get? b=some u)(hp:h.objs.size<=a)(new:ObjOk P w (upd H a o) h' a o):HOk P w (upd H a o) h':=λb u e=>by
 have hn:=x.fresh hp;by_cases hb:b=a
 .subst hb;rw[zah]at e;cases e;exact new
 .rw[upd_ne hb]at e;exact(x b u e).stay (λc v _ q=>k c v q) (λc q=>by rw[upd_ne (zau q hn)];exact q) λc xs q=>by rw[upd_ne (zau q hn)];exact q
end
def Rd(H:Hp)(a:Addr)(u:HO):Prop:=H a=some u\/∃o,H a=some (.frz o u)
def Rd.ok{P:Program}{w:World}{H:Hp}{h:Heap}{a:Addr}{u:HO}(r:Rd H a u)(x:HOk P w H h):ObjOk P w H h a u:=by
 rcases r with r|⟨o,r⟩
 .exact x a u r
 .obtain⟨_,q⟩:=x a _ r;exact q
def Mut:Option HO->Prop
 |some (.lst _)=>True
 |some (.dK _)=>True
 |some (.dT _)=>True
 |some (.set _ _)=>True
 |some (.ins _ _ _)=>True
 |some (.ext _)=>True
 |_=>False
section
variable{P:Program}{w:World}{H:Hp}{h h':Heap}{x e:Addr}{o':HO}
def HOk.write(ok:HOk P w H h)(mu:Mut (H x))(he:e=x\/H e=some (.own x))(k:∀b u,b≠e->h.get? b=some u->h'.get? b=some u)(heo:∃u,h'.get? e=some u)
  (new:ObjOk P w (upd H x o') h' x o'):HOk P w (upd H x o') h':=λb u q=>by
 have nown:∀c y,H c=some (.own y)->c≠x:=λc y r z=>by subst z;rw[r]at mu;exact mu
 have ntup:∀c xs,H c=some (.tup xs)->c≠x:=λc xs r z=>by subst z;rw[r]at mu;exact mu
 by_cases hb:b=x
 .subst hb;rw[zah]at q;cases q;exact new
 .rw[upd_ne hb]at q;by_cases hbe:b=e
  .have q':H b=some (.own x):=by
    rcases he with z|z
    .exact absurd (hbe.trans z) hb
    .rw[hbe];exact z
   rw[q]at q';cases q';obtain⟨v,hv⟩:=heo;exact⟨v,by rw[hbe];exact hv⟩
  .refine(ok b u q).stay (λc v hc r=>k c v ?_ r) (λc r=>by rw[upd_ne (nown c b r)];exact r) λc xs r=>by rw[upd_ne (ntup c xs r)];exact r
   rcases hc with rfl|hc
   .exact hbe
   .rintro rfl;rcases he with z|z
    .exact nown c b hc z
    .rw[hc]at z;cases z;exact hb rfl
end
structure Un(fs ex:List Addr)(H H':Hp)(h h':Heap):Prop where
 keep:∀b o,h.get? b=some o->H b=none->b∉fs->b∉ex->h'.get? b=some o
 slot:∀b o,h.get? b=some o->H b=none->b∈fs->b∉ex->∃sl,h'.get? b=some {o with slots:=sl}
 free:∀b o,h.get? b=some o->H b=none->b∉ex->H' b=none
 there:∀b o,h.get? b=some o->b∉ex->∃o',h'.get? b=some o'
 tups:∀b xs,H b=some (.tup xs)->H' b=some (.tup xs)
 frzs:∀b o u,H b=some (.frz o u)->H' b=some (.frz o u)
 tbls:∀b ps,H b=some (.tbl ps)->∃more,H' b=some (.tbl (ps++more))
section
variable{fs fs' ex ex':List Addr}{H H1 H2:Hp}{h h1 h2 h':Heap}{a x e:Addr}{o:HO}
def Un.any(u:Un fs ex H H1 h h1){b:Addr}{ob:Obj}(q:h.get? b=some ob)(n:H b=none)(hx:b∉ex):∃sl,h1.get? b=some {ob with slots:=sl}:=by
 by_cases hb:b∈fs
 .exact u.slot b ob q n hb hx
 .exact⟨ob.slots,u.keep b ob q n hb hx⟩
def Un.kept(k:∀b u,h.get? b=some u->h'.get? b=some u):Un fs ex H H h h':=
 ⟨λb ob q _ _ _=>k b ob q,λb ob q _ _ _=>⟨ob.slots,k b ob q⟩,λ_ _ _ n _=>n,λb ob q _=>⟨ob,k b ob q⟩,λ_ _ q=>q,λ_ _ _ q=>q,λ_ ps q=>⟨#[],by rw[q];simp⟩⟩
def Un.refl:Un fs ex H H h h:=Un.kept λ_ _ q=>q
def Un.laid(k:∀b u,h.get? b=some u->h'.get? b=some u)(hp:h.objs.size<=a)(hn:H a=none):Un fs ex H (upd H a o) h h' where
 keep:=λb u q _ _ _=>k b u q
 slot:=λb u q _ _ _=>⟨u.slots,k b u q⟩
 free:=λb u q n _=>by rw[upd_ne (YAs (YAr (YAh q) hp))];exact n
 there:=λb u q _=>⟨u,k b u q⟩
 tups:=λb xs q=>by rw[upd_ne (zau q hn)];exact q
 frzs:=λb u xs q=>by rw[upd_ne (zau q hn)];exact q
 tbls:=λb ps q=>⟨#[],by rw[upd_ne (zau q hn),q];simp⟩
def Un.write(mu:Mut (H x))(he:e=x\/H e=some (.own x))(k:∀b u,b≠e->h.get? b=some u->h'.get? b=some u)(heo:∃u,h'.get? e=some u):Un fs ex H (upd H x o) h h':=by
 have hx:∀b,H b=none->b≠x:=λb n z=>by subst z;rw[n]at mu;exact mu
 have hb:∀b,H b=none->b≠e:=λb n z=>by
  subst z;rcases he with r|r
  .exact hx b n r
  .rw[n]at r;cases r
 have hm:∀b u,H b=some u->¬ Mut (some u)->b≠x:=λb u q nm z=>by subst z;rw[q]at mu;exact nm mu
 refine⟨λb u q n _ _=>k b u (hb b n) q,λb u q n _ _=>⟨u.slots,k b u (hb b n) q⟩,λb u q n _=>by rw[upd_ne (hx b n)];exact n,λb u q _=>?_,
  λb xs q=>by rw[upd_ne (hm b _ q λz=>z)];exact q,λb u xs q=>by rw[upd_ne (hm b _ q λz=>z)];exact q,λb ps q=>⟨#[],by rw[upd_ne (hm b _ q λz=>z),q];simp⟩⟩
 by_cases hbe:b=e
 .subst hbe;exact heo
 .exact⟨u,k b u hbe q⟩
end
def trk(h:Heap)(H:Hp):List Addr:=(List.range h.objs.size).filter λa=>(H a).isSome
def hidT(h:Heap)(H:Hp):Heap:=PySem.W.hideAll h (trk h H)
def znv(h:Heap)(H:Hp):(hidT h H).objs.size=h.objs.size:=PySem.W.hideAll_size _ _
def zpj{h:Heap}{H:Hp}{b:Addr}{o:Obj}(e:h.get? b=some o)(n:H b=none):(hidT h H).get? b=some o:=
 PySem.W.hideAll_get _ e λhm=>by
  have q:(H b).isSome=true:=(YBF.mp hm).2;rw[n]at q;simp at q
def zsd{h:Heap}{H:Hp}{b:Addr}{o:Obj}(e:(hidT h H).get? b=some o):h.get? b=some o/\H b=none:=by
 have e':h.get? b=some o:=PySem.W.of_hideAll (trk h H) e;refine⟨e',?_⟩;cases q:H b with
 |none=>rfl
 |some x=>
  have hm:b∈trk h H:=YBF.mpr ⟨YCj.mpr (YAh e'),by simp[q]⟩;have z:(hidT h H).get? b=none:=PySem.W.hideAll_none (trk h H) hm;rw[z]at e;cases e
structure Mod(K:qk)(mg:Str->Option Value)(base:Heap):Prop where
 kin:K.In base
 glob:base.Ns mainGlobals mg
 blt:∃mb,base.Ns builtinsNs mb/\∀x:Str,x≠"__name__" -> mb x=bootBuiltins x
 nolimit:base.NoLimit
structure Cx where
 prog:Program
 w:World
 K:qk
 mg:Str->Option Value
 base:Heap
 A:Around
 N:List Str
 s₀:Shared
 H₀:Hp
 env:Env
 outer:List Env
 stack:List Env
 ex:List Addr
 fn:Str->Bool
 calm:Bool
 pn:List (Addr×Obj)
 xe:Value->Shared->Prop
def frs(l:List Env):List Addr:=l.filterMap (·.frame)
abbrev Cx.fs(X:Cx):List Addr:=frs X.outer
def Vis(sc:Scope)(x:Str):Prop:=sc.names.lookup x=some .local\/sc.names.lookup x=some .cell\/sc.names.lookup x=some .free
def Loc(sc:Scope)(x:Str):Prop:=sc.names.lookup x=some .local\/sc.names.lookup x=some .cell
def Look(env:Env)(h:Heap)(m:Str->Option Value)(x:Str)(u:Value):Prop:=
 (env.kindOf x=some .local/\m x=some u)\/((env.kindOf x=some .cell\/env.kindOf x=some .free)/\∃c,env.cells.lookup x=some c/\h.IsCell c (some u))
structure Cx.Ok(X:Cx):Prop where
 mod:Mod X.K X.mg X.base
 kind:X.env.scope.kind=.function
 glob:X.env.globals=mainGlobals
 blt:X.env.builtins=builtinsNs
 above:X.s₀.heap.objs.size<=X.env.locals
 inj:∀x y c,X.env.cells.lookup x=some c->X.env.cells.lookup y=some c->x=y
 has:∀x,(X.env.kindOf x=some .cell\/X.env.kindOf x=some .free)->∃c,X.env.cells.lookup x=some c
 cab:∀x c,X.fn x=true->X.env.cells.lookup x=some c->X.s₀.heap.objs.size<=c
 hd:X.calm=true->X.A.handled=none
 frames:X.A.frames=some X.stack
 stk:X.stack=X.outer\/(X.stack=X.env::X.outer/\X.env.frame=some X.env.locals)
 exf:∀b∈X.ex,b≠X.env.locals/\∀x c,X.env.cells.lookup x=some c->c≠b
 bs:∀b o,X.base.get? b=some o->X.s₀.heap.get? b=some o/\X.H₀ b=none
 bsz:X.base.objs.size<=X.s₀.heap.objs.size
 noex:∀b o,X.base.get? b=some o->b∉X.ex
 exfs:∀b∈X.ex,b∉X.fs
 funs:X.s₀.heap.FunFrames X.base X.outer
 frf:∀b∈X.fs,X.H₀ b=none
structure Inv(X:Cx)(pins:List (Addr×Obj))(Z:List (Option V))(H:Hp)(s:Shared):Prop where
 ok:X.Ok
 os:s.os=X.s₀.os
 bare:AllBare s.gens
 base:Un X.fs X.ex X.H₀ H X.s₀.heap s.heap
 loc:∃m,s.heap.Ns X.env.locals m/\∀(i:Nat)(x:Str)(v:V),X.N[i]?=some x->Z[i]?=some (some v)->Vis X.env.scope x->∃u,RelV v u/\Look X.env s.heap m x u
 cell:∀x c,X.env.cells.lookup x=some c->∃v,s.heap.IsCell c v
 free:H X.env.locals=none
 freeC:∀x c,X.env.cells.lookup x=some c->H c=none
 pin:∀p∈X.pn++pins,s.heap.get? p.1=some p.2/\H p.1=none/\p.1≠X.env.locals/\p.1∉X.fs/\∀v,p.2.data≠.cell v
 hok:HOk X.prog X.w H s.heap
 len:Z.length=X.N.length
section
variable{X:Cx}{pins:List (Addr×Obj)}{Z:List (Option V)}{H H':Hp}{s:Shared}{h':Heap}
def Cx.Ok.nofr(ok:X.Ok)(e:X.base.get? b=some o):b∉X.fs:=λhb=>by
 have:=(ok.funs.mem hb).1
 rw[e]at this;cases this
theorem Inv.bs(I:Inv X pins Z H s):∀b o,X.base.get? b=some o->s.heap.get? b=some o/\H b=none:=λb o e=>
 ⟨I.base.keep b o (I.ok.bs b o e).1 (I.ok.bs b o e).2 (I.ok.nofr e) (I.ok.noex b o e),I.base.free b o (I.ok.bs b o e).1 (I.ok.bs b o e).2 (I.ok.noex b o e)⟩
def Inv.bk(I:Inv X pins Z H s):∀b o,X.base.get? b=some o->s.heap.get? b=some o:=λb o e=>(I.bs b o e).1
theorem Inv.mod(I:Inv X pins Z H s):Mod X.K X.mg X.base:=I.ok.mod
def Inv.kIn(I:Inv X pins Z H s):X.K.In s.heap:=I.ok.mod.kin.keeps I.bk
theorem Inv.lt(I:Inv X pins Z H s):X.env.locals<s.heap.objs.size:=let⟨_,hn,_⟩:=I.loc;hn.lt
def Inv.sz(I:Inv X pins Z H s):X.s₀.heap.objs.size<=s.heap.objs.size:=YAx I.ok.above (Nat.le_of_lt I.lt)
def Inv.nofs(I:Inv X pins Z H s)(h:s.heap.objs.size<=a):a∉X.fs:=λhb=>by
 obtain⟨_,o,ho,_⟩:=I.ok.funs.mem hb;exact absurd (YAr (YAh ho) (YAx I.sz h)) (YBb _)
def Inv.cne(I:Inv X pins Z H s):∀x c,X.env.cells.lookup x=some c->c≠X.env.locals:=λx c e z=>by
 obtain⟨v,o,ho,hd⟩:=I.cell x c e;obtain⟨m,⟨o',es,ep,ho',hd',_⟩,_⟩:=I.loc;rw[z,ho']at ho;cases ho;rw[hd']at hd;cases hd
theorem Inv.funs(I:Inv X pins Z H s):s.heap.FunFrames X.base X.outer:=by
 have all:∀(l:List Env),(∀b∈frs l,b∈X.fs)->X.s₀.heap.FunFrames X.base l->s.heap.FunFrames X.base l:=by
  intro l
  induction l with
  |nil=>intro _ _;trivial
  |cons env r ih=>
   intro hs hl;obtain⟨hk,⟨L,o,hf,hn,ho,hd⟩,hr⟩:=hl;have hL:L∈X.fs:=hs L (by unfold frs;rw[YAV,hf];exact YAg);obtain⟨sl,e⟩:=I.base.slot L o ho (I.ok.frf L hL) hL λz=>I.ok.exfs L z hL;exact⟨hk,⟨L,_,hf,hn,e,hd⟩,ih (λb hb=>hs b (by unfold frs;rw[YAV,hf];exact YAj _ hb)) hr⟩
 exact all X.outer (λ_ hb=>hb) I.ok.funs
theorem Inv.stack(I:Inv X pins Z H s):s.heap.FunFrames X.base X.stack:=by
 rcases I.ok.stk with e|⟨e,hf⟩
 .rw[e];exact I.funs
 .rw[e];obtain⟨m,hn,_⟩:=I.loc;refine .cons (by rw[I.ok.kind];decide) hf hn ?_ I.funs;exact Heap.get?_none_of_le (YAx I.ok.bsz I.ok.above)
def Inv.stkSub(I:Inv X pins Z H s):∀b∈frs X.stack,b∈X.env.locals::X.fs:=λb hb=>by
 rcases I.ok.stk with e|⟨e,hf⟩
 .rw[e]at hb;exact YAj _ hb
 .rw[e]at hb;unfold frs at hb;rw[YAV,hf]at hb;exact hb
def Inv.stkFree(I:Inv X pins Z H s):∀b∈frs X.stack,H b=none:=λb hb=>by
 rcases YAv.mp (I.stkSub b hb)with e|hb
 .rw[e];exact I.free
 .obtain⟨_,o,ho,_⟩:=I.ok.funs.mem hb;exact I.base.free b o ho (I.ok.frf b hb) λz=>I.ok.exfs b z hb
def Inv.step{g':Array GenState}{t':Nat}{d':Drawn}{ch:List Addr}(I:Inv X pins Z H s)
  (hch:∀b∈ch,(b∈X.ex\/X.s₀.heap.objs.size<=b)/\b≠X.env.locals/\(∀x c,X.env.cells.lookup x=some c->c≠b)/\∀p∈X.pn++pins,p.1≠b)
  (keep:∀b o,b≠X.env.locals->b∉X.fs->b∉ch->s.heap.get? b=some o->H b=none->h'.get? b=some o)
  (slot:∀b o,b≠X.env.locals->b∈X.fs->b∉ch->s.heap.get? b=some o->H b=none->∃sl,h'.get? b=some {o with slots:=sl}) (free:∀b o,b∉ch->s.heap.get? b=some o->H b=none->H' b=none)
  (there:∀b o,b∉ch->s.heap.get? b=some o->∃o',h'.get? b=some o')
  (tups:∀b xs,H b=some (.tup xs)->H' b=some (.tup xs)) (frzs:∀b o u,H b=some (.frz o u)->H' b=some (.frz o u)) (tbls:∀b ps,H b=some (.tbl ps)->∃more,H' b=some (.tbl (ps++more)))
  (ns:∀m,s.heap.Ns X.env.locals m->h'.Ns X.env.locals m) (hok:HOk X.prog X.w H' h') (hg:AllBare g') :
  Inv X pins Z H' {s with heap:=h',gens:=g',drawn:=d',toks:=t'}:=by
 have neL:∀b o,X.s₀.heap.get? b=some o->b≠X.env.locals:=λb o e=>YAs (YAr (YAh e) I.ok.above);have neC:∀b o,X.s₀.heap.get? b=some o->b∉X.ex->b∉ch:=λb o e hx hb=>by
  rcases(hch b hb).1 with z|z
  .exact hx z
  .exact absurd (YAr (YAh e) z) (YBb _)
 have cellK:∀x c,X.env.cells.lookup x=some c->∀v,s.heap.IsCell c v->h'.IsCell c v:=λx c e v ⟨o,ho,hd⟩=>by
  have nch:c∉ch:=λz=>(hch c z).2.2.1 x c e rfl;by_cases hc:c∈X.fs
  .obtain⟨sl,q⟩:=slot c o (I.cne x c e) hc nch ho (I.freeC x c e);exact⟨_,q,hd⟩
  .exact⟨o,keep c o (I.cne x c e) hc nch ho (I.freeC x c e),hd⟩
 refine⟨I.ok,I.os,hg,⟨λb o e n hb hx=>?_,λb o e n hb hx=>?_,λb o e n hx=>?_,λb o e hx=>?_,λb xs e=>tups b xs (I.base.tups b xs e),λb o xs e=>frzs b o xs (I.base.frzs b o xs e),λb ps e=>?_⟩,?_,λx c e=>?_,?_,λx c e=>?_,λp hp=>?_,hok,I.len⟩
 .exact keep b o (neL b o e) hb (neC b o e hx) (I.base.keep b o e n hb hx) (I.base.free b o e n hx)
 .obtain⟨sl,e1⟩:=I.base.slot b o e n hb hx;obtain⟨sl',e2⟩:=slot b _ (neL b o e) hb (neC b o e hx) e1 (I.base.free b o e n hx);exact⟨sl',e2⟩
 .obtain⟨o',e1⟩:=I.base.there b o e hx;exact free b o' (neC b o e hx) e1 (I.base.free b o e n hx)
 .obtain⟨o',e1⟩:=I.base.there b o e hx;exact there b o' (neC b o e hx) e1
 .obtain⟨m1,e1⟩:=I.base.tbls b ps e;obtain⟨m2,e2⟩:=tbls b _ e1;exact⟨m1++m2,by rw[e2,Array.append_assoc]⟩
 .obtain⟨m,hn,hl⟩:=I.loc;refine⟨m,ns m hn,λi x v e1 e2 e3=>?_⟩;obtain⟨u,r,l⟩:=hl i x v e1 e2 e3;refine⟨u,r,?_⟩;rcases l with l|⟨k,c,e,z⟩
  .exact .inl l
  .exact .inr ⟨k,c,e,cellK x c e _ z⟩
 .obtain⟨v,z⟩:=I.cell x c e;exact⟨v,cellK x c e v z⟩
 .obtain⟨m,⟨o,_,_,ho,_⟩,_⟩:=I.loc;exact free _ o (λz=>(hch _ z).2.1 rfl) ho I.free
 .obtain⟨v,o,ho,hd⟩:=I.cell x c e;exact free c o (λz=>(hch c z).2.2.1 x c e rfl) ho (I.freeC x c e)
 .obtain⟨e,n,ne,nf,d⟩:=I.pin p hp;have nch:p.1∉ch:=λz=>(hch p.1 z).2.2.2 p hp rfl;exact⟨keep p.1 p.2 ne nf nch e n,free p.1 p.2 nch e n,ne,nf,d⟩
def Inv.un{t':Nat}(I:Inv X pins Z H s)(u:Un X.fs [] H H' s.heap h')(hok:HOk X.prog X.w H' h'):Inv X pins Z H' {s with heap:=h',toks:=t'}:=by
 obtain⟨m,⟨o,es,ep,ho,r⟩,_⟩:=id I.loc;obtain⟨sl,hL⟩:=u.any ho I.free (by simp);exact I.step (g':=s.gens) (d':=s.drawn) (ch:=[]) (λ_ z=>nomatch z) (λb o _ hb _ e n=>u.keep b o e n hb (by simp)) (λb o _ hb _ e n=>u.slot b o e n hb (by simp)) (λb o _ e n=>u.free b o e n (by simp)) (λb o _ e=>u.there b o e (by simp)) u.tups u.frzs u.tbls (λm' hm=>by
  obtain⟨o',es',ep',ho',r'⟩:=hm;rw[ho]at ho';cases ho';exact⟨_,es',ep',hL,r'⟩) hok I.bare
def Inv.call{g':Array GenState}{t':Nat}{d':Drawn}{ch:List Addr}(I:Inv X pins Z H s)(u:Un (frs X.stack) ch H H' s.heap h')(hok:HOk X.prog X.w H' h')(hg:AllBare g')
  (hch:∀b∈ch,(b∈X.ex\/X.s₀.heap.objs.size<=b)/\b≠X.env.locals/\(∀x c,X.env.cells.lookup x=some c->c≠b)/\∀p∈X.pn++pins,p.1≠b) :
  Inv X pins Z H' {s with heap:=h',gens:=g',drawn:=d',toks:=t'}:=by
 obtain⟨m,⟨o,es,ep,ho,r⟩,_⟩:=id I.loc;obtain⟨sl,hL⟩:=u.any ho I.free λz=>(hch _ z).2.1 rfl;exact I.step (ch:=ch) hch (λb o hL hb hc e n=>u.keep b o e n (λz=>(YAv.mp (I.stkSub b z)).elim hL hb) hc) (λb o _ _ hc e n=>u.any e n hc) (λb o hc e n=>u.free b o e n hc) (λb o hc e=>u.there b o e hc) u.tups u.frzs u.tbls (λm' hm=>by
  obtain⟨o',es',ep',ho',r'⟩:=hm;rw[ho]at ho';cases ho';exact⟨_,es',ep',hL,r'⟩) hok hg
def Inv.turned{t':Nat}{it:Addr}(I:Inv X pins Z H s)(k:∀b o,b≠it->s.heap.get? b=some o->h'.get? b=some o)(hn:H it=none)(hL:it≠X.env.locals)
  (h1:it∈X.ex\/X.s₀.heap.objs.size<=it) (h2:∀x c,X.env.cells.lookup x=some c->c≠it) (h3:∀p∈X.pn++pins,p.1≠it):Inv X pins Z H {s with heap:=h',toks:=t'}:=by
 have nit:∀b u,H b=some u->b≠it:=λb u e z=>by rw[z,hn]at e;cases e
 refine I.step (g':=s.gens) (d':=s.drawn) (ch:=[it]) (λb hb=>?_) (λb o _ _ hc e _=>k b o (λz=>hc (by simp[z])) e) (λb o _ _ hc e _=>⟨o.slots,k b o (λz=>hc (by simp[z])) e⟩) (λ_ _ _ _ n=>n)
  (λb o hc e=>⟨o,k b o (λz=>hc (by simp[z])) e⟩) (λ_ _ e=>e) (λ_ _ _ e=>e) (λb ps e=>⟨#[],by rw[e];simp⟩) (λm hm=>?_) (λb u e=>?_) I.bare
 .have e:b=it:=by simpa using hb
  subst e;exact⟨h1,hL,h2,h3⟩
 .obtain⟨o,es,ep,ho,r⟩:=hm;exact⟨o,es,ep,k _ o (YAK hL) ho,r⟩
 .refine(I.hok b u e).stay (λc v hc q=>k c v ?_ q) (λ_ q=>q) λ_ _ q=>q;rcases hc with z|z
  .rw[z];exact nit b u e
  .exact nit c _ z
def Inv.tok(I:Inv X pins Z H s)(t:Nat):Inv X pins Z H {s with toks:=t}:=I.un (h':=s.heap) (t':=t) Un.refl I.hok
theorem Inv.kept{t':Nat}(I:Inv X pins Z H s)(k:∀b u,s.heap.get? b=some u->h'.get? b=some u):Inv X pins Z H {s with heap:=h',toks:=t'}:=I.un (Un.kept k) (I.hok.kept k)
theorem Inv.laid{a:Addr}{o:HO}{t':Nat}(I:Inv X pins Z H s)(k:∀b u,s.heap.get? b=some u->h'.get? b=some u)(hp:s.heap.objs.size<=a)(new:ObjOk X.prog X.w (upd H a o) h' a o) :
  Inv X pins Z (upd H a o) {s with heap:=h',toks:=t'}:=I.un (Un.laid k hp (I.hok.fresh hp)) (I.hok.laid k hp new)
theorem Inv.write{x e:Addr}{o:HO}{t':Nat}(I:Inv X pins Z H s)(mu:Mut (H x))(he:e=x\/H e=some (.own x))(k:∀b u,b≠e->s.heap.get? b=some u->h'.get? b=some u)(heo:∃u,h'.get? e=some u)
  (new:ObjOk X.prog X.w (upd H x o) h' x o):Inv X pins Z (upd H x o) {s with heap:=h',toks:=t'}:=I.un (Un.write mu he k heo) (I.hok.write mu he k heo new)
def Inv.weak(I:Inv X pins Z H s)(hl:Z'.length=Z.length)(w:∀(i:Nat) v,Z'[i]?=some (some v)->Z[i]?=some (some v)):Inv X pins Z' H s:=
 ⟨I.ok,I.os,I.bare,I.base,let⟨m,hn,hl'⟩:=I.loc;⟨m,hn,λi x v e1 e2 e3=>hl' i x v e1 (w i v e2) e3⟩,I.cell,I.free,I.freeC,I.pin,I.hok,hl.trans I.len⟩
def Inv.pins_of(I:Inv X pins Z H s)(h:∀p∈pins',s.heap.get? p.1=some p.2/\H p.1=none/\p.1≠X.env.locals/\p.1∉X.fs/\∀v,p.2.data≠.cell v):Inv X pins' Z H s:=
 ⟨I.ok,I.os,I.bare,I.base,I.loc,I.cell,I.free,I.freeC,λp hp=>(YAG.mp hp).elim (λz=>I.pin p (YBn _ z)) (h p),I.hok,I.len⟩
def zhD{N:List Str}(hN:N.Nodup){i j:Nat}{x:Str}(a:N[i]?=some x)(b:N[j]?=some x):i=j:=by
 obtain⟨h1,e1⟩:=YAe.mp a;obtain⟨h2,e2⟩:=YAe.mp b;exact(List.getElem_inj hN).mp (e1.trans e2.symm)
def zjm{M:Model}{A:Around}{E:Value->Shared->Prop}{i:Nat}{x:Str}{v:V}{u:Value}{Q:Unit->Shared->Prop}(I:Inv X pins Z H s)(hN:X.N.Nodup)(hi:X.N[i]?=some x)(hx:Loc X.env.scope x)(r:RelV v u)
  (h:∀s',Inv X pins (Z.set i (some v)) H s'->(∃a,Heap.SameBut a s.heap s'.heap/\(a=X.env.locals\/X.env.cells.lookup x=some a))->Q () s') (hf:X.fn x=true\/X.env.scope.names.lookup x=some .local:=by first|exact .inl rfl|exact .inr rfl|assumption):wpAny M A (storeName X.env x u) Q E s:=by
 obtain⟨m,hn,hl⟩:=id I.loc;have hcls:(X.env.scope.kind==.class || (X.env.scope.kind==.module&&X.env.locals != X.env.globals))=false:=by rw[I.ok.kind];rfl
 have hiσ:i<Z.length:=by rw[I.len];exact(YAe.mp hi).1
 have cne:=I.cne;have tracked:∀{a:Addr}{h':Heap},(∃o,s.heap.get? a=some o/\H a=none)->Heap.SameBut a s.heap h'->HOk X.prog X.w H h':=λ{a h'} ha hs b ob e=>by
  obtain⟨_,_,hfree⟩:=ha;refine(I.hok b ob e).stay (λc w' hc q=>(hs.2 c ?_).trans q) (λ_ q=>q) λ_ _ q=>q;rintro rfl;rcases hc with rfl|hc
  .rw[hfree]at e;cases e
  .rw[hfree]at hc;cases hc
 rcases hx with hk|hk
 .refine wpAny_storeName_local hk hn (λh' hn' hs=>?_) hcls;obtain⟨oL,_,_,hoL,_⟩:=id hn;refine h _ ⟨I.ok,I.os,I.bare,⟨λb o e n hb hx=>?_,λb o e n hb hx=>?_,I.base.free,λb o e hx=>?_,I.base.tups,I.base.frzs,I.base.tbls⟩,⟨_,hn',λj y v' e1 e2 e3=>?_⟩,λy c e=>?_,I.free,I.freeC,λp hp=>?_,tracked ⟨oL,hoL,I.free⟩ hs,by simpa using I.len⟩ ⟨_,hs,.inl rfl⟩
  .exact(hs.2 b (YAs (YAr (YAh e) I.ok.above))).trans (I.base.keep b o e n hb hx)
  .obtain⟨sl,e1⟩:=I.base.slot b o e n hb hx;exact⟨sl,(hs.2 b (YAs (YAr (YAh e) I.ok.above))).trans e1⟩
  .obtain⟨o',e1⟩:=I.base.there b o e hx;exact⟨o',(hs.2 b (YAs (YAr (YAh e) I.ok.above))).trans e1⟩
  .by_cases hj:j=i
   .subst hj;rw[hi]at e1;cases e1;rw[YAi hiσ]at e2;cases e2;exact⟨u,r,.inl ⟨hk,by simp⟩⟩
   .rw[YAl (YAK hj)]at e2;obtain⟨u',r',q⟩:=hl j y v' e1 e2 e3;refine⟨u',r',?_⟩;rcases q with⟨k,e⟩|⟨k,c,e,z⟩
    .refine .inl ⟨k,?_⟩
     have:y≠x:=λe=>hj (zhD hN e1 (e▸hi))
     simp[this,e]
    .exact .inr ⟨k,c,e,z.sameBut hs (cne y c e)⟩
  .obtain⟨w',z⟩:=I.cell y c e;exact⟨w',z.sameBut hs (cne y c e)⟩
  .obtain⟨e,n,ne,nf,d⟩:=I.pin p hp;exact⟨(hs.2 p.1 ne).trans e,n,ne,nf,d⟩
 .have hfn:X.fn x=true:=by
   rcases hf with z|z
   .exact z
   .rw[z]at hk;cases hk
  obtain⟨c,hc⟩:=I.ok.has x (.inl hk);obtain⟨w',z⟩:=I.cell x c hc;refine wpAny_storeName_cell I.ok.kind hk hc z (λh' hc' hs=>?_);obtain⟨oc,hoc,hocd⟩:=id z;refine h {s with heap:=h'} ⟨I.ok,I.os,I.bare,⟨λb o e n hb hx=>?_,λb o e n hb hx=>?_,I.base.free,λb o e hx=>?_,I.base.tups,I.base.frzs,I.base.tbls⟩,⟨m,hn.sameBut hs (YAK (cne x c hc)),λj y v' e1 e2 e3=>?_⟩,λy c' e=>?_,I.free,I.freeC,λp hp=>?_,tracked ⟨oc,hoc,I.freeC x c hc⟩ hs,by simpa using I.len⟩ ⟨c,hs,.inr hc⟩
  .exact(hs.2 b (YAs (YAr (YAh e) (I.ok.cab x c hfn hc)))).trans (I.base.keep b o e n hb hx)
  .obtain⟨sl,e1⟩:=I.base.slot b o e n hb hx;exact⟨sl,(hs.2 b (YAs (YAr (YAh e) (I.ok.cab x c hfn hc)))).trans e1⟩
  .obtain⟨o',e1⟩:=I.base.there b o e hx;exact⟨o',(hs.2 b (YAs (YAr (YAh e) (I.ok.cab x c hfn hc)))).trans e1⟩
  .by_cases hj:j=i
   .subst hj;rw[hi]at e1;cases e1;rw[YAi hiσ]at e2;cases e2;exact⟨u,r,.inr ⟨.inl hk,c,hc,hc'⟩⟩
   .rw[YAl (YAK hj)]at e2;obtain⟨u',r',q⟩:=hl j y v' e1 e2 e3;refine⟨u',r',?_⟩;rcases q with q|⟨k,c',e,z'⟩
    .exact .inl q
    .refine .inr ⟨k,c',e,z'.sameBut hs ?_⟩;rintro rfl;exact hj (zhD hN e1 (I.ok.inj _ _ _ e hc▸hi))
  .by_cases hcc:c'=c
   .subst hcc;exact⟨_,hc'⟩
   .obtain⟨w2,z2⟩:=I.cell y c' e;exact⟨w2,z2.sameBut hs hcc⟩
  .obtain⟨e,n,ne,nf,d⟩:=I.pin p hp;refine⟨(hs.2 p.1 ?_).trans e,n,ne,nf,d⟩;intro q;rw[q,hoc]at e;have q':oc=p.2:=Option.some.inj e;exact d w' (by rw[<-q'];exact hocd)
def zdx{M:Model}{A:Around}{E:Value->Shared->Prop}{i:Nat}{x:Str}{v:V}{u:Value}{Q:Unit->Shared->Prop}(I:Inv X pins Z H s)(hN:X.N.Nodup)(hi:X.N[i]?=some x)(hx:Loc X.env.scope x)(r:RelV v u)
  (h:∀s',Inv X pins (Z.set i (some v)) H s'->Q () s') (hf:X.fn x=true\/X.env.scope.names.lookup x=some .local:=by first|exact .inl rfl|exact .inr rfl|assumption):wpAny M A (storeName X.env x u) Q E s:=
 zjm I hN hi hx r (λs' I' _=>h s' I') hf
def Inv.call'(I:Inv X pins Z H s)(ho:s'.os=s.os)(u:Un (frs X.stack) ch H H' s.heap s'.heap)(hok:HOk X.prog X.w H' s'.heap)(hg:AllBare s'.gens)
  (hch:∀b∈ch,(b∈X.ex\/X.s₀.heap.objs.size<=b)/\b≠X.env.locals/\(∀x c,X.env.cells.lookup x=some c->c≠b)/\∀p∈X.pn++pins,p.1≠b):Inv X pins Z H' s':=by
 obtain⟨h',g',d',t',o'⟩:=s';have e:o'=s.os:=ho;subst e;exact I.call (g':=g') (t':=t') (d':=d') u hok hg hch
end
abbrev XK:=Value->Option Addr->Hp->Prop
abbrev St:=List (Option V)
abbrev VK:=V->Hp->Prop
abbrev TE:=St->Hp->VK->Prop
abbrev TT:=St->Hp->(Bool->Hp->Prop)->Prop
abbrev TA:=St->Hp->(List V->Hp->Prop)->Prop
structure Ends where
 nx:St->Hp->Prop
 rt:VK
 bk:St->Hp->Prop:=λ_ _=>False
 ct:St->Hp->Prop:=λ_ _=>False
abbrev TS:=Ends->St->Hp->Prop
def EP(X:Cx)(pins:List (Addr×Obj))(Z:St)(Q:VK)(u:Value)(s':Shared):Prop:=∃v H',Inv X pins Z H' s'/\RelV v u/\Q v H'
def TP(X:Cx)(pins:List (Addr×Obj))(Z:St)(Q:Bool->Hp->Prop)(b:Bool)(s':Shared):Prop:=∃H',Inv X pins Z H' s'/\Q b H'
def AP(X:Cx)(pins:List (Addr×Obj))(Z:St)(Q:List V->Hp->Prop)(us:List Value)(s':Shared):Prop:=∃vs H',Inv X pins Z H' s'/\Vals vs us/\Q vs H'
noncomputable def SP(X:Cx)(pins:List (Addr×Obj))(D:Ends)(f:Flow)(s':Shared):Prop:=
 match f with
 |.next=>∃ Z' H',Inv X pins Z' H' s'/\D.nx Z' H'
 |.brk=>∃ Z' H',Inv X pins Z' H' s'/\D.bk Z' H'
 |.cont=>∃ Z' H',Inv X pins Z' H' s'/\D.ct Z' H'
 |.ret u=>∃v Z' H',Inv X pins Z' H' s'/\RelV v u/\D.rt v H'
def PE(X:Cx)(e:Expr)(t:TE):Prop:=
 ∀(pins:List (Addr×Obj))(s:Shared)(Z:St)(H:Hp)(Q:VK),Inv X pins Z H s->t Z H Q->wpAny (model X.prog X.w) X.A (eval e X.env) (EP X pins Z Q) X.xe s
def PT(X:Cx)(e:Expr)(t:TT):Prop:=
 ∀(pins:List (Addr×Obj))(s:Shared)(Z:St)(H:Hp)(Q:Bool->Hp->Prop),Inv X pins Z H s->t Z H Q->wpAny (model X.prog X.w) X.A (isTrue e X.env (eval e X.env)) (TP X pins Z Q) X.xe s
def PW(X:Cx)(e:Expr)(t:TT):Prop:=
 ∀(whole:Sem Value)(pins:List (Addr×Obj))(s:Shared)(Z:St)(H:Hp)(Q:Bool->Hp->Prop),Inv X pins Z H s->t Z H Q->wpAny (model X.prog X.w) X.A (isTrue e X.env whole) (TP X pins Z Q) X.xe s
def PW.pt{X:Cx}{e:Expr}{t:TT}(h:PW X e t):PT X e t:=h _
def PA(X:Cx)(es:List Expr)(t:TA):Prop:=
 ∀(pos:Pos)(pins:List (Addr×Obj))(s:Shared)(Z:St)(H:Hp)(Q:List V->Hp->Prop),Inv X pins Z H s->t Z H Q->wpAny (model X.prog X.w) X.A (spliced (backTo pos (starEach es X.env))) (AP X pins Z Q) X.xe s
def PS(X:Cx)(st:Stmt)(t:TS):Prop:=
 ∀(pins:List (Addr×Obj))(s:Shared)(Z:St)(H:Hp)(D:Ends),Inv X pins Z H s->t D Z H->wpAny (model X.prog X.w) X.A (exec st X.env) (SP X pins D) X.xe s
def PSs(X:Cx)(st:List Stmt)(t:TS):Prop:=
 ∀(pins:List (Addr×Obj))(s:Shared)(Z:St)(H:Hp)(D:Ends),Inv X pins Z H s->t D Z H->wpAny (model X.prog X.w) X.A (execs st X.env) (SP X pins D) X.xe s
def thn{α:Type}{t:Sem α}{Q Q':α->Shared->Prop}{M:Model}{A:Around}{E:Value->Shared->Prop}{s:Shared}(h:wpAny M A t Q E s)(hQ:∀a s,Q a s->Q' a s):wpAny M A t Q' E s:=YAT h hQ λ_ _ x=>x
section
variable{X:Cx}
def tVar(i:Nat):TE:=λZ H Q=>∃v,Z[i]?=some (some v)/\Q v H
def tC(v:V):TE:=λ_ H Q=>Q v H
def zbw(hN:X.N[i]?=some x)(hv:Vis X.env.scope x)(hd:(x==("__debug__":Str))=false:=by decide)(hcd:(x==("__classdict__":Str))=false:=by decide):PE X (.Name x pos) (tVar i):=by
 intro pins s Z H Q I h;obtain⟨v,e,h⟩:=h;obtain⟨m,hn,hl⟩:=I.loc;obtain⟨u,r,l⟩:=hl i x v hN e hv;have fin:EP X pins Z Q u s:=⟨v,H,I,r,h⟩;rcases l with⟨hk,hm⟩|⟨hk,c,hc,hcell⟩
 .exact YCO (wpAny_loadName_local I.ok.kind hk hn hm fin) hd
 .rcases hk with hk|hk
  .exact YCO (wpAny_loadName_cell I.ok.kind hk hc hcell fin) hd
  .exact YCO (wpAny_loadName_free I.ok.kind hk hc hcell fin hcd) hd
def za5{i j pos}:PE X (.Constant (.int i) j pos) (tC (.int i)):=λ_ _ _ H _ I h=>wpAny_Constant_int ⟨.int i,H,I.tok _,⟨_,rfl⟩,h⟩
def zvi{b j pos}:PE X (.Constant (.bool b) j pos) (tC (.bl b)):=λ_ _ _ H _ I h=>Constant_bool ⟨.bl b,H,I,rfl,h⟩
def ztm{j pos}:PE X (.Constant .none j pos) (tC .non):=λ_ _ _ H _ I h=>Constant_none ⟨.non,H,I,rfl,h⟩
def zqW{x j pos}:PE X (.Constant (.str x) j pos) (tC (.str x)):=λ_ _ _ H _ I h=>Calls.Constant_str ⟨.str x,H,I.tok _,⟨_,rfl⟩,h⟩
def Gl(X:Cx)(x:Str):Prop:=X.env.kindOf x=some .globalImplicit
def zd3{E:Value->Shared->Prop}{pins:List (Addr×Obj)}{s:Shared}{Z:St}{H:Hp}{x:Str}{u:Value}{pos:Pos}{Q:Value->Shared->Prop}(I:Inv X pins Z H s)(hg:Gl X x)(hm:X.mg x=some u)(h:Q u s)
  (hd:(x==("__debug__":Str))=false:=by decide):wpAny (model X.prog X.w) X.A (eval (.Name x pos) X.env) Q E s:=
 Calls.Name_function_global I.ok.kind hg (Calls.loadGlobal_global (by rw[I.ok.glob];exact I.mod.glob.keeps I.bk) hm h) hd
def zhp{E:Value->Shared->Prop}{pins:List (Addr×Obj)}{s:Shared}{Z:St}{H:Hp}{x:Str}{u:Value}{pos:Pos}{Q:Value->Shared->Prop}(I:Inv X pins Z H s)(hg:Gl X x)(hm:X.mg x=none)(hv:bootBuiltins x=some u)(h:Q u s)
  (hn:x≠"__name__":=by decide) (hd:(x==("__debug__":Str))=false:=by decide):wpAny (model X.prog X.w) X.A (eval (.Name x pos) X.env) Q E s:=by
 obtain⟨mb,h1,h2⟩:=I.mod.blt;exact Calls.Name_function_global I.ok.kind hg (Calls.loadGlobal_builtin (by rw[I.ok.glob];exact I.mod.glob.keeps I.bk) hm (by rw[I.ok.blt];exact h1.keeps I.bk) ((h2 x hn).trans hv) h) hd
def zj8(hg:Gl X x)(hm:X.mg x=some u)(r:RelV v u)(hd:(x==("__debug__":Str))=false:=by decide):PE X (.Name x pos) (tC v):=
 λ_ _ _ H _ I h=>zd3 I hg hm ⟨v,H,I,r,h⟩ hd
def znt(hg:Gl X x)(hm:X.mg x=none)(hv:bootBuiltins x=some u)(r:RelV v u)(hn:x≠"__name__":=by decide)(hd:(x==("__debug__":Str))=false:=by decide):PE X (.Name x pos) (tC v):=
 λ_ _ _ H _ I h=>zhp I hg hm hv ⟨v,H,I,r,h⟩ hn hd
variable{a b:Expr}{ta tb:TE}{pos:Pos}
noncomputable def PC(X:Cx)(op:CmpOp)(a b:Expr)(t:TE):Prop:=
 ∀(pins:List (Addr×Obj))(s:Shared)(Z:St)(H:Hp)(Q:VK),Inv X pins Z H s->t Z H Q ->
  wpAny (model X.prog X.w) X.A (eval a X.env) (λv s₁=>wpAny (model X.prog X.w) X.A (eval b X.env) (λu s₂=>wpAny (model X.prog X.w) X.A (compareOp op v u) (EP X pins Z Q) X.xe s₂) X.xe s₁) X.xe s
def zlB(b:Expr){op:CmpOp}(h:op≠.In)(h2:op≠.NotIn):behindInMarks op b=false:=by
 have e1:(op==CmpOp.In)=false:=by cases op<;>first|rfl|exact absurd rfl h
 have e2:(op==CmpOp.NotIn)=false:=by cases op<;>first|rfl|exact absurd rfl h2
 cases b<;>simp[behindInMarks,e1,e2]
def tIsN(ta:TE):TE:=λZ H Q=>ta Z H λx H1=>Q (.bl (decide (x=.non))) H1
def zvV(ta:TE):TE:=λZ H Q=>ta Z H λx H1=>Q (.bl (!decide (x=.non))) H1
def RelV.none_iff{x:V}{v:Value}(r:RelV x v):(v==Value.none)=decide (x=.non):=by
 cases x with
 |non=>cases r;rfl
 |bl _=>cases r;rfl
 |int _=>obtain⟨t,rfl⟩:=r;rfl
 |str _=>obtain⟨t,rfl⟩:=r;rfl
 |byt _=>obtain⟨t,rfl⟩:=r;rfl
 |flt _=>obtain⟨t,rfl⟩:=r;rfl
 |ref _=>cases r;rfl
 |ty _=>cases r;rfl
def zqJ{j pos'}(ha:PE X a ta):PC X .Is a (.Constant .none j pos') (tIsN ta):=by
 intro pins s Z H Q I h;refine thn (ha pins s Z H _ I h) λv s1 ⟨x,H1,I1,r1,q1⟩=>?_;exact Constant_none (is_none_gen ⟨.bl _,H1,I1,by rw[r1.none_iff];rfl,q1⟩)
def zrn{j pos'}(ha:PE X a ta):PC X .IsNot a (.Constant .none j pos') (zvV ta):=by
 intro pins s Z H Q I h;refine thn (ha pins s Z H _ I h) λv s1 ⟨x,H1,I1,r1,q1⟩=>?_;exact Constant_none (isnot_none_gen ⟨.bl _,H1,I1,by rw[r1.none_iff];rfl,q1⟩)
def tB(t:TE):TT:=λZ H Q=>t Z H λx H1=>∃c,x=.bl c/\Q c H1
def ztu(h:PC X op a b t)(h1:behindInMarks op b=false:=by first|exact zlB _ (by decide) (by decide)|rfl):PE X (.Compare a [op] [b] pos) t:=λpins s Z H Q I hw=>wpAny_Compare1 (h pins s Z H Q I hw) h1
def zlZ{op:CmpOp}{t:TE}(h:PC X op a b t)(h1:behindInMarks op b=false:=by first|exact zlB _ (by decide) (by decide)|rfl):PT X (.Compare a [op] [b] pos) (tB t):=by
 intro pins s Z H Q I hw;refine wpAny_isTrue_Compare1 (thn (h pins s Z H _ I hw) λv s1 h1=>thn h1 λu s2 h2=>thn h2 λc s3 ⟨x,H1,I1,r1,q1⟩=>?_) h1;obtain⟨d,rfl,q⟩:=q1;cases r1;exact YA3 ⟨H1,I1,q⟩
variable{tA tB':TT}{rest:List Expr}
def tOr(t u:TT):TT:=λZ H Q=>t Z H λc H1=>if c=true then Q true H1 else u Z H1 Q
def tNot(t:TT):TT:=λZ H Q=>t Z H λc H1=>Q (!c) H1
def zuS(ha:PT X a tA):PW X (.BoolOp .Or [a] pos) tA:=by
 intro wh pins s Z H Q I h;refine isTrue_or (thn (ha pins s Z H Q I h) λc s1 e=>?_);cases c with
 |false=>exact isTrue_or_nil e
 |true=>exact e
def zvT(ha:PT X a tA)(hb:PW X (.BoolOp .Or (b::rest) pos) tB'):PW X (.BoolOp .Or (a::b::rest) pos) (tOr tA tB'):=by
 intro wh pins s Z H Q I h;refine isTrue_or (thn (ha pins s Z H _ I h) λc s1 ⟨H1,I1,q1⟩=>?_);cases c with
 |true=>exact⟨H1,I1,q1⟩
 |false=>exact hb wh pins s1 Z H1 Q I1 q1
def zqD(ha:PT X a tA):PT X (.UnaryOp .Not a pos) (tNot tA):=by
 intro pins s Z H Q I h;exact isTrue_not (ha pins s Z H (λc H1=>Q (!c) H1) I h)
def zu3(ta tb:TE):TE:=λZ H Q=>ta Z H λx H1=>∃c,x=.bl c/\if c=true then tb Z H1 Q else Q (.bl false) H1
def zvF(ta:TE):TE:=λZ H Q=>ta Z H λx H1=>∃c,x=.bl c/\Q (.bl (!c)) H1
def zus{op}(h:PE X a t):PE X (.BoolOp op [a] pos) t:=λpins s Z H Q I hw=>BoolOp_one (h pins s Z H Q I hw)
def zt3(ha:PE X a ta)(hb:PE X (.BoolOp .And (b::rest) pos) tb):PE X (.BoolOp .And (a::b::rest) pos) (zu3 ta tb):=by
 intro pins s Z H Q I h;refine BoolOp_and (thn (ha pins s Z H _ I h) λv s1 ⟨x,H1,I1,r1,q1⟩=>?_);obtain⟨c,rfl,q1⟩:=q1;cases r1;refine YA3 ?_;cases c with
 |true=>exact hb pins s1 Z H1 Q I1 q1
 |false=>exact⟨.bl false,H1,I1,rfl,q1⟩
def zt9(ha:PE X a ta):PE X (.UnaryOp .Not a pos) (zvF ta):=by
 intro pins s Z H Q I h;refine UnaryOp_ (thn (ha pins s Z H _ I h) λv s1 ⟨x,H1,I1,r1,q1⟩=>?_);obtain⟨c,rfl,q1⟩:=q1;cases r1;exact not_of (YA3 ⟨.bl (!c),H1,I1,rfl,q1⟩)
end
def SqL(K:qk)(H:Hp)(a:Addr)(xs:List V):Prop:=
 Rd H a (.lst xs) \/
  ∃(o:Obj)(its:Array Value)(n:Nat),K.lookup a=some o/\o.cls=.type "list" /\ o.dict=none/\o.data=.seq its n/\its.size<=sizeLine/\Vals xs its.toList
def SqT(K:qk)(H:Hp)(a:Addr)(xs:List V):Prop:=
 Rd H a (.tup xs) \/
  ∃(o:Obj)(its:Array Value)(n:Nat),K.lookup a=some o/\o.cls=.type "tuple" /\ o.data=.seq its n/\its.size<=sizeLine/\Vals xs its.toList
def absV:Value->Option V
 |.none=>some .non
 |.bool b=>some (.bl b)
 |.int i _=>some (.int i)
 |.str x _=>some (.str x)
 |.bytes b _=>some (.byt b)
 |.float b _=>some (.flt b)
 |.ref a=>some (.ref a)
 |.type n=>some (.ty n)
 |_=>none
def RelV.abs(r:RelV x u):absV u=some x:=by
 cases x with
 |non=>cases r;rfl
 |bl _=>cases r;rfl
 |int _=>obtain⟨t,rfl⟩:=r;rfl
 |str _=>obtain⟨t,rfl⟩:=r;rfl
 |byt _=>obtain⟨t,rfl⟩:=r;rfl
 |flt _=>obtain⟨t,rfl⟩:=r;rfl
 |ref _=>cases r;rfl
 |ty _=>cases r;rfl
theorem RelV.inj{x y:V}{u:Value}(r:RelV x u)(q:RelV y u):x=y:=Option.some.inj (r.abs.symm.trans q.abs)
theorem Vals.inj:∀{xs ys:List V}{us:List Value},Vals xs us->Vals ys us->xs=ys
 |_,_,_,.nil,.nil=>rfl
 |_,_,_,.cons r t,.cons r' t'=>by rw[r.inj r',Vals.inj t t']
section
variable{X:Cx}{pins:List (Addr×Obj)}{Z:St}{H:Hp}{s:Shared}{a:Addr}{xs ys:List V}
def SqL.of{K:qk}(h:H a=some (.lst xs)):SqL K H a xs:=.inl (.inl h)
def SqT.of{K:qk}(h:H a=some (.tup xs)):SqT K H a xs:=.inl (.inl h)
def Inv.list(I:Inv X pins Z H s)(h:SqL X.K H a xs):∃its:List Value,Vals xs its/\PlainL s.heap a its.toArray/\xs.length<=sizeLine:=by
 rcases h with h|⟨o,its,n,hk,hc,hd,hs,hz,r⟩
 .obtain⟨z,its,n,r,e⟩:=h.ok I.hok;exact⟨its,r,⟨_,n,e,rfl,rfl,rfl⟩,z⟩
 .refine⟨its.toList,r,⟨o,n,I.kIn a o hk,hc,hd,by simpa using hs⟩,?_⟩;have e:=r.length;simp only[YBe]at e;omega
def Inv.tuple(I:Inv X pins Z H s)(h:SqT X.K H a xs):∃its:List Value,Vals xs its/\IsTup s.heap a its.toArray/\xs.length<=sizeLine:=by
 rcases h with h|⟨o,its,n,hk,hc,hs,hz,r⟩
 .obtain⟨z,its,r,p⟩:=h.ok I.hok;exact⟨its,r,p,z⟩
 .refine⟨its.toList,r,⟨o,I.kIn a o hk,hc,n,by simpa using hs⟩,?_⟩;have e:=r.length;simp only[YBe]at e;omega
def Inv.list_inj(I:Inv X pins Z H s)(h:SqL X.K H a xs)(h':SqL X.K H a ys):xs=ys:=by
 obtain⟨its,r,⟨o,n,e,_,_,d⟩,_⟩:=I.list h;obtain⟨its',r',⟨o',n',e',_,_,d'⟩,_⟩:=I.list h';rw[e]at e';cases e';rw[d]at d';injection d' with d1 _
 have:its=its':=by simpa using congrArg Array.toList d1
 subst this;exact r.inj r'
def Inv.tuple_inj(I:Inv X pins Z H s)(h:SqT X.K H a xs)(h':SqT X.K H a ys):xs=ys:=by
 obtain⟨its,r,⟨o,e,_,n,d⟩,_⟩:=I.tuple h;obtain⟨its',r',⟨o',e',_,n',d'⟩,_⟩:=I.tuple h';rw[e]at e';cases e';rw[d]at d';injection d' with d1 _
 have:its=its':=by simpa using congrArg Array.toList d1
 subst this;exact r.inj r'
end
abbrev Cx.wish(X:Cx)(E:Value->Shared->Prop):Cx:={X with xe:=E}
abbrev Cx.nox(X:Cx):Cx:=X.wish λ_ _=>False
theorem Cx.Ok.wish{X:Cx}(ok:X.Ok)(E:Value->Shared->Prop):(X.wish E).Ok:=
 ⟨ok.mod,ok.kind,ok.glob,ok.blt,ok.above,ok.inj,ok.has,ok.cab,ok.hd,ok.frames,ok.stk,ok.exf,ok.bs,ok.bsz,ok.noex,ok.exfs,ok.funs,ok.frf⟩
def Cx.Ok.unwish{X:Cx}{E:Value->Shared->Prop}(ok:(X.wish E).Ok):X.Ok:=
 ⟨ok.mod,ok.kind,ok.glob,ok.blt,ok.above,ok.inj,ok.has,ok.cab,ok.hd,ok.frames,ok.stk,ok.exf,ok.bs,ok.bsz,ok.noex,ok.exfs,ok.funs,ok.frf⟩
section
variable{X:Cx}{pins:List (Addr×Obj)}{Z:St}{H:Hp}{s:Shared}{E:Value->Shared->Prop}
theorem Inv.wish(I:Inv X pins Z H s)(E:Value->Shared->Prop):Inv (X.wish E) pins Z H s:=⟨I.ok.wish E,I.os,I.bare,I.base,I.loc,I.cell,I.free,I.freeC,I.pin,I.hok,I.len⟩
theorem Inv.unwish(I:Inv (X.wish E) pins Z H s):Inv X pins Z H s:=⟨I.ok.unwish,I.os,I.bare,I.base,I.loc,I.cell,I.free,I.freeC,I.pin,I.hok,I.len⟩
theorem SP.unwish(h:SP (X.wish E) pins D f s'):SP X pins D f s':=by
 cases f with
 |next=>obtain⟨Z',H',I,q⟩:=h;exact⟨Z',H',I.unwish,q⟩
 |brk=>obtain⟨Z',H',I,q⟩:=h;exact⟨Z',H',I.unwish,q⟩
 |cont=>obtain⟨Z',H',I,q⟩:=h;exact⟨Z',H',I.unwish,q⟩
 |ret u=>obtain⟨v,Z',H',I,r,q⟩:=h;exact⟨v,Z',H',I.unwish,r,q⟩
theorem PE.nox(h:PE X.nox e t):PE X e t:=λpins s Z H Q I hw=>
 YAT (h pins s Z H Q (I.wish _) hw) (λ_ _ ⟨v,H',I',r,q⟩=>⟨v,H',I'.unwish,r,q⟩) λ_ _ z=>False.elim z
theorem PT.nox(h:PT X.nox e t):PT X e t:=λpins s Z H Q I hw=>
 YAT (h pins s Z H Q (I.wish _) hw) (λ_ _ ⟨H',I',q⟩=>⟨H',I'.unwish,q⟩) λ_ _ z=>False.elim z
theorem PSs.nox{st:List Stmt}{t:TS}(h:PSs X.nox st t):PSs X st t:=λpins s Z H D I hw=>
 YAT (h pins s Z H D (I.wish _) hw) (λ_ _ q=>q.unwish) λ_ _ z=>False.elim z
end
section
variable{X:Cx}{st:Stmt}{rest:List Stmt}{t u:TS}{e:Expr}{te:TE}{pos:Pos}
def zvW:TS:=λD Z H=>D.nx Z H
def tSeq(t u:TS):TS:=λD Z H=>t {D with nx:=u D} Z H
def zgL:PSs X [] zvW:=λ_ _ Z H _ I h=>YBO ⟨Z,H,I,h⟩
def zaY(h1:PS X st t)(h2:PSs X rest u):PSs X (st::rest) (tSeq t u):=by
 intro pins s Z H D I h;refine YCq (thn (h1 pins s Z H {D with nx:=u D} I h) λf s1 q=>?_);cases f with
 |next=>
  obtain⟨Z',H',I',q⟩:=q;exact h2 pins s1 Z' H' D I' q
 |ret v=>exact q
 |brk=>exact q
 |cont=>exact q
def zd1(h1:PS X st t):PSs X [st] t:=by
 intro pins s Z H D I h;refine YCq (thn (h1 pins s Z H D I h) λf s1 q=>?_);cases f with
 |next=>exact YBO q
 |ret v=>exact q
 |brk=>exact q
 |cont=>exact q
def Inv.quiet{pins:List (Addr×Obj)}{Z:St}{H:Hp}{s:Shared}(I:Inv X pins Z H s):interactive X.env=false:=by simp[interactive,I.ok.kind]
def zvw(te:TE):TS:=λD Z H=>te Z H λ_ H1=>D.nx Z H1
def zj9(he:PE X e te)(hs:swapsWith e none pos.line X.env=pure false:=by rfl):PS X (.Expr e pos) (zvw te):=by
 intro pins s Z H D I h;exact wpAny_Expr_any (thn (he pins s Z H _ I h) λv s1 ⟨x,H1,I1,r1,q1⟩=>⟨Z,H1,I1,q1⟩) I.quiet hs
def tRet(te:TE):TS:=λD Z H=>te Z H D.rt
def zfM(he:PE X e te):PS X (.Return (some e) pos) (tRet te):=by
 intro pins s Z H D I h;exact wpAny_Return_some (thn (he pins s Z H _ I h) λv s1 ⟨x,H1,I1,r1,q1⟩=>⟨x,Z,H1,I1,r1,q1⟩)
def tIfS(c:TT)(t u:TS):TS:=λD Z H=>c Z H λb H1=>if b=true then t D Z H1 else u D Z H1
def zmI{c:Expr}{a b:List Stmt}{tc:TT}(hc:PT X c tc)(ha:PSs X a t)(hb:PSs X b u):PS X (.If c a b pos) (tIfS tc t u):=by
 intro pins s Z H D I h;refine wpAny_If (thn (hc pins s Z H _ I h) λd s1 ⟨H1,I1,q1⟩=>?_);cases d with
 |true=>exact ha pins s1 Z H1 D I1 q1
 |false=>exact hb pins s1 Z H1 D I1 q1
end
abbrev TG:=V->St->Hp->(St->Hp->Prop)->Prop
abbrev TGs:=List V->St->Hp->(St->Hp->Prop)->Prop
def PG(X:Cx)(target:Expr)(t:TG):Prop:=
 ∀(pins:List (Addr×Obj))(s:Shared)(Z:St)(H:Hp)(v:V)(u:Value)(Q:St->Hp->Prop),Inv X pins Z H s->RelV v u->t v Z H Q ->
  wpAny (model X.prog X.w) X.A (assign target X.env u) (λ_ s'=>∃ Z' H',Inv X pins Z' H' s'/\Q Z' H') X.xe s
noncomputable def PGs(X:Cx)(ts:List Expr)(t:TGs):Prop:=
 ∀(pins:List (Addr×Obj))(s:Shared)(Z:St)(H:Hp)(vs:List V)(us:List Value)(Q:St->Hp->Prop),Inv X pins Z H s->Vals vs us->t vs Z H Q ->
  wpAny (model X.prog X.w) X.A (assignInOrder ((assignEach ts X.env).map (·.2)) us) (λ_ s'=>∃ Z' H',Inv X pins Z' H' s'/\Q Z' H') X.xe s
abbrev TSet:=V->V->V->Hp->(Hp->Prop)->Prop
def PSet(X:Cx)(t:TSet):Prop:=
 ∀(pins:List (Addr×Obj))(s:Shared)(Z:St)(H:Hp)(o i v:V)(ov iv u:Value)(Q:Hp->Prop),Inv X pins Z H s->RelV o ov->RelV i iv->RelV v u->t o i v H Q ->
  wpAny (model X.prog X.w) X.A (setItem ov iv u) (λ_ s'=>∃H',Inv X pins Z H' s'/\Q H') X.xe s
abbrev TIp:=V->V->Hp->VK->Prop
def PIp(X:Cx)(op:Operator)(t:TIp):Prop:=
 ∀(pins:List (Addr×Obj))(s:Shared)(Z:St)(H:Hp)(x y:V)(v u:Value)(Q:VK),Inv X pins Z H s->RelV x v->RelV y u->t x y H Q ->
  wpAny (model X.prog X.w) X.A (inplaceOp op v u) (EP X pins Z Q) X.xe s
section
variable{X:Cx}{pos:Pos}
def zjR(i:Nat):TG:=λv Z H Q=>Q (Z.set i (some v)) H
def zsB(hN:X.N.Nodup)(hi:X.N[i]?=some x)(hx:Loc X.env.scope x)(hf:X.fn x=true\/X.env.scope.names.lookup x=some .local:=by first|exact .inl rfl|exact .inr rfl|assumption):PG X (.Name x pos) (zjR i):=by
 intro pins s Z H v u Q I r h;exact wpAny_assign_Name (zdx I hN hi hx r (λs' I'=>⟨_,H,I',h⟩) hf)
def gNil:TGs:=λvs Z H Q=>vs=[]/\Q Z H
def zp0(t:TG)(u:TGs):TGs:=λvs Z H Q=>∃v r,vs=v::r/\t v Z H λZ' H'=>u r Z' H' Q
def zbU:PGs X [] gNil:=by
 intro pins s Z H vs us Q I r h;obtain⟨e,h⟩:=h;subst e;cases r;exact assignInOrder_nil ⟨Z,H,I,h⟩
def zaq{e:Expr}{es:List Expr}{t:TG}{u:TGs}(h1:PG X e t)(h2:PGs X es u)
  (hs:(assignEach (e::es) X.env).map (·.2)=assign e X.env::(assignEach es X.env).map (·.2):=by rfl):PGs X (e::es) (zp0 t u):=by
 intro pins s Z H vs us Q I r h;obtain⟨v,vr,e1,h⟩:=h;subst e1;cases r with
 |cons r rr=>
  rw[hs];refine YCH (thn (h1 pins s Z H _ _ _ I r h) λ_ s1 ⟨Z1,H1,I1,q1⟩=>?_);exact h2 pins s1 Z1 H1 _ _ Q I1 rr q1
def gTup(K:qk)(n:Nat)(t:TGs):TG:=λv Z H Q=>∃a xs,v=.ref a/\SqT K H a xs/\xs.length=n/\t xs Z H Q
def ztW(hc:X.calm=true)(h:PGs X es t)
  (hn:(assignEach es X.env).length=n:=by rfl) (hst:(assignEach es X.env).findIdx? (·.1)=none:=by rfl):PG X (.Tuple es k pos) (gTup X.K n t):=by
 intro pins s Z H v u Q I r hw;obtain⟨a,xs,e1,hq,hl,hw⟩:=hw;subst e1;cases r;obtain⟨its,rv,ht,hz⟩:=I.tuple hq;refine assign_Tuple_tuple (I.ok.hd hc) ht (by simp[hn,<-hl,rv.length]) hst λh' hx=>?_;have I1:Inv X pins Z H {s with heap:=h'}:=I.kept (t':=s.toks) λb o e=>hx b o (YAs (YAh e)) e;exact h pins _ Z H xs _ Q I1 (by simpa using rv) hw
def gSub(to ti:TE)(t:TSet):TG:=λv Z H Q=>to Z H λo H1=>ti Z H1 λi H2=>t o i v H2 λH3=>Q Z H3
def zlc{o i:Expr}{to ti:TE}{t:TSet}(ho:PE X o to)(hi:PE X i ti)(hs:PSet X t)
  (ha:∀v,assign (.Subscript o i pos) X.env v=(do
   let ov <-holding [v] (eval o X.env)
   let iv <-holding [v,ov] (eval i X.env)
   standAt pos
   holding [v,ov,iv] (setItem ov iv v)
   release [v,ov,iv] []):=by intro _;rfl):PG X (.Subscript o i pos) (gSub to ti t):=by
 intro pins s Z H v u Q I r h;rw[ha];refine YAa (YAW (thn (ho pins s Z H _ I h) λov s1 ⟨x,H1,I1,r1,q1⟩=>?_));refine YAa (YAW (thn (hi pins s1 Z H1 _ I1 q1) λiv s2 ⟨y,H2,I2,r2,q2⟩=>?_));refine YAa (YCy (YAa (YAW (thn (hs pins s2 Z H2 x y v ov iv u _ I2 r1 r2 r q2) λ_ s3 ⟨H3,I3,q3⟩=>?_))));exact wpAny_release ⟨Z,H3,I3,q3⟩
def tAsg(te:TE)(g:TG):TS:=λD Z H=>te Z H λx H1=>g x Z H1 D.nx
def zhl{tg e:Expr}{te:TE}{g:TG}(he:PE X e te)(hg:PG X tg g)(hs:swapsWithSole [tg] e pos.line X.env=pure false:=by rfl)(hw:swappedStores [tg] e X.env=pure none:=by rfl)
  (h1:(assignEach [tg] X.env).map (·.2)=[assign tg X.env]:=by rfl):PS X (.Assign [tg] e pos) (tAsg te g):=by
 intro pins s Z H D I h;refine wpAny_Assign_stores (thn (he pins s Z H _ I h) λv s1 ⟨x,H1,I1,r1,q1⟩=>?_) hs hw;rw[h1];exact thn (hg pins s1 Z H1 x v _ I1 r1 q1) λ_ s2 q=>q
def zdG{i:Nat}{x:Str}{e:Expr}{te:TE}{pos':Pos}(hN:X.N.Nodup)(hi:X.N[i]?=some x)(hx:Loc X.env.scope x)(he:PE X e te)(hs:swapsWith e (some (.Name x pos')) pos.line X.env=pure false:=by rfl)(hf:X.fn x=true\/X.env.scope.names.lookup x=some .local:=by first|exact .inl rfl|exact .inr rfl|assumption) :
  PS X (.Assign [.Name x pos'] e pos) (tAsg te (zjR i)):=by
 intro pins s Z H D I h;refine YCP (thn (he pins s Z H _ I h) λv s1 ⟨y,H1,I1,r1,q1⟩=>?_) hs;exact zdx I1 hN hi hx r1 (λs2 I2=>⟨_,H1,I2,q1⟩) hf
def tPar(i j:Nat)(ta:TA):TS:=λD Z H=>ta Z H λvs H1=>∃v w,vs=[v,w]/\D.nx ((Z.set i (some v)).set j (some w)) H1
def zun{i j:Nat}{x y:Str}{a b:Expr}{ta:TA}{px py pt:Pos}{kt k2 pt2}(hc:X.calm=true)(hN:X.N.Nodup)(hi:X.N[i]?=some x)(hj:X.N[j]?=some y)(hij:i≠j)
  (hx:X.env.scope.names.lookup x=some .local) (hy:X.env.scope.names.lookup y=some .local) (ha:PA X [a,b] ta)
  (hw:swappedStores [.Tuple [.Name x px,.Name y py] kt pt] (.Tuple [a,b] k2 pt2) X.env=pure (some [x,y]))
  (hs:swapsWithSole [.Tuple [.Name x px,.Name y py] kt pt] (.Tuple [a,b] k2 pt2) pos.line X.env=pure false:=by rfl) :
  PS X (.Assign [.Tuple [.Name x px,.Name y py] kt pt] (.Tuple [a,b] k2 pt2) pos) (tPar i j ta):=by
 intro pins s Z H D I h;rw[exec_Assign_arm];refine YAa (YCy ?_);rw[hs];refine YAa (YAd ?_);rw[if_neg (by decide)];refine YAa (Tuple_ (thn (ha _ pins s Z H _ I h) λus s1 ⟨vs,H1,I1,r1,q1⟩=>?_));obtain⟨v,w,e1,q1⟩:=q1;subst e1;obtain⟨u1,u2,rfl,rv,rw'⟩:∃u1 u2,us=[u1,u2]/\RelV v u1/\RelV w u2:=by
  cases r1 with
  |cons p q=>
   cases q with
   |cons p' q'=>
    cases q';exact⟨_,_,rfl,p,p'⟩
 refine YAI ?_ (by show 2<=sizeLine;decide);have I2:Inv X pins Z H1 {s1 with heap:=s1.heap.push {cls:=.type "tuple",data:=.seq [u1,u2].toArray}}:=I1.kept (t':=s1.toks) λb o e=>YAc _ e;rw[hw];refine YAa (YAd ?_);show wpAny (model X.prog X.w) X.A (do rule "assign.swapped-stores"; let items <-unpackItems (.ref s1.heap.objs.size) 2 none;assignInOrder [λv=>bindName X.env y v,λv=>bindName X.env x v] items.reverse;pure Flow.next) _ _ _;refine YAa (YCe (YAa (unpackItems_tuple (items:=#[u1,u2]) (I.ok.hd hc) (IsTup.new s1.heap _) λh' hx'=>?_)));have I3:=I2.kept (h':=h') (t':=s1.toks) λb o e=>hx' b o (YAs (YAh e)) e;show wpAny _ _ (assignInOrder [λv=>bindName X.env y v,λv=>bindName X.env x v] [u2,u1] >>=λ_=>pure Flow.next) _ _ _;refine YAa (YCH (wpAny_bindName (zdx I3 hN hj (.inl hy) rw' (λs2 I4=>?_) (.inr hy))));refine YCH (wpAny_bindName (zdx I4 hN hi (.inl hx) rv (λs3 I5=>assignInOrder_nil (YAd ?_)) (.inr hx)));rw[List.set_comm _ _ (YAK hij)]at I5;exact⟨_,H1,I5,q1⟩
def zvl(to ti te:TE)(tget:V->V->Hp->VK->Prop)(tip:TIp)(tset:TSet):TS:=λD Z H=>to Z H λo H1=>ti Z H1 λi H2=>tget o i H2 λx H3=>te Z H3 λy H4=>tip x y H4 λz H5=>tset o i z H5 λH6=>D.nx Z H6
def PGet(X:Cx)(t:V->V->Hp->VK->Prop):Prop:=
 ∀(pins:List (Addr×Obj))(s:Shared)(Z:St)(H:Hp)(o i:V)(ov iv:Value)(Q:VK),Inv X pins Z H s->RelV o ov->RelV i iv->t o i H Q ->
  wpAny (model X.prog X.w) X.A (getItem ov iv) (EP X pins Z Q) X.xe s
def zrG{o i e:Expr}{to ti te:TE}{tget:V->V->Hp->VK->Prop}{tip:TIp}{tset:TSet}{op:Operator}{tpos:Pos}(ho:PE X o to)(hi:PE X i ti)(hg:PGet X tget)(he:PE X e te)(hp:PIp X op tip)(hs:PSet X tset)
  (ha:∀ov iv new,augStore i ov iv new=(do holding [new,ov,iv] (setItem ov iv new);release [new,ov,iv] [];pure .next):=by intros;rfl):PS X (.AugAssign (.Subscript o i tpos) op e pos) (zvl to ti te tget tip tset):=by
 intro pins s Z H D I h;refine wpAny_AugAssign_SubscriptAny (thn (ho pins s Z H _ I h) λov s1 ⟨x1,H1,I1,r1,q1⟩=>?_) ha;refine thn (hi pins s1 Z H1 _ I1 q1) λiv s2 ⟨x2,H2,I2,r2,q2⟩=>?_;refine thn (hg pins s2 Z H2 x1 x2 ov iv _ I2 r1 r2 q2) λold s3 ⟨x3,H3,I3,r3,q3⟩=>?_;refine thn (he pins s3 Z H3 _ I3 q3) λv s4 ⟨x4,H4,I4,r4,q4⟩=>?_;refine thn (hp pins s4 Z H4 x3 x4 old v _ I4 r3 r4 q4) λnew s5 ⟨x5,H5,I5,r5,q5⟩=>?_;exact thn (hs pins s5 Z H5 x1 x2 x5 ov iv new _ I5 r1 r2 r5 q5) λ_ s6 ⟨H6,I6,q6⟩=>⟨Z,H6,I6,q6⟩
def ipI(f:Int->Int->Int):TIp:=λx y H Q=>∃i j,x=.int i/\y=.int j/\Q (.int (f i j)) H
def zsV:PIp X .Add (ipI λi j=>i+j):=by
 intro pins s Z H x y v u Q I r1 r2 h;obtain⟨i,j,e1,e2,q⟩:=h;subst e1;subst e2;obtain⟨t,rfl⟩:=r1;obtain⟨t',rfl⟩:=r2;exact iadd_int ⟨.int _,H,I.tok _,⟨_,rfl⟩,q⟩
end
structure It where
 go:Nat->Hp->Prop
 yld:Nat->Hp->V->Hp->Prop
 stop:Nat->Hp->Prop
def FpOk(X:Cx)(pins:List (Addr×Obj))(H:Hp)(b:Addr):Prop:=
 H b=none/\b≠X.env.locals/\b∉X.fs/\(b∈X.ex\/X.s₀.heap.objs.size<=b)/\(∀x c,X.env.cells.lookup x=some c->c≠b)/\∀p∈X.pn++pins,p.1≠b
def Inv.fpOk{X:Cx}{pins:List (Addr×Obj)}{Z:St}{H H':Hp}{s:Shared}{b:Addr}(I:Inv X pins Z H s)(hb:s.heap.objs.size<=b)(hn:H' b=none):FpOk X pins H' b:=by
 refine⟨hn,YBz (YAr I.lt hb),I.nofs hb,.inr (YAx I.sz hb),λx c e z=>?_,λp hp z=>?_⟩
 .obtain⟨v,q⟩:=I.cell x c e;exact absurd (YAr q.lt (by rw[z];exact hb)) (YBb _)
 .exact absurd (YAr (YAh (I.pin p hp).1) (by rw[z];exact hb)) (YBb _)
structure Turn(P:Program)(w:World)(K:qk)(tg:Expr)(J:It)(fp:List Addr)(it:Addr)(tn:Nat->Heap->Prop):Prop where
 mem:it∈fp
 obj:∀i h,tn i h->∀b∈fp,∃o,h.get? b=some o/\∀v,o.data≠.cell v
 keep:∀i h h',tn i h->(∀b∈fp,∀o,h.get? b=some o->h'.get? b=some o)->tn i h'
 item:∀(X:Cx),X.prog=P->X.w=w->X.K=K->X.calm=true->∀(i:Nat)(pins:List (Addr×Obj))(s:Shared)(Z:St)(H:Hp)(E:Value->Shared->Prop),Inv X pins Z H s->(∀b∈fp,FpOk X pins H b)->tn i s.heap->J.go i H ->
  wpAny (model P w) X.A (pyNext (.ref it)) (λr s1=>∃u,r=some u /\
   wpAny (model P w) X.A (letOwnedTupleGo tg (.ref it) u) (λ_ s2=>∃x H',Inv X pins Z H' s2/\RelV x u/\J.yld i H x H'/\tn (i+1) s2.heap/\∀b∈fp,H' b=none) E s1) E s
 done:∀(X:Cx),X.prog=P->X.w=w->X.K=K->X.calm=true->∀(i:Nat)(pins:List (Addr×Obj))(s:Shared)(Z:St)(H:Hp)(E:Value->Shared->Prop),Inv X pins Z H s->(∀b∈fp,FpOk X pins H b)->tn i s.heap->J.stop i H ->
  wpAny (model P w) X.A (pyNext (.ref it)) (λr s1=>r=none/\Inv X pins Z H s1) E s
 self:∀(A:Around)(i:Nat)(s:Shared)(Q:Value->Shared->Prop)(E:Value->Shared->Prop),tn i s.heap->Q (.ref it) s->wpAny (model P w) A (pyIter (.ref it)) Q E s
abbrev TI:=St->Hp->(It->Hp->Prop)->Prop
def PIE(X:Cx)(pins:List (Addr×Obj))(Z:St)(tg:Expr)(R:It->Hp->Prop)(itv:Value)(s2:Shared):Prop:=
 ∃(it:Addr)(fp:List Addr)(tn:Nat->Heap->Prop)(J:It)(H':Hp),itv=.ref it/\Inv X pins Z H' s2/\Turn X.prog X.w X.K tg J fp it tn/\tn 0 s2.heap/\(∀b∈fp,FpOk X pins H' b)/\R J H'
def PI(X:Cx)(tg iter:Expr)(wi:TI):Prop:=
 ∀(pins:List (Addr×Obj))(s:Shared)(Z:St)(H:Hp)(R:It->Hp->Prop),Inv X pins Z H s->wi Z H R ->
  wpAny (model X.prog X.w) X.A (eval iter X.env) (λv s1=>wpAny (model X.prog X.w) X.A (pyIter v) (PIE X pins Z tg R) X.xe s1) X.xe s
def zma(ho:s.heap.get? it=some o)(hc:o.cls=.type n)(hd:o.data=.fields vs)
    (hn:["enumerate","zip","dict_itemiterator","dict_reverseitemiterator","odict_iterator","itertools.zip_longest","itertools.pairwise"].contains n=false) (hQ:Q () s):wpAny M A (letOwnedTupleGo tg (.ref it) u) Q E s:=by
  unfold letOwnedTupleGo;cases tg<;>first
    |exact YAd hQ
    | (cases u<;>first
        |exact YAd hQ
        | (refine YAa (wpAny_load ho ?_)
           rw[hc,hd];show wpAny M A (if (["enumerate","zip","dict_itemiterator","dict_reverseitemiterator","odict_iterator","itertools.zip_longest","itertools.pairwise"].contains n&&vs[0]?==some (rawInt _))=true then _ else _) Q E s;rw[if_neg (by intro h;rw[hn,Bool.false_and]at h;cases h)];exact YAd hQ))
def Itl(K:qk)(a:Addr):It:=
 ⟨λi H=>∃xs x,SqL K H a xs/\xs[i]?=some x,λi H x H'=>H'=H/\∀xs,SqL K H a xs->xs[i]?=some x,λi H=>∃xs,SqL K H a xs/\xs.length<=i⟩
def Itt(K:qk)(a:Addr):It:=
 ⟨λi H=>∃xs x,SqT K H a xs/\xs[i]?=some x,λi H x H'=>H'=H/\∀xs,SqT K H a xs->xs[i]?=some x,λi H=>∃xs,SqT K H a xs/\xs.length<=i⟩
def Itr(lo:Int)(n:Nat):It:=⟨λi _=>i<n,λi H x H'=>H'=H/\x=.int (lo+i),λi _=>n<=i⟩
def zob{P:Program}{w:World}{K:qk}{tg:Expr}(a it:Addr):Turn P w K tg (Itl K a) [it] it (λi h=>h.IsListIter it a i)where
 mem:=by simp
 obj:=λi h st b hb=>by
  have e:b=it:=by simpa using hb
  subst e;obtain⟨o,e,c,d⟩:=st;exact⟨o,e,λv z=>by rw[d]at z;cases z⟩
 keep:=λi h h' st k=>st.at λo e=>k it (by simp) o e
 item:=by
  intro X hP hw hK hc i pins s Z H E I hf st hg;subst hP hw hK;obtain⟨xs,x,hq,hx⟩:=hg;obtain⟨its,rv,p,hz⟩:=I.list hq;obtain⟨u,hu,ru⟩:=rv.get hx;obtain⟨f0,f1,f2,f3,f4,f5⟩:=hf it (by simp);refine wpAny_pyNext_list_item st p.isList (x:=u) (by simpa using hu) λh' st' sb=>?_;have I1:Inv X pins Z H {s with heap:=h'}:=I.turned (t':=s.toks) (λb o hb e=>(sb.2 b hb).trans e) f0 f1 f3 f4 f5;obtain⟨o,e,c,d⟩:=id st';exact⟨u,rfl,zma (s:={s with heap:=h'}) e c d (by decide) ⟨x,H,I1,ru,⟨rfl,λys hy=>by rw[I.list_inj hy hq];exact hx⟩,st',λb hb=>(hf b hb).1⟩⟩
 done:=by
  intro X hP hw hK hc i pins s Z H E I hf st hg;subst hP hw hK;obtain⟨xs,hq,hx⟩:=hg;obtain⟨its,rv,p,hz⟩:=I.list hq;obtain⟨f0,f1,f2,f3,f4,f5⟩:=hf it (by simp);have hl:=rv.length;exact wpAny_pyNext_list_end (I.ok.hd hc) st p.isList (by simp;omega) λh' eb=>⟨rfl,I.turned (t':=s.toks) (λb o hb e=>eb b o hb e) f0 f1 f3 f4 f5⟩
 self:=λ_ _ _ _ _ st h=>wpAny_pyIter_listiter st h
def zmu{P:Program}{w:World}{K:qk}{tg:Expr}(a it:Addr):Turn P w K tg (Itt K a) [it] it (λi h=>h.IsTupleIter it a i)where
 mem:=by simp
 obj:=λi h st b hb=>by
  have e:b=it:=by simpa using hb
  subst e;obtain⟨o,e,c,d⟩:=st;exact⟨o,e,λv z=>by rw[d]at z;cases z⟩
 keep:=λi h h' st k=>st.at λo e=>k it (by simp) o e
 item:=by
  intro X hP hw hK hc i pins s Z H E I hf st hg;subst hP hw hK;obtain⟨xs,x,hq,hx⟩:=hg;obtain⟨its,rv,p,hz⟩:=I.tuple hq;obtain⟨u,hu,ru⟩:=rv.get hx;obtain⟨f0,f1,f2,f3,f4,f5⟩:=hf it (by simp);refine wpAny_pyNext_tuple_item st (show s.heap.IsTuple a its.toArray from p) (x:=u) (by simpa using hu) λh' st' sb=>?_;have I1:Inv X pins Z H {s with heap:=h'}:=I.turned (t':=s.toks) (λb o hb e=>(sb.2 b hb).trans e) f0 f1 f3 f4 f5;obtain⟨o,e,c,d⟩:=id st';exact⟨u,rfl,zma (s:={s with heap:=h'}) e c d (by decide) ⟨x,H,I1,ru,⟨rfl,λys hy=>by rw[I.tuple_inj hy hq];exact hx⟩,st',λb hb=>(hf b hb).1⟩⟩
 done:=by
  intro X hP hw hK hc i pins s Z H E I hf st hg;subst hP hw hK;obtain⟨xs,hq,hx⟩:=hg;obtain⟨its,rv,p,hz⟩:=I.tuple hq;obtain⟨f0,f1,f2,f3,f4,f5⟩:=hf it (by simp);have hl:=rv.length;exact wpAny_pyNext_tuple_end (I.ok.hd hc) st (show s.heap.IsTuple a its.toArray from p) (by simp;omega) λh' eb=>⟨rfl,I.turned (t':=s.toks) (λb o hb e=>eb b o hb e) f0 f1 f3 f4 f5⟩
 self:=λ_ _ _ _ _ st h=>wpAny_pyIter_tupleiter st h
def zhq{P:Program}{w:World}{K:qk}{tg:Expr}(it:Addr)(lo:Int)(n:Nat):Turn P w K tg (Itr lo n) [it] it (λi h=>IsRangeIter h it (lo+(i:Nat)*1) ((n:Int)-(i:Nat)) 1)where
 mem:=by simp
 obj:=λi h st b hb=>by
  have e:b=it:=by simpa using hb
  subst e;exact⟨_,st,λv z=>by
   have z':Data.fields _=Data.cell v:=z;cases z'⟩
 keep:=λi h h' st k=>k it (by simp) _ st
 item:=by
  intro X hP hw hK hc i pins s Z H E I hf st hg;subst hP hw hK;obtain⟨f0,f1,f2,f3,f4,f5⟩:=hf it (by simp);have W:=Walks.range (prog:=X.prog) (w:=X.w) (I.ok.hd hc) it lo 1 n;refine W.item i s _ _ hg st λv h' tk hv st' kk=>?_;obtain⟨t,rfl⟩:=hv;have I1:Inv X pins Z H {s with heap:=h',toks:=tk}:=I.turned (λb o hb e=>kk b o (by simpa using hb) e) f0 f1 f3 f4 f5;refine⟨_,rfl,zma (s:={s with heap:=h',toks:=tk}) (n:="range_iterator") st' rfl rfl (by decide) ⟨.int (lo+i),H,I1,⟨t,?_⟩,⟨rfl,rfl⟩,st',λb hb=>(hf b hb).1⟩⟩;rw[Int.mul_one]
 done:=by
  intro X hP hw hK hc i pins s Z H E I hf st hg;subst hP hw hK;obtain⟨f0,f1,f2,f3,f4,f5⟩:=hf it (by simp);exact wpAny_pyNext_range_end (I.ok.hd hc) st (by have:n<=i:=hg;omega) λh' eb=>⟨rfl,I.turned (t':=s.toks) (λb o hb e=>eb b o hb e) f0 f1 f3 f4 f5⟩
 self:=λ_ _ _ _ _ st h=>wpAny_pyIter_rangeiter st h
section
variable{X:Cx}{tg:Expr}
def zpQ{pins:List (Addr×Obj)}{Z:St}{H:Hp}{s:Shared}{R:It->Hp->Prop}{E:Value->Shared->Prop}{lo hi:Int}{t u v:Tok}{tk:Nat}(I:Inv X pins Z H s)(h1:-(2^62)<=lo)(h2:lo<2^62)(h3:-(2^62)<=hi)(h4:hi<2^62)
  (q:R (Itr lo (hi-lo).toNat) H):wpAny (model X.prog X.w) X.A (pyIter (.ref s.heap.objs.size)) (PIE X pins Z tg R) E {s with heap:=s.heap.push {cls:=.type "range",data:=.fields #[.int lo t,.int hi u,.int 1 v]},toks:=tk}:=by
 refine wpAny_pyIter_range (IsRange.new ..) (small_one h1 h2 h3 h4) ?_;have I1:Inv X pins Z H {s with heap:=s.heap.push {cls:=.type "range",data:=.fields #[.int lo t,.int hi u,.int 1 v]},toks:=tk}:=I.kept λb o e=>YAc _ e;refine⟨(s.heap.push {cls:=.type "range",data:=.fields #[.int lo t,.int hi u,.int 1 v]}).objs.size,[(s.heap.push {cls:=.type "range",data:=.fields #[.int lo t,.int hi u,.int 1 v]}).objs.size],_,_,H,rfl,
  I1.kept (t':=tk) λb o e=>YAc _ e,zhq _ lo (hi-lo).toNat,?_,λb hb=>?_,q⟩
 .have e1:lo+((0:Nat):Int)*1=lo:=by simp
  have e2:(((hi-lo).toNat:Nat):Int)-((0:Nat):Int)=Builtin.Range.rangeSize lo hi 1:=by rw[rangeSize_one];split<;>omega
  show IsRangeIter _ _ (lo+((0:Nat):Int)*1) ((((hi-lo).toNat:Nat):Int)-((0:Nat):Int)) 1;rw[e1,e2];exact YAn _ rfl
 .have e:b=(s.heap.push {cls:=.type "range",data:=.fields #[.int lo t,.int hi u,.int 1 v]}).objs.size:=by simpa using hb
  subst e;exact I1.fpOk (YAo _) (I1.hok.fresh (YAo _))
def zuC(ta:TA):TI:=λZ H R=>ta Z H λvs H1=>∃j:Int,vs=[.int j]/\-(2^62)<=j/\j<2^62/\R (Itr 0 j.toNat) H1
def zm7{a:Expr}{ta:TA}{p pos:Pos}(hg:Gl X "range")(hm:X.mg "range"=none)(ha:PA X [a] ta)(hs:starEach [a] X.env=[(false,eval a X.env)]:=by rfl):PI X tg (.Call (.Name "range" p) [a] [] pos) (zuC ta):=by
 intro pins s Z H R I h;refine Call_ (zhp I hg hm boot_range (YBs (thn (ha pos pins s Z H _ I h) λus s1 ⟨vs,H1,I1,r1,q1⟩=>?_) hs rfl));obtain⟨j,e,q1,q2,q⟩:=q1;subst e;cases r1 with
 |cons r rr=>
  cases rr;obtain⟨t,rfl⟩:=r;exact call_range_1 (zpQ I1 (by omega) (by omega) q1 q2 (by simpa using q))
noncomputable def tFor(wi:TI)(g:TG)(tb:TS):TS:=λD Z H=>wi Z H λJ H1=>∃W:Nat->Nat->St->Hp->Prop,(∃m,W 0 m Z H1)/\∀i m Z H,W i m Z H ->
 (J.stop i H/\D.nx Z H)\/(J.go i H/\∃N:St->Hp->Prop,(∀ Z' H',N Z' H'->∃m',m'<m/\W (i+1) m' Z' H')/\∀x H',J.yld i H x H'->g x Z H' λZ2 H2=>tb {D with nx:=N,ct:=N,bk:=D.nx} Z2 H2)
def zjv(fp:List Addr)(h:Heap):List (Addr×Obj):=fp.filterMap λb=>(h.get? b).map λo=>(b,o)
def zeq{fp:List Addr}{h:Heap}{b:Addr}{o:Obj}(hb:b∈fp)(e:h.get? b=some o):(b,o)∈zjv fp h:=YBk.mpr ⟨b,hb,by rw[e];rfl⟩
def znI(hp:p∈zjv fp h):p.1∈fp/\h.get? p.1=some p.2:=by
 obtain⟨b,hb,e⟩:=YBk.mp hp;cases q:h.get? b with
 |none=>rw[q]at e;cases e
 |some o=>
  rw[q]at e;have e':(b,o)=p:=Option.some.inj e;subst e';exact⟨hb,q⟩
def Inv.pinned{pins:List (Addr×Obj)}{Z:St}{H:Hp}{s:Shared}{fp:List Addr}(I:Inv X pins Z H s)(hf:∀b∈fp,FpOk X pins H b)(ho:∀b∈fp,∃o,s.heap.get? b=some o/\∀v,o.data≠.cell v):Inv X (pins++zjv fp s.heap) Z H s:=
 I.pins_of λp hp=>(YAG.mp hp).elim (λz=>I.pin p (YAE _ z)) λz=>by
  obtain⟨hb,e⟩:=znI z;obtain⟨f0,f1,f2,_⟩:=hf p.1 hb;obtain⟨o,e',d⟩:=ho p.1 hb;rw[e]at e';cases e';exact⟨e,f0,f1,f2,d⟩
def Inv.unpinned{pins pl:List (Addr×Obj)}{Z:St}{H:Hp}{s:Shared}(I:Inv X (pins++pl) Z H s):Inv X pins Z H s:=I.pins_of λp hp=>I.pin p (YAE _ (YBn _ hp))
def zqY{iter:Expr}{body:List Stmt}{wi:TI}{g:TG}{tb:TS}{pos:Pos}(hp:PassesOwn (model X.prog X.w) X.A X.env X.xe)(hc:X.calm=true)(hi:PI X tg iter wi)(hg:PG X tg g)(hb:PSs X body tb)
  (hs:∀x,foldedSetIterable iter X.env x=pure x:=by intro _;rfl):PS X (.For tg iter body [] pos) (tFor wi g tb):=by
 intro pins s Z H D I h;refine wpAny_For (thn (hi pins s Z H _ I h) λv s1 h1=>thn h1 λitv s2 h2=>?_) hs;obtain⟨it,fp,tn,J,H2,e,I2,T,st2,f2,W,⟨m0,w0⟩,turn⟩:=h2;subst e
 -- what stays true of the iterator's objects through the loop
 have stat:∀{H':Hp},(∀b∈fp,H' b=none)->∀b∈fp,FpOk X pins H' b:=λhn b hb=>⟨hn b hb,(f2 b hb).2⟩;refine codeAny_forLoop_any (λn s'=>∃i Z' H',Inv X pins Z' H' s'/\tn i s'.heap/\(∀b∈fp,H' b=none)/\W i n Z' H') ?_ m0 ⟨0,Z,H2,I2,st2,λb hb=>(f2 b hb).1,w0⟩;rintro n s3 ⟨i,Z3,H3,I3,st3,fr3,w3⟩;rcases turn i n Z3 H3 w3 with⟨stop,qn⟩|⟨go,N,hN,step⟩
 .refine YB1 hp (thn (T.done X rfl rfl rfl hc i pins s3 Z3 H3 X.xe I3 (stat fr3) st3 stop) λr s4 ⟨hr,I4⟩=>?_);subst hr;exact YBO ⟨Z3,H3,I4,qn⟩
 .refine YB1 hp (thn (T.item X rfl rfl rfl hc i pins s3 Z3 H3 X.xe I3 (stat fr3) st3 go) λr s4 ⟨u,hr,h4⟩=>?_);subst hr;refine YB1 hp (thn h4 λ_ s5 ⟨x,H5,I5,r5,y5,st5,fr5⟩=>?_);have I5':=I5.pinned (stat fr5) (T.obj _ _ st5);refine YB1 hp (thn (hg _ s5 Z3 H5 x u _ I5' r5 (step x H5 y5)) λ_ s6 ⟨Z6,H6,I6,q6⟩=>?_);refine YB1 hp (thn (hb _ s6 Z6 H6 _ I6 q6) λf s7 q7=>?_);have again:∀{Z7:St}{H7:Hp},Inv X (pins++zjv fp s5.heap) Z7 H7 s7->N Z7 H7->∃m,m<n/\∃i Z' H',Inv X pins Z' H' s7/\tn i s7.heap/\(∀b∈fp,H' b=none)/\W i m Z' H':=λ{Z7 H7} I7 n7=>by
   obtain⟨m',hm,w7⟩:=hN Z7 H7 n7;refine⟨m',hm,i+1,Z7,H7,I7.unpinned,T.keep _ _ _ st5 λb hb o e=>(I7.pin (b,o) (YAE _ (YAE _ (zeq hb e)))).1,λb hb=>?_,w7⟩;obtain⟨o,e,d⟩:=T.obj _ _ st5 b hb;exact(I7.pin (b,o) (YAE _ (YAE _ (zeq hb e)))).2.1
  cases f with
  |next=>obtain⟨Z7,H7,I7,n7⟩:=q7;exact again I7 n7
  |cont=>obtain⟨Z7,H7,I7,n7⟩:=q7;exact again I7 n7
  |brk=>obtain⟨Z7,H7,I7,q7⟩:=q7;exact⟨Z7,H7,I7.unpinned,q7⟩
  |ret v=>obtain⟨x7,Z7,H7,I7,r7,q7⟩:=q7;exact⟨x7,Z7,H7,I7.unpinned,r7,q7⟩
end
abbrev R2:=V->V->Hp->VK->Prop
def OpR(X:Cx)(f:Value->Value->Sem Value)(r:R2):Prop:=
 ∀(pins:List (Addr×Obj))(s:Shared)(Z:St)(H:Hp)(x y:V)(v u:Value)(Q:VK),Inv X pins Z H s->RelV x v->RelV y u->r x y H Q ->
  wpAny (model X.prog X.w) X.A (f v u) (EP X pins Z Q) X.xe s
def UnR(X:Cx)(f:Value->Sem Value)(r:V->Hp->VK->Prop):Prop:=
 ∀(pins:List (Addr×Obj))(s:Shared)(Z:St)(H:Hp)(x:V)(v:Value)(Q:VK),Inv X pins Z H s->RelV x v->r x H Q ->
  wpAny (model X.prog X.w) X.A (f v) (EP X pins Z Q) X.xe s
def CallR(X:Cx)(f:Value)(r:List V->Hp->VK->Prop):Prop:=
 ∀(pins:List (Addr×Obj))(s:Shared)(Z:St)(H:Hp)(xs:List V)(us:List Value)(Q:VK),Inv X pins Z H s->Vals xs us->r xs H Q ->
  wpAny (model X.prog X.w) X.A (call f us) (EP X pins Z Q) X.xe s
def TruR(X:Cx)(r:V->Hp->(Bool->Hp->Prop)->Prop):Prop:=
 ∀(pins:List (Addr×Obj))(s:Shared)(Z:St)(H:Hp)(x:V)(v:Value)(Q:Bool->Hp->Prop),Inv X pins Z H s->RelV x v->r x H Q ->
  wpAny (model X.prog X.w) X.A (truthy v) (TP X pins Z Q) X.xe s
def tOp(r:R2)(ta tb:TE):TE:=λZ H Q=>ta Z H λx H1=>tb Z H1 λy H2=>r x y H2 Q
def tUn(r:V->Hp->VK->Prop)(ta:TE):TE:=λZ H Q=>ta Z H λx H1=>r x H1 Q
def rI(C:Int->Int->Prop)(g:Int->Int->V):R2:=λx y H Q=>∃i j,x=.int i/\y=.int j/\C i j/\Q (g i j) H
def rI0(g:Int->Int->V):R2:=λx y H Q=>∃i j,x=.int i/\y=.int j/\Q (g i j) H
def rU(g:Int->V):V->Hp->VK->Prop:=λx H Q=>∃i,x=.int i/\Q (g i) H
section
variable{X:Cx}{a b c:Expr}{ta tb tc:TE}{pos:Pos}
def binT(ha:PE X a ta)(hb:PE X b tb){pins:List (Addr×Obj)}{s:Shared}{Z:St}{H:Hp}{R:V->V->Hp->Prop}(I:Inv X pins Z H s)
  (h:ta Z H λx H1=>tb Z H1 λy H2=>R x y H2) {Q:Value->Shared->Prop} {f:Value->Value->Sem Value}
  (hf:∀v u s2 x y H2,Inv X pins Z H2 s2->RelV x v->RelV y u->R x y H2->wpAny (model X.prog X.w) X.A (f v u) Q X.xe s2) :
  wpAny (model X.prog X.w) X.A (eval a X.env) (λv s₁=>wpAny (model X.prog X.w) X.A (eval b X.env) (λu s₂=>wpAny (model X.prog X.w) X.A (f v u) Q X.xe s₂) X.xe s₁) X.xe s:=by
 refine thn (ha pins s Z H _ I h) λv s1 ⟨x,H1,I1,r1,q1⟩=>?_;refine thn (hb pins s1 Z H1 _ I1 q1) λu s2 ⟨y,H2,I2,r2,q2⟩=>?_;exact hf v u s2 x y H2 I2 r1 r2 q2
def zdO{op:Operator}{r:R2}(ho:OpR X (binaryOp op) r)(ha:PE X a ta)(hb:PE X b tb):PE X (.BinOp a op b pos) (tOp r ta tb):=by
 intro pins s Z H Q I h;exact wpAny_BinOp (binT ha hb I h λv u s2 x y H2 I2 rx ry q=>ho pins s2 Z H2 x y v u Q I2 rx ry q)
def zv7{op:UnaryOp}{r:V->Hp->VK->Prop}(ho:UnR X (unaryOp op) r)(ha:PE X a ta):PE X (.UnaryOp op a pos) (tUn r ta):=by
 intro pins s Z H Q I h;exact UnaryOp_ (thn (ha pins s Z H _ I h) λv s1 ⟨x,H1,I1,r1,q1⟩=>ho pins s1 Z H1 x v Q I1 r1 q1)
def opI{f:Value->Value->Sem Value}{C:Int->Int->Prop}{g:Int->Int->Int}
  (rule:∀(i j:Int)(t u:Tok)(s:Shared)(Q:Value->Shared->Prop)(E:Value->Shared->Prop),C i j->Q (.int (g i j) s.toks) {s with toks:=s.toks+1}->wpAny (model X.prog X.w) X.A (f (.int i t) (.int j u)) Q E s) :
  OpR X f (rI C λi j=>.int (g i j)):=by
 intro pins s Z H x y v u Q I rx ry h;obtain⟨i,j,rfl,rfl,hc,q⟩:=h;obtain⟨t,rfl⟩:=rx;obtain⟨t',rfl⟩:=ry;exact rule i j t t' s _ _ hc ⟨.int (g i j),H,I.tok _,⟨_,rfl⟩,q⟩
def opI0{f:Value->Value->Sem Value}{g:Int->Int->Int}
  (rule:∀(i j:Int)(t u:Tok)(s:Shared)(Q:Value->Shared->Prop)(E:Value->Shared->Prop),Q (.int (g i j) s.toks) {s with toks:=s.toks+1}->wpAny (model X.prog X.w) X.A (f (.int i t) (.int j u)) Q E s) :
  OpR X f (rI0 λi j=>.int (g i j)):=by
 intro pins s Z H x y v u Q I rx ry h;obtain⟨i,j,rfl,rfl,q⟩:=h;obtain⟨t,rfl⟩:=rx;obtain⟨t',rfl⟩:=ry;exact rule i j t t' s _ _ ⟨.int (g i j),H,I.tok _,⟨_,rfl⟩,q⟩
def opB0{f:Value->Value->Sem Value}{g:Int->Int->Bool}
  (rule:∀(i j:Int)(t u:Tok)(s:Shared)(Q:Value->Shared->Prop)(E:Value->Shared->Prop),Q (.bool (g i j)) s->wpAny (model X.prog X.w) X.A (f (.int i t) (.int j u)) Q E s) :
  OpR X f (rI0 λi j=>.bl (g i j)):=by
 intro pins s Z H x y v u Q I rx ry h;obtain⟨i,j,rfl,rfl,q⟩:=h;obtain⟨t,rfl⟩:=rx;obtain⟨t',rfl⟩:=ry;exact rule i j t t' s _ _ ⟨.bl (g i j),H,I,rfl,q⟩
def CDiv(i j:Int):Prop:=0<j/\j<1073741824
def CPow(i j:Int):Prop:=0<=j/\j<=1000000/\i.natAbs<2^64
def CMul(i j:Int):Prop:=(-(2^64)<i/\i<2^64)\/(-(2^64)<j/\j<2^64)
def CMul.ok{i j:Int}(h:CMul i j):IntMulOk i j:=by
 rcases h with⟨h1,h2⟩|⟨h1,h2⟩
 .exact .of_left (intBits_le_64 h1 h2)
 .exact .of_right (intBits_le_64 h1 h2)
def op_add:OpR X (binaryOp .Add) (rI0 λi j=>.int (i+j)):=opI0 λ_ _ _ _ _ _ _ q=>add_int q
def zsQ:OpR X (binaryOp .Sub) (rI0 λi j=>.int (i-j)):=opI0 λ_ _ _ _ _ _ _ q=>sub_int q
def op_mul:OpR X (binaryOp .Mult) (rI CMul λi j=>.int (i*j)):=opI λ_ _ _ _ _ _ _ hc q=>mul_int q hc.ok
def zr9:OpR X (binaryOp .FloorDiv) (rI CDiv λi j=>.int (i / j)):=opI λi j _ _ _ _ _ hc q=>by
 have h1:(0:Int)<j:=hc.1;have h2:j<1073741824:=hc.2;exact floordiv_int (by omega) (by rw[Int.fdiv_eq_ediv_of_nonneg i (by omega)];exact q) (.inl (PyProof.noPylong_small (by omega)))
def zhf:OpR X (binaryOp .Mod) (rI (λ_ j=>0<j) λi j=>.int (i % j)):=opI λi j _ _ _ _ _ hc q=>by
 have h1:(0:Int)<j:=hc;exact mod_int' (by omega) (by rw[Int.fmod_eq_emod_of_nonneg i (by omega)];exact q)
def znL:OpR X (binaryOp .Pow) (rI CPow λi j=>.int (i^j.toNat)):=opI λ_ _ _ _ _ _ _ hc q=>pow_int_small hc.1 hc.2.1 hc.2.2 q
def unI{f:Value->Sem Value}{g:Int->Int}
  (rule:∀(i:Int)(t:Tok)(s:Shared)(Q:Value->Shared->Prop)(E:Value->Shared->Prop),Q (.int (g i) s.toks) {s with toks:=s.toks+1}->wpAny (model X.prog X.w) X.A (f (.int i t)) Q E s) :
  UnR X f (rU λi=>.int (g i)):=by
 intro pins s Z H x v Q I rx h;obtain⟨i,rfl,q⟩:=h;obtain⟨t,rfl⟩:=rx;exact rule i t s _ _ ⟨.int (g i),H,I.tok _,⟨_,rfl⟩,q⟩
def zsM:UnR X (unaryOp .USub) (rU λi=>.int (-i)):=unI λ_ _ _ _ _ q=>neg_int q
end
section
variable{X:Cx}{a b c:Expr}{ta tb tc:TE}{pos:Pos}
def zti(I:Inv X pins Z H s)(q:Q (.bl k) H)(e:k=k'):EP X pins Z Q (.bool k') s:=by
 subst e;exact⟨.bl k,H,I,rfl,q⟩
def zs2:OpR X (compareOp .Lt) (rI0 λi j=>.bl (decide (i<j))):=opB0 λ_ _ _ _ _ _ _ q=>lt_int q
def zpA:OpR X (compareOp .LtE) (rI0 λi j=>.bl (decide (i<=j))):=opB0 λ_ _ _ _ _ _ _ q=>le_int q
def zsO:OpR X (compareOp .Gt) (rI0 λi j=>.bl (decide (j<i))):=opB0 λ_ _ _ _ _ _ _ q=>gt_int q
def zth:OpR X (compareOp .GtE) (rI0 λi j=>.bl (decide (j<=i))):=opB0 λ_ _ _ _ _ _ _ q=>ge_int q
def zmR:OpR X (compareOp .In) (λx y H Q=>∃i j,x=.str i/\y=.str j/\Q (.bl (!(Builtin.Str.occurrences j i 0 j.length 1).isEmpty)) H):=by
 intro pins s Z H x y v u Q I rx ry h;obtain⟨i,j,rfl,rfl,q⟩:=h;obtain⟨t,rfl⟩:=rx;obtain⟨t',rfl⟩:=ry;exact in_str (zti I q rfl)
def OpR.or{f:Value->Value->Sem Value}{r r':R2}(h:OpR X f r)(h':OpR X f r'):OpR X f (λx y H Q=>r x y H Q\/r' x y H Q):=by
 intro pins s Z H x y v u Q I rx ry q;rcases q with q|q
 .exact h pins s Z H x y v u Q I rx ry q
 .exact h' pins s Z H x y v u Q I rx ry q
def zev(b:Expr)(h:op≠.In:=by decide)(h2:op≠.NotIn:=by decide):behindInMarks op b=false:=by
 have e1:(op==CmpOp.In)=false:=by cases op<;>first|rfl|exact absurd rfl h
 have e2:(op==CmpOp.NotIn)=false:=by cases op<;>first|rfl|exact absurd rfl h2
 cases b<;>simp[behindInMarks,e1,e2]
def zrg(ho:OpR X (compareOp op) r)(ha:PE X a ta)(hb:PE X b tb)(hm:behindInMarks op b=false):PE X (.Compare a [op] [b] pos) (tOp r ta tb):=by
 intro pins s Z H Q I h;exact wpAny_Compare1 (binT ha hb I h λv u s2 x y H2 I2 rx ry q=>ho pins s2 Z H2 x y v u Q I2 rx ry q) hm
def zst(t:TE):TT:=λZ H Q=>t Z H λx H'=>∃k,x=.bl k/\Q k H'
def ziC{op:CmpOp}{r:R2}(ho:OpR X (compareOp op) r)(ha:PE X a ta)(hb:PE X b tb)(hm:behindInMarks op b=false):PT X (.Compare a [op] [b] pos) (zst (tOp r ta tb)):=by
 intro pins s Z H Q I h;refine wpAny_isTrue_Compare1 (thn (ha pins s Z H _ I h) λv s1 ⟨x,H1,I1,r1,q1⟩=>thn (hb pins s1 Z H1 _ I1 q1) λu s2 ⟨y,H2,I2,r2,q2⟩=>
  thn (ho pins s2 Z H2 x y v u _ I2 r1 r2 q2) λc s3 ⟨z,H3,I3,r3,k,e,q3⟩=>?_) hm
 subst e;cases r3;exact YA3 ⟨H3,I3,q3⟩
def zn9(r r':R2)(ta tb tc:TE):TE:=λZ H Q=>ta Z H λx H1=>tb Z H1 λy H2=>r x y H2 λz H3=>∃k,z=.bl k /\
 (if k=true then tc Z H3 λw' H4=>r' y w' H4 Q else Q (.bl false) H3)
def zpe{op op':CmpOp}{r r':R2}(ho:OpR X (compareOp op) r)(ho':OpR X (compareOp op') r')(ha:PE X a ta)(hb:PE X b tb)(hc:PE X c tc)
  (hm:lastMarks [op,op'] [b,c]=false:=by with_unfolding_all rfl):PE X (.Compare a [op,op'] [b,c] pos) (zn9 r r' ta tb tc):=by
 intro pins s Z H Q I h;refine Compare_chain (thn (ha pins s Z H _ I h) λv s1 ⟨x,H1,I1,r1,q1⟩=>chain_link (thn (hb pins s1 Z H1 _ I1 q1) λu s2 ⟨y,H2,I2,r2,q2⟩=>
  thn (ho pins s2 Z H2 x y v u _ I2 r1 r2 q2) λd s3 ⟨z,H3,I3,r3,k,e,q3⟩=>?_)) hm
 subst e;cases r3;refine YA3 ?_;cases k with
 |false=>exact ite_ff ⟨.bl false,H3,I3,rfl,q3⟩
 |true=>exact ite_tt (chain_last (thn (hc pins s3 Z H3 _ I3 q3) λw' s4 ⟨z',H4,I4,r4,q4⟩=>ho' pins s4 Z H4 y z' u w' Q I4 r2 r4 q4))
def zpg{op op':CmpOp}{r r':R2}(ho:OpR X (compareOp op) r)(ho':OpR X (compareOp op') r')(ha:PE X a ta)(hb:PE X b tb)(hc:PE X c tc)
  (hm:lastMarks [op,op'] [b,c]=false:=by with_unfolding_all rfl):PT X (.Compare a [op,op'] [b,c] pos) (zst (zn9 r r' ta tb tc)):=by
 intro pins s Z H Q I h;refine isTrue_chain (thn (ha pins s Z H _ I h) λv s1 ⟨x,H1,I1,r1,q1⟩=>test_link (thn (hb pins s1 Z H1 _ I1 q1) λu s2 ⟨y,H2,I2,r2,q2⟩=>
  thn (ho pins s2 Z H2 x y v u _ I2 r1 r2 q2) λd s3 ⟨z,H3,I3,r3,k,e,q3⟩=>?_)) hm
 subst e;cases r3;refine YA3 ?_;cases k with
 |false=>
  obtain⟨k',e',q'⟩:=q3;cases e';exact ite_ff ⟨H3,I3,q'⟩
 |true=>
  refine ite_tt (test_last (thn (hc pins s3 Z H3 _ I3 q3) λw' s4 ⟨z',H4,I4,r4,q4⟩=>thn (ho' pins s4 Z H4 y z' u w' _ I4 r2 r4 q4) λd' s5 ⟨z2,H5,I5,r5,k2,e2,q5⟩=>?_));subst e2;cases r5;exact YA3 ⟨H5,I5,q5⟩
noncomputable def TruV(K:qk)(x:V)(H:Hp)(k:Bool):Prop:=
 match x with
 |.non=>k=false
 |.bl b=>k=b
 |.int i=>k=(i != 0)
 |.str y=>y.length<=sizeLine/\k=((y.length:Int) != 0)
 |.byt y=>y.size<=sizeLine/\k=((y.size:Int) != 0)
 |.ref p=>(∃xs,SqL K H p xs/\k = !xs.isEmpty)\/(∃xs,SqT K H p xs/\k = !xs.isEmpty)\/∃kvs,H p=some (.dK kvs)/\k = !kvs.isEmpty
 |_=>False
def zmv{κ:Type}{kvs:List (κ×V)}{vs:List (κ×Value)}(r:KV kvs vs):(!vs.isEmpty) = !kvs.isEmpty:=by
 cases r<;>rfl
def zhn{xs:List V}{its:List Value}(r:Vals xs its):(!its.toArray.isEmpty) = !xs.isEmpty:=by
 cases r<;>simp
def zfQ:(sizeLine:Nat)<2^63:=by rw[YAX];decide
def zq3:TruR X (λx H Q=>∃k,TruV X.K x H k/\Q k H):=by
 intro pins s Z H x v Q I rx h;obtain⟨k,e,q⟩:=h;have hl:=zfQ;have hs:sizeLine=16777216:=YAX;cases x with
 |non=>
  cases rx;have e':k=false:=e;subst e';exact truthy_none ⟨H,I,q⟩
 |bl b=>
  cases rx;have e':k=b:=e;subst e';exact YA3 ⟨H,I,q⟩
 |int i=>
  obtain⟨t,rfl⟩:=rx;have e':k=(i != 0):=e;subst e';exact PySem.P.truthy_int ⟨H,I,q⟩
 |str y=>
  obtain⟨t,rfl⟩:=rx;obtain⟨hy,e'⟩:y.length<=sizeLine/\k=((y.length:Int) != 0):=e;subst e';exact PySem.P.truthy_str (by omega) ⟨H,I.tok _,q⟩
 |byt y=>
  obtain⟨t,rfl⟩:=rx;obtain⟨hy,e'⟩:y.size<=sizeLine/\k=((y.size:Int) != 0):=e;subst e';exact PySem.W.truthy_bytes (by omega) ⟨H,I.tok _,q⟩
 |ref p=>
  cases rx;have e':(∃xs,SqL X.K H p xs/\k = !xs.isEmpty)\/(∃xs,SqT X.K H p xs/\k = !xs.isEmpty)\/∃kvs,H p=some (.dK kvs)/\k = !kvs.isEmpty:=e;rcases e' with⟨xs,hx,e'⟩|⟨xs,hx,e'⟩|⟨kvs,hx,e'⟩
  .subst e';obtain⟨its,r,pl,hz⟩:=I.list hx;have hlen:=r.length;exact wpAny_truthy_list pl.isList (by simp only[YAq];omega) ⟨H,I.tok _,by rw[zhn r];exact q⟩
  .subst e';obtain⟨its,r,pl,hz⟩:=I.tuple hx;have hlen:=r.length;exact truthy_tuple pl (by simp only[YAq];omega) ⟨H,I.tok _,by rw[zhn r];exact q⟩
  .subst e';obtain⟨hz,hS,vs,r,m⟩:kvs.length<=sizeLine/\(p==sysModules)=false/\∃vs,KV kvs vs/\s.heap.DictOf (za2 X.prog X.w) p vs:=I.hok p _ hx;have hlen:kvs.length=vs.length:=Paired.length r;exact wpAny_truthy_dict hS m (by omega) ⟨H,I.tok _,by rw[zmv r];exact q⟩
 |_=>exact(show False from e).elim
def zlm(ha:PE X a ta)(he:∀whole,isTrue a X.env whole=(do let v <-whole;standAt a.pos;holding [v] (truthy v))) :
  PT X a (λZ H Q=>ta Z H λx H'=>∃k,TruV X.K x H' k/\Q k H'):=by
 intro pins s Z H Q I h;exact isTrue_plain (thn (ha pins s Z H _ I h) λv s1 ⟨x,H1,I1,r1,q1⟩=>zq3 pins s1 Z H1 x v Q I1 r1 q1) (he _)
def zmL:OpR X (binaryOp .Add) (λx y H Q=>∃i j,x=.str i/\y=.str j/\i.length+j.length<=sizeLine/\Q (.str (i++j)) H):=by
 intro pins s Z H x y v u Q I rx ry h;obtain⟨i,j,rfl,rfl,hz,q⟩:=h;obtain⟨t,rfl⟩:=rx;obtain⟨t',rfl⟩:=ry;exact add_str (λt' tk=>⟨.str (i++j),H,I.tok _,⟨_,rfl⟩,q⟩) hz
def zeC(r:Vals [x] us):∃u,us=[u]/\RelV x u:=by
 cases r with
 |cons r1 r2=>cases r2;exact⟨_,rfl,r1⟩
def zsk(r:Vals [x,y] us):∃u w',us=[u,w']/\RelV x u/\RelV y w':=by
 cases r with
 |cons r1 r2=>
  cases r2 with
  |cons r3 r4=>cases r4;exact⟨_,_,rfl,r1,r3⟩
def call_int1:CallR X (.type "int") (λxs H Q=>(∃i,xs=[.int i]/\Q (.int i) H)\/∃k,xs=[.bl k]/\Q (.int (if k then 1 else 0)) H):=by
 intro pins s Z H xs us Q I r h;rcases h with⟨i,rfl,q⟩|⟨k,rfl,q⟩
 .obtain⟨u,rfl,t,rfl⟩:=zeC r;exact call_int_int ⟨.int i,H,I,⟨_,rfl⟩,q⟩
 .obtain⟨u,rfl,r1⟩:=zeC r;cases r1;exact call_int_bool ⟨.int (if k then 1 else 0),H,I.tok _,⟨_,rfl⟩,q⟩
end
structure ObjM(h:Heap)(x dx C:Addr)(mA:Str->Option Value):Prop where
 obj:h.get? x=some (PySem.W.instObj C dx)
 ns:h.Ns1 dx mA
 ne:dx≠x
def zn2{h:Heap}{dx:Addr}{mA:Str->Option Value}(n:h.Ns1 dx mA):∃od,h.get? dx=some od/\∀name,PySem.W.lookIn name od=some (mA name):=by
 obtain⟨o,es,ep,ho,hd,hk,_,hm⟩:=n;refine⟨o,ho,λname=>?_⟩;have e:=hm name;unfold nsFind findBy at e;rw[<-Array.find?_toList]at e;unfold PySem.W.lookIn;rw[hd];dsimp only;split
 .rename_i y q
  rw[q]at e;exact congrArg some e
 .rename_i q
  rw[q]at e;have a:es.toList.any (·.refKey)=false:=by
   rw[List.any_eq_false];intro y hy;obtain⟨z,t,hkey⟩:=hk y (Array.mem_toList_iff.mp hy);simp[DictEntry.refKey,hkey]
  have a':¬ es.toList.any (·.refKey)=true:=by rw[a];exact YBc
  rw[if_neg a'];exact congrArg some e
def ObjM.look(I:ObjM h x dx C mA):∃od,PySem.W.InstAt h x (PySem.W.instObj C dx) C (some od)/\∀name,PySem.W.lookIn name od=some (mA name):=
 let⟨od,ho,hl⟩:=zn2 I.ns
 ⟨od,⟨I.obj,rfl,rfl,ho⟩,hl⟩
section
variable{prog:Program}{w:World}{A:Around}{E:Value->Shared->Prop}{s:Shared}{K:qk}{x dx C f:Addr}{mA:Str->Option Value}{name:Str}{v:Value}
def zr1(X:K.In s.heap)(I:ObjM s.heap x dx C mA)(hg:PySem.W.plainGet K C name=true)(hh:PySem.W.hasDictIn K C=true)
  (ha:PySem.W.findIn K (.ref C) name=some none) (hv:mA name=some v) (hv':PySem.W.handedIn v=true) (h:Q v {s with toks:=s.toks+1}) :
  wpAny (model prog w) A (getAttr (.ref x) name expr) Q E s:=by
 obtain⟨od,J,hl⟩:=I.look;exact PySem.W.get_value X J (YCB hg).1 (PySem.W.findObj_own hh ha rfl (by rw[hl,hv])) hv' h
def zpR(X:K.In s.heap)(I:ObjM s.heap x dx C mA)(hg:PySem.W.plainGet K C name=true)
  (hf:PySem.W.findIn K (.ref C) name=some (some (.ref f))) (ht:PySem.W.isFn K (.ref f)=true) (hv:mA name=none) (h:Q (.ref f,[.ref x]) s) :
  wpAny (model prog w) A (getMethod (.ref x) name pl) Q E s:=by
 obtain⟨od,J,hl⟩:=I.look;exact PySem.W.method_fn X J (YCB hg).1 (YCB hg).2 hf (YCf.mp ht) (by show(PySem.W.lookIn name od).map (·.isSome)=some false;rw[hl,hv];rfl) h
def zsG(X:K.In s.heap)(I:ObjM s.heap x dx C mA)
  (hs:PySem.W.findIn K (.ref C) "__setattr__"=some (some (.builtin "object.__setattr__"))) (hp:PySem.W.plainOver K C=true) (ht:PySem.W.takerIn K C name=some none) (hh:PySem.W.hasDictIn K C=true)
  (hw:PySem.Within mA ns) (hsz:ns.length<=sizeLine)
  (h:∀h',ObjM h' x dx C (λy=>if y=name then some v else mA y)->Heap.SameBut dx s.heap h'->Q () {s with heap:=h',toks:=s.toks+2}) :
  wpAny (model prog w) A (setAttr (.ref x) name v) Q E s:=by
 obtain⟨od,J,hl⟩:=I.look;refine PySem.W.set_plain X J hs (PySem.W.osa_open (s:={s with toks:=s.toks+1}) (r:=none) X J hp ht λb=>?_);obtain⟨cd,hc,hd'⟩:=PySem.W.any_some hh;have hx:s.heap.get? x=some ⟨.ref C,some dx,.plain,#[]⟩:=I.obj;refine YAa (YAd (YAa (YAa (wpAny_loadPart hx (YAa (PySem.W.Looks.here (s:={s with toks:=s.toks+1}) (PySem.W.looks_clsIn X hc) ?_))))));rw[hd'];refine YAd (a:=some dx) (YAa (YAd (YAa ?_)));refine wpAny_nsSet1 (s:={s with toks:=s.toks+1}) I.ns λh' hn2 hs2=>?_;obtain⟨oD,esD,epD,hoD,hdD,hcD⟩:=hn2.count (PySem.Within.cons name v hw);refine YAa (wpAny_lookBehind hoD (by rw[hdD];exact pastItsLine_dict (YAx hcD (by rw[YAy];omega))) ?_);exact YAd (h _ ⟨(hs2.2 _ (YAK I.ne)).trans I.obj,hn2,I.ne⟩ hs2)
def zoZ(X:K.In s.heap)(hm:PySem.W.makesIn K C=true)
  (hi:PySem.W.findIn K (.ref C) "__init__"=some (some (.ref f))) (hf:PySem.W.typeIn K (.ref f)=some (.type "function"))
  (h:codeAny (model prog w) (A.under (.builtin "type.__call__" ⟨.ref C::vs,kw⟩)) (.call (.ref f) ⟨.ref (s.heap.objs.size+1)::vs,kw⟩) (PySem.W.InitBack (s.heap.objs.size+1) R)
   {s with heap:=(s.heap.push PySem.W.emptyDict).push (PySem.W.instObj C s.heap.objs.size)}) :
  codeAny (model prog w) A (.call (.ref C) ⟨vs,kw⟩) R s:=by
 obtain⟨hh,g,d,t,os⟩:=s;exact PySem.W.make_core (PySem.W.makes_of X hm) (PySem.W.looks_findIn X hi) (λself=>PySem.W.bind_fn X self hf) (.inl rfl) h
end
def putF(f:Str)(v:V):List (Str×V)->List (Str×V)
 |[]=>[(f,v)]
 | (g,x)::r=>if g=f then(g,v)::r else(g,x)::putF f v r
theorem zgz(f g:Str)(v:V):∀fs:List (Str×V),(putF f v fs).lookup g=if g=f then some v else fs.lookup g
 |[]=>by
  show List.lookup g [(f,v)]=_;by_cases h:g=f
  .have hb:(g==f)=true:=YCf.mpr h;simp only[List.lookup,hb,if_pos h]
  .have hb:(g==f)=false:=YAU.mpr h;simp only[List.lookup,hb,if_neg h]
 | (k,x)::r=>by
  have ih:=zgz f g v r;rw[show putF f v ((k,x)::r)=(if k=f then(k,v)::r else(k,x)::putF f v r)from rfl];by_cases hk:k=f
  .rw[if_pos hk];by_cases h:g=k
   .have hb:(g==k)=true:=YCf.mpr h;simp only[List.lookup,hb,if_pos (h.trans hk)]
   .have hb:(g==k)=false:=YAU.mpr h;simp only[List.lookup,hb,if_neg (λe:g=f=>h (e.trans hk.symm))]
  .rw[if_neg hk];by_cases h:g=k
   .have hb:(g==k)=true:=YCf.mpr h;simp only[List.lookup,hb,if_neg (λe:g=f=>hk (h.symm.trans e))]
   .have hb:(g==k)=false:=YAU.mpr h;simp only[List.lookup,hb];exact ih
theorem zgZ(f:Str)(v:V):∀fs:List (Str×V),f∈(putF f v fs).map (·.1)/\∀g,g∈fs.map (·.1)->g∈(putF f v fs).map (·.1)
 |[]=>⟨by simp[putF],λg h=>by simp at h⟩
 | (k,x)::r=>by
  obtain⟨i1,i2⟩:=zgZ f v r;rw[show putF f v ((k,x)::r)=(if k=f then(k,v)::r else(k,x)::putF f v r)from rfl];by_cases hk:k=f
  .rw[if_pos hk];subst hk;exact⟨by simp,λg h=>by simpa using h⟩
  .rw[if_neg hk];refine⟨?_,λg h=>?_⟩
   .rw[YAm];exact YAj _ i1
   .rw[YAm]at h ⊢;rcases YAv.mp h with e|e
    .exact YAv.mpr (.inl e)
    .exact YAj _ (i2 g e)
theorem zgl(f:Str)(v:V):∀fs:List (Str×V),(putF f v fs).length<=fs.length+1
 |[]=>by simp[putF]
 | (k,x)::r=>by
  have ih:=zgl f v r;rw[show putF f v ((k,x)::r)=(if k=f then(k,v)::r else(k,x)::putF f v r)from rfl];by_cases hk:k=f
  .rw[if_pos hk,YAy,YAy];omega
  .rw[if_neg hk,YAy,YAy];omega
def RelO.some_of(r:RelO (some v) o):∃u,o=some u/\RelV v u:=by
 cases o with
 |none=>exact(show False from r).elim
 |some u=>exact⟨u,rfl,r⟩
def RelO.none_of(r:RelO none o):o=none:=by
 cases o with
 |none=>rfl
 |some u=>exact(show False from r).elim
def zoR(r:RelV v u):PySem.W.handedIn u=true:=by
 cases v with
 |non=>cases (show u=Value.none from r);rfl
 |bl b=>cases (show u=Value.bool b from r);rfl
 |int i=>obtain⟨t,e⟩:=(show ∃t,u=Value.int i t from r);cases e;rfl
 |str x=>obtain⟨t,e⟩:=(show ∃t,u=Value.str x t from r);cases e;rfl
 |byt b=>obtain⟨t,e⟩:=(show ∃t,u=Value.bytes b t from r);cases e;rfl
 |flt b=>obtain⟨t,e⟩:=(show ∃t,u=Value.float b t from r);cases e;rfl
 |ref a=>cases (show u=Value.ref a from r);rfl
 |ty n=>cases (show u=Value.type n from r);rfl
section
variable{P:Program}{w:World}{H H':Hp}{h h':Heap}{a C dx:Addr}{fs fs':List (Str×V)}
def zkj(hok:HOk P w H h)(e:H a=some (.ins C dx fs)):∃mA,ObjM h a dx C mA/\(∀f,RelO (fs.lookup f) (mA f))/\PySem.Within mA (fs.map (·.1))/\fs.length<=1000/\H dx=some (.own a):=by
 obtain⟨d,z,ne,ob,mA,n,r,q⟩:=(show ObjOk P w H h a (.ins C dx fs)from hok a _ e);exact⟨mA,⟨ob,n,ne⟩,r,q,z,d⟩
end
structure Cls(K:qk)(C:Addr):Prop where
 pg:PySem.W.plainGet K C Str.empty=true
 hd:PySem.W.hasDictIn K C=true
 po:PySem.W.plainOver K C=true
 sa:PySem.W.findIn K (.ref C) "__setattr__"=some (some (.builtin "object.__setattr__"))
def Cls.get{K:qk}{C:Addr}(c:Cls K C)(f:Str):PySem.W.plainGet K C f=true:=c.pg
def NoAttr(K:qk)(C:Addr)(f:Str):Prop:=PySem.W.findIn K (.ref C) f=some none
def NoAttr.taker{K:qk}{C:Addr}{f:Str}(n:NoAttr K C f):PySem.W.takerIn K C f=some none:=by
 unfold PySem.W.takerIn;rw[show PySem.W.findIn K (.ref C) f=some none from n];rfl
structure Meth(K:qk)(C:Addr)(m:Str)(f:Addr):Prop where
 at_:PySem.W.findIn K (.ref C) m=some (some (.ref f))
 fn:PySem.W.isFn K (.ref f)=true
 kp:PySem.W.keepIn K (.ref f)=true
section
variable{X:Cx}{pins:List (Addr×Obj)}{Z:St}{H:Hp}{s:Shared}{a C dx:Addr}{fs:List (Str×V)}{f:Str}{v:V}{A:Around}{E:Value->Shared->Prop}
def zmr{b:Bool}{Q:Value->Shared->Prop}(I:Inv X pins Z H s)(e:H a=some (.ins C dx fs))(c:Cls X.K C)(n:NoAttr X.K C f)(l:fs.lookup f=some v)
  (h:∀u s',Inv X pins Z H s'->RelV v u->Q u s'):wpAny (model X.prog X.w) A (getAttr (.ref a) f b) Q E s:=by
 obtain⟨mA,O,r,_,_,_⟩:=zkj I.hok e;obtain⟨u,hu,ru⟩:=RelO.some_of (v:=v) (o:=mA f) (by rw[<-l];exact r f);exact zr1 I.kIn O (c.get f) c.hd n hu (zoR ru) (h u _ (I.tok _) ru)
def zfr{m:Str}{g:Addr}{pl:Sem Bool}{Q:Value×List Value->Shared->Prop}(I:Inv X pins Z H s)(e:H a=some (.ins C dx fs))(c:Cls X.K C)(k:Meth X.K C m g)(l:fs.lookup m=none)
  (h:Q (.ref g,[.ref a]) s):wpAny (model X.prog X.w) A (getMethod (.ref a) m pl) Q E s:=by
 obtain⟨mA,O,r,_,_,_⟩:=zkj I.hok e;have hn:mA m=none:=RelO.none_of (by rw[<-l];exact r m);exact zpR I.kIn O (c.get m) k.at_ k.fn hn h
def zmK{y:V}{u:Value}{Q:Unit->Shared->Prop}(I:Inv X pins Z H s)(e:H a=some (.ins C dx fs))(c:Cls X.K C)(n:NoAttr X.K C f)(hl:fs.length<1000)(ry:RelV y u)
  (h:∀s',Inv X pins Z (upd H a (.ins C dx (putF f y fs))) s'->Q () s'):wpAny (model X.prog X.w) A (setAttr (.ref a) f u) Q E s:=by
 obtain⟨mA,O,r,wi,_,ho⟩:=zkj I.hok e;have hz:(fs.map (·.1)).length<=sizeLine:=by rw[YAb,YAX];omega
 refine zsG I.kIn O c.sa c.po n.taker c.hd wi hz λh' O' sb=>h _ ?_;have hd:∃o,h'.get? dx=some o:=let⟨o,_,_,e',_⟩:=O'.ns;⟨o,e'⟩
 refine I.write (x:=a) (e:=dx) (by rw[e];exact True.intro) (.inr ho) (λb q hb z=>(sb.2 b hb).trans z) hd ?_;refine⟨by rw[upd_ne O.ne];exact ho,?_,O.ne,O'.obj,_,O'.ns,λg=>?_,λg hg=>?_⟩
 .have:=zgl f y fs;omega
 .show RelO ((putF f y fs).lookup g) (if g=f then some u else mA g);rw[zgz];by_cases q:g=f
  .rw[if_pos q,if_pos q];exact ry
  .rw[if_neg q,if_neg q];exact r g
 .by_cases q:g=f
  .rw[q];exact(zgZ f y fs).1
  .refine(zgZ f y fs).2 g (wi g λz=>hg ?_);show(if g=f then some u else mA g)=none;rw[if_neg q];exact z
def Inv.made(I:Inv X pins Z H s):Inv X pins Z (upd (upd H s.heap.objs.size (.own (s.heap.objs.size+1))) (s.heap.objs.size+1) (.ins C s.heap.objs.size []))
  {s with heap:=(s.heap.push PySem.W.emptyDict).push (PySem.W.instObj C s.heap.objs.size)}:=by
 have e1:(s.heap.push PySem.W.emptyDict).get? s.heap.objs.size=some PySem.W.emptyDict:=YAn s.heap rfl;have e2:((s.heap.push PySem.W.emptyDict).push (PySem.W.instObj C s.heap.objs.size)).get? (s.heap.objs.size+1)=some (PySem.W.instObj C s.heap.objs.size):=by
  have:=YAn (s.heap.push PySem.W.emptyDict) (o:=PySem.W.instObj C s.heap.objs.size) rfl
  rwa[YBq]at this
 have e3:(s.heap.push PySem.W.emptyDict).Ns s.heap.objs.size (λ_=>none):=⟨PySem.W.emptyDict,#[],_,e1,rfl,(λe he=>absurd he (by simp)),λ_=>rfl⟩;have I1:=I.laid (a:=s.heap.objs.size) (o:=.own (s.heap.objs.size+1)) (h':=s.heap.push PySem.W.emptyDict) (t':=s.toks) (λb u q=>YAc _ q) (YAo _) ⟨_,e1⟩;refine I1.laid (a:=s.heap.objs.size+1) (o:=.ins C s.heap.objs.size []) (t':=s.toks) (λb u q=>YAc _ q) (Nat.le_of_eq (YBq _ _)) ?_;have ne:s.heap.objs.size≠s.heap.objs.size+1:=YAs (YCr _);refine⟨by rw[upd_ne ne,zah],YBI _,ne,e2,λ_=>none,(Heap.Ns1.of_empty e3).at λo q=>YAc _ q,λ_=>True.intro,λy hy=>absurd rfl hy⟩
def zrN{prog:Program}{w:World}{env:Env}{e:Expr}{f:Str}{pos:Pos}{s:Shared}{Q:Value->Shared->Prop}(hb:attributeBase e f env (eval e env)=eval e env)
  (h:wpAny (model prog w) A (eval e env) (λo s₁=>wpAny (model prog w) A (getAttr o f true) Q E s₁) E s):wpAny (model prog w) A (eval (.Attribute e f pos) env) Q E s:=
 Attribute_any_ h (by rw[arm_eval_Attribute,hb])
end
def tFld(K:qk)(ta:TE)(f:Str):TE:=λZ H Q=>ta Z H λx H1=>∃a C dx fs v,x=.ref a/\H1 a=some (.ins C dx fs)/\Cls K C/\NoAttr K C f/\fs.lookup f=some v/\Q v H1
def sFld(K:qk)(ta tv:TE)(f:Str):TS:=λD Z H=>tv Z H λy H1=>ta Z H1 λx H2=>∃a C dx fs,x=.ref a/\H2 a=some (.ins C dx fs)/\Cls K C/\NoAttr K C f/\fs.length<1000 /\
 D.nx Z (upd H2 a (.ins C dx (putF f y fs)))
def InOp(X:Cx)(op:Operator)(rd:V->V->Hp->VK->Prop):Prop:=
 ∀(pins:List (Addr×Obj))(s:Shared)(Z:St)(H:Hp)(x y:V)(u v:Value)(Q:VK),Inv X pins Z H s->RelV x u->RelV y v->rd x y H Q->wpAny (model X.prog X.w) X.A (inplaceOp op u v) (EP X pins Z Q) X.xe s
section
variable{X:Cx}{o e value:Expr}{f:Str}{pos pos' tpos:Pos}{ta tv:TE}
def znd(he:PE X e ta)(hb:attributeBase e f X.env (eval e X.env)=eval e X.env):PE X (.Attribute e f pos) (tFld X.K ta f):=by
 intro pins s Z H Q I h;refine zrN hb (thn (he pins s Z H _ I h) λu s1 ⟨x,H1,I1,rx,a,C,dx,fs,v,ex,ea,c,n,l,q⟩=>?_);subst ex;obtain rfl:u=Value.ref a:=rx;exact zmr I1 ea c n l λu' s2 I2 ru=>⟨v,H1,I2,ru,q⟩
def zuw(ha:PE X o ta)(hv:PE X value tv)(hs:swapsWith value (some (.Attribute o f pos')) pos.line X.env=pure false):PS X (.Assign [.Attribute o f pos'] value pos) (sFld X.K ta tv f):=by
 intro pins s Z H D I h;refine plainObj_wpAny_Assign_Attribute (thn (hv pins s Z H _ I h) λu s1 ⟨y,H1,I1,ry,q⟩=>thn (ha pins s1 Z H1 _ I1 q) λov s2 ⟨x,H2,I2,rx,a,C,dx,fs,ex,ea,c,n,l,q2⟩=>?_) hs;subst ex;obtain rfl:ov=Value.ref a:=rx;exact zmK I2 ea c n l ry λs3 I3=>⟨Z,_,I3,q2⟩
def rAdd:V->V->Hp->VK->Prop:=λx y H Q=>∃i j,x=.int i/\y=.int j/\Q (.int (i+j)) H
def zs5:InOp X .Add rAdd:=by
 rintro pins s Z H x y u v Q I rx ry ⟨i,j,rfl,rfl,q⟩;obtain⟨t,rfl⟩:=(show ∃t,u=Value.int i t from rx);obtain⟨t',rfl⟩:=(show ∃t',v=Value.int j t' from ry);exact PyProof.Rows.iadd_int ⟨.int (i+j),H,I.tok _,⟨_,rfl⟩,q⟩
end
structure Room(k:Nat)(A:Around):Prop where
 hd:A.handled=none
 dp:A.depth+3*k+5<recursionLimit
 un:A.units+16*k+200<cLine
def Room.mono(r:Room k A)(h:j<=k):Room j A:=⟨r.hd,by have:=r.dp;omega,by have:=r.un;omega⟩
theorem Room.deeper{k:Nat}{A:Around}(r:Room (k+1) A)(env:Env):Room k (A.deeper env):=
 ⟨r.hd,by have:=r.dp;show A.depth+1+3*k+5<_;omega,by have:=r.un;show A.units+3+16*k+200<_;omega⟩
def zmD{A:Around}{C:Addr}{us:List Value}{kw:List (Str×Value)}:(A.under (.builtin "type.__call__" ⟨.ref C::us,kw⟩)).depth=A.depth+1:=by
 first|rfl|simp[Around.under,Code.weight,Code.isCreation,Code.isGuard,Code.isCaller,Code.frames,Code.isFrame,guardIds]
def zmn{A:Around}{C:Addr}{us:List Value}{kw:List (Str×Value)}:(A.under (.builtin "type.__call__" ⟨.ref C::us,kw⟩)).units=A.units+1:=by
 first|rfl|simp[Around.under,Code.cUnits,Code.frames,Code.isFrame]
def Room.make(r:Room (k+1) A)(C:Addr)(us:List Value)(kw:List (Str×Value)):Room k (A.under (.builtin "type.__call__" ⟨.ref C::us,kw⟩)):=
 ⟨r.hd,by have:=r.dp;rw[zmD];omega,by have:=r.un;rw[zmn];omega⟩
theorem Room.depth{k:Nat}{A:Around}(r:Room k A):A.depth<recursionLimit:=by have:=r.dp;omega
theorem Room.units(r:Room k A):A.units+64<cLine:=by have:=r.un;omega
def tNil:TA:=λ_ H Q=>Q [] H
def zvj(ta:TE)(tr:TA):TA:=λZ H Q=>ta Z H λx H1=>tr Z H1 λxs H2=>Q (x::xs) H2
section
variable{X:Cx}{e:Expr}{es:List Expr}{te:TE}{t:TA}{pos:Pos}
def zbf:PA X [] tNil:=λ_ _ _ _ H Q I h=>Calls.spliced_nil ⟨[],H,I,.nil,h⟩
def zaC(ha:PE X e te)(hr:PA X es t)(hs:starEach (e::es) X.env=(false,eval e X.env)::starEach es X.env:=by rfl):PA X (e::es) (zvj te t):=by
 intro pos pins s Z H Q I h;rw[hs];show wpAny _ _ (spliced ((false,eval e X.env)::backTo pos (starEach es X.env))) _ _ s;refine Calls.spliced_cons (thn (ha pins s Z H _ I h) λu s1 ⟨x,H1,I1,r1,q1⟩=>?_);exact thn (hr pos pins s1 Z H1 _ I1 q1) λus s2 ⟨xs,H2,I2,r2,q2⟩=>⟨x::xs,H2,I2,.cons r1 r2,q2⟩
def tTup(t:TA):TE:=λZ H Q=>t Z H λxs H1=>xs.length<=sizeLine/\∀p,H1 p=none->Q (.ref p) (upd H1 p (.tup xs))
def tLst(t:TA):TE:=λZ H Q=>t Z H λxs H1=>xs.length<=sizeLine/\∀p,H1 p=none->Q (.ref p) (upd H1 p (.lst xs))
def ztz{x1}(h:PA X es t):PE X (.Tuple es x1 pos) (tTup t):=by
 intro pins s Z H Q I hq;refine wpAny_Tuple_spliced (thn (h pos pins s Z H _ I hq) λus s1 ⟨xs,H1,I1,r,z,q⟩=>⟨by rw[<-r.length];exact z,?_⟩);have hf:H1 s1.heap.objs.size=none:=I1.hok.fresh (YAo _);refine⟨.ref s1.heap.objs.size,upd H1 s1.heap.objs.size (.tup xs),I1.laid (t':=s1.toks) (λb u e=>YAc _ e) (YAo _) ?_,rfl,q _ hf⟩;exact⟨z,us,r,⟨_,YAn _ rfl,rfl,_,rfl⟩⟩
def zqz(h:PA X es t):PE X (.List es pos) (tLst t):=by
 intro pins s Z H Q I hq;refine wpAny_List_spliced (thn (h pos pins s Z H _ I hq) λus s1 ⟨xs,H1,I1,r,z,q⟩=>⟨by rw[<-r.length];exact z,?_⟩);have hf:H1 s1.heap.objs.size=none:=I1.hok.fresh (YAo _);refine⟨.ref s1.heap.objs.size,upd H1 s1.heap.objs.size (.lst xs),I1.laid (t':=s1.toks) (λb u e=>YAc _ e) (YAo _) ?_,rfl,q _ hf⟩;exact⟨z,us,0,r,YAn _ rfl⟩
end
abbrev Sp:=List V->Hp->VK->XK->Prop
abbrev CXT:=List Env->Hp->Shared->XK->Value->Shared->Prop
structure Env0(P:Program)(w:World)(K:qk)(mg:Str->Option Value)(base:Heap)(A:Around)(outer:List Env)(s:Shared)(H:Hp):Prop where
 frames:A.frames=some outer
 mod:Mod K mg base
 bs:∀b o,base.get? b=some o->s.heap.get? b=some o/\H b=none
 bsz:base.objs.size<=s.heap.objs.size
 funs:s.heap.FunFrames base outer
 frf:∀b∈frs outer,H b=none
 hok:HOk P w H s.heap
 bare:AllBare s.gens
def CE(outer:List Env)(P:Program)(w:World)(H:Hp)(s:Shared)(Q:VK)(u:Value)(s':Shared):Prop:=
 ∃v H',s'.os=s.os/\AllBare s'.gens/\Un (frs outer) [] H H' s.heap s'.heap/\HOk P w H' s'.heap/\RelV v u/\Q v H'
def CR(CX:CXT)(outer:List Env)(P:Program)(w:World)(H:Hp)(s:Shared)(Q:VK)(E:XK)(r:Result)(s':Shared):Prop:=
 match r with
 |.ok (.ret u)=>CE outer P w H s Q u s'
 |.ok _=>False
 |.error e=>CX outer H s E e s'
structure FnOk(P:Program)(w:World)(K:qk)(mg:Str->Option Value)(base:Heap)(CX:CXT)(k:Nat)(f:Addr)(fd:FuncData)(ps:List Str)(sp:Sp):Prop where
 len:∀vs H Q E,sp vs H Q E->vs.length=ps.length
 run:∀(A:Around)(outer:List Env)(s:Shared)(H:Hp)(args:Args)(us:List Value)(vs:List V)(Q:VK)(E:XK),Room k A->Env0 P w K mg base A outer s H->BindsTo s fd args (ps.zip us)->Vals vs us->sp vs H Q E ->
  codeAny (model P w) A (.call (.ref f) args) (CR CX outer P w H s Q E) s
def FnOk.imp{P:Program}{w:World}{K:qk}{mg:Str->Option Value}{base:Heap}{CX:CXT}{k:Nat}{f:Addr}{fd:FuncData}{ps:List Str}{sp sp':Sp}(F:FnOk P w K mg base CX k f fd ps sp)
  (h:∀vs H Q E,sp' vs H Q E->sp vs H Q E):FnOk P w K mg base CX k f fd ps sp':=
 ⟨λvs H Q E q=>F.len vs H Q E (h _ _ _ _ q),λA outer s H args us vs Q E hr he hb hv hs=>F.run A outer s H args us vs Q E hr he hb hv (h _ _ _ _ hs)⟩
def Env0.make{P:Program}{w:World}{K:qk}{mg:Str->Option Value}{base:Heap}{A:Around}{outer:List Env}{s:Shared}{H:Hp}(e:Env0 P w K mg base A outer s H)(C:Addr)(us:List Value)(kw:List (Str×Value)) :
  Env0 P w K mg base (A.under (.builtin "type.__call__" ⟨.ref C::us,kw⟩)) outer s H:=⟨by first|exact e.frames|(simpa[Around.under,Code.envs,Code.isFrame,pushEnvs]using e.frames),e.mod,e.bs,e.bsz,e.funs,e.frf,e.hok,e.bare⟩
section
variable{X:Cx}{pins:List (Addr×Obj)}{Z:St}{H:Hp}{s s':Shared}
def Inv.env0(I:Inv X pins Z H s):Env0 X.prog X.w X.K X.mg X.base X.A X.stack s H:=
 ⟨I.ok.frames,I.ok.mod,I.bs,YAx I.ok.bsz I.sz,I.stack,I.stkFree,I.hok,I.bare⟩
def Inv.after(I:Inv X pins Z H s)(h:CE X.stack X.prog X.w H s Q u s'):EP X pins Z Q u s':=by
 obtain⟨v,H',os,bare,un,hok,r,q⟩:=h;obtain⟨hh,g,d,t,os'⟩:=s';obtain rfl:os'=s.os:=os;exact⟨v,H',I.call (h':=hh) (g':=g) (d':=d) (t':=t) (ch:=[]) un hok bare (λb z=>absurd z (by simp)),r,q⟩
end
def zuQ(sp:Sp)(dvs:List V)(E:XK)(t:TA):TE:=λZ H Q=>t Z H λvs H1=>sp (vs++dvs) H1 Q E
def zmb(C:Addr)(m:Str)(sp:Sp)(dvs:List V)(E:XK)(ta:TE)(t:TA):TE:=λZ H Q=>ta Z H λx H1=>∃a dx fs,x=.ref a/\H1 a=some (.ins C dx fs)/\fs.lookup m=none /\
 t Z H1 λvs H2=>sp (x::(vs++dvs)) H2 Q E
def zu4(C:Addr)(sp:Sp)(dvs:List V)(E:XK)(t:TA):TE:=λZ H Q=>t Z H λvs H1=>∀x dx,H1 x=none->H1 dx=none->dx≠x ->
 sp (.ref x::(vs++dvs)) (upd (upd H1 dx (.own x)) x (.ins C dx [])) (λv H2=>v=.non/\Q (.ref x) H2) E
def Binds(K:qk)(fd:FuncData)(ps:List Str)(ds:List Value):Prop:=
 ∀(s:Shared)(us:List Value),K.In s.heap->(us++ds).length=ps.length->BindsTo s fd ⟨us,[]⟩ (ps.zip (us++ds))
def Binds.all{K:qk}{fd:FuncData}{ps:List Str}(h:∀us:List Value,us.length=ps.length->bindArgs fd ⟨us,[]⟩=pure (ps.zip us)):Binds K fd ps []:=λs us _ hl=>by
 rw[YA1]at hl ⊢;exact .of_eq (h us hl)
def zbT(CX:CXT)(X:Cx)(E:XK):Prop:=∀(pins:List (Addr×Obj))(Z:St)(H:Hp)(s:Shared)(e:Value)(s':Shared),Inv X pins Z H s->CX X.stack H s E e s'->X.xe e s'
section
variable{X:Cx}{CX:CXT}{k:Nat}{f C:Addr}{fd:FuncData}{ps:List Str}{sp:Sp}{dvs:List V}{ds:List Value}{E:XK}{x m:Str}{p pos apos:Pos}{e o:Expr}{es:List Expr}{ta:TE}{t:TA}
def zjF{pins:List (Addr×Obj)}{Z:St}{H:Hp}{s:Shared}{Q:VK}{us:List Value}{vs:List V}(F:FnOk X.prog X.w X.K X.mg X.base CX k f fd ps sp)(hr:Room k X.A)(hb:Binds X.K fd ps ds)(hd:Vals dvs ds)(hx:zbT CX X E)
  (I:Inv X pins Z H s) (r:Vals vs us) (h:sp (vs++dvs) H Q E):wpAny (model X.prog X.w) X.A (call (.ref f) us) (EP X pins Z Q) X.xe s:=by
 have r2:Vals (vs++dvs) (us++ds):=r.append hd;have hl:(us++ds).length=ps.length:=by rw[<-r2.length];exact F.len _ _ _ _ h
 refine YCQ (YCl (F.run X.A X.stack s H ⟨us,[]⟩ (us++ds) (vs++dvs) Q E hr I.env0 (hb s us I.kIn hl) r2 h) λr s' hq=>?_);cases r with
 |error e=>exact hx pins Z H s e s' I hq
 |ok fl=>
  cases fl with
  |ret u=>exact I.after hq
  |next=>exact False.elim hq
  |brk=>exact False.elim hq
  |cont=>exact False.elim hq
def zdU(F:FnOk X.prog X.w X.K X.mg X.base CX k f fd ps sp)(hr:Room k X.A)(hg:Gl X x)(hm:X.mg x=some (.ref f))(hk:PySem.W.keepIn X.K (.ref f)=true)(hb:Binds X.K fd ps ds)(hd:Vals dvs ds)(hx:zbT CX X E)
  (ha:PA X (e::es) t) (hdb:(x==("__debug__":Str))=false:=by decide) (he:starEach (e::es) X.env=(false,eval e X.env)::starEach es X.env:=by rfl) (hpl:(backTo pos (starEach es X.env)).any (·.1)=false:=by rfl) :
  PE X (.Call (.Name x p) (e::es) [] pos) (zuQ sp dvs E t):=by
 intro pins s Z H Q I h;refine YA4 (zd3 I hg hm ?_ hdb);refine YBN (h₀:=X.base) I.ok.mod.kin hk (thn (ha pos pins s Z H _ I h) λus s1 ⟨vs,H1,I1,r,q⟩=>⟨I1.kIn,?_⟩) he hpl;exact zjF F hr hb hd hx I1 r q
def zp8(F:FnOk X.prog X.w X.K X.mg X.base CX k f fd ps sp)(hr:Room k X.A)(hg:Gl X x)(hm:X.mg x=some (.ref f))(hk:PySem.W.keepIn X.K (.ref f)=true)(hb:Binds X.K fd ps ds)(hd:Vals dvs ds)(hx:zbT CX X E)
  (hdb:(x==("__debug__":Str))=false:=by decide):PE X (.Call (.Name x p) [] [] pos) (zuQ sp dvs E tNil):=by
 intro pins s Z H Q I h;refine YA4 (zd3 I hg hm ?_ hdb);exact YCC I.kIn hk (zjF (us:=[]) F hr hb hd hx I .nil h)
def zrw(he:PE X o ta)(c:Cls X.K C)(hm:Meth X.K C m f)(F:FnOk X.prog X.w X.K X.mg X.base CX k f fd ps sp)(hr:Room k X.A)(hb:Binds X.K fd ps ds)(hd:Vals dvs ds)(hx:zbT CX X E)(ha:PA X (e::es) t)
  (hst:starEach (e::es) X.env=(false,eval e X.env)::starEach es X.env:=by rfl) (hpl:(backTo pos (starEach es X.env)).any (·.1)=false:=by rfl)
  (ht:eval (.Call (.Attribute o m apos) (e::es) [] pos) X.env=(do
   let ov <-eval o X.env
   standAt apos.atName
   let(f,first) <-holding [ov] (getMethod ov m pl)
   callWith pos f first (backTo pos (starEach (e::es) X.env)) (backToKw pos (keywordEach [] X.env))):=by rfl) :
  PE X (.Call (.Attribute o m apos) (e::es) [] pos) (zmb C m sp dvs E ta t):=by
 intro pins s Z H Q I h;refine YCm (pl:=pl) (thn (he pins s Z H _ I h) λu s1 ⟨x,H1,I1,rx,a,dx,fs,ex,ea,l,q⟩=>?_) ht;subst ex;obtain rfl:u=Value.ref a:=rx;refine zfr I1 ea c hm l ?_;refine YBN (first:=[.ref a]) (h₀:=X.base) I.ok.mod.kin hm.kp (thn (ha pos pins s1 Z H1 _ I1 q) λus s2 ⟨vs,H2,I2,r,q2⟩=>⟨I2.kIn,?_⟩) hst hpl;exact zjF (us:=.ref a::us) (vs:=.ref a::vs) F hr hb hd hx I2 (.cons rfl r) q2
def zqf(he:PE X o ta)(c:Cls X.K C)(hm:Meth X.K C m f)(F:FnOk X.prog X.w X.K X.mg X.base CX k f fd ps sp)(hr:Room k X.A)(hb:Binds X.K fd ps ds)(hd:Vals dvs ds)(hx:zbT CX X E)
  (ht:eval (.Call (.Attribute o m apos) [] [] pos) X.env=(do
   let ov <-eval o X.env
   standAt apos.atName
   let(f,first) <-holding [ov] (getMethod ov m pl)
   callWith pos f first (backTo pos (starEach [] X.env)) (backToKw pos (keywordEach [] X.env))):=by rfl) :
  PE X (.Call (.Attribute o m apos) [] [] pos) (zmb C m sp dvs E ta tNil):=by
 intro pins s Z H Q I h;refine YCm (pl:=pl) (thn (he pins s Z H _ I h) λu s1 ⟨x,H1,I1,rx,a,dx,fs,ex,ea,l,q⟩=>?_) ht;subst ex;obtain rfl:u=Value.ref a:=rx;refine zfr I1 ea c hm l ?_;exact YCC (first:=[.ref a]) I1.kIn hm.kp (zjF (us:=[.ref a]) (vs:=[.ref a]) F hr hb hd hx I1 (.cons rfl .nil) q)
structure Mk(K:qk)(C f:Addr):Prop where
 makes:PySem.W.makesIn K C=true
 init:PySem.W.findIn K (.ref C) "__init__"=some (some (.ref f))
 fn:PySem.W.isFn K (.ref f)=true
 kp:PySem.W.keepIn K (.ref C)=true
def zqk(M:Mk X.K C f)(F:FnOk X.prog X.w X.K X.mg X.base CX k f fd ps sp)(hr:Room (k+1) X.A)(hb:Binds X.K fd ps ds)(hd:Vals dvs ds)
  (hx:zbT CX X E) (I:Inv X pins Z H s) (r:Vals vs us)
  (h:∀x dx,H x=none->H dx=none->dx≠x->sp (.ref x::(vs++dvs)) (upd (upd H dx (.own x)) x (.ins C dx [])) (λv H2=>v=.non/\Q (.ref x) H2) E) :
  wpAny (model X.prog X.w) X.A (call (.ref C) us) (EP X pins Z Q) X.xe s:=by
 have hq:=h (s.heap.objs.size+1) s.heap.objs.size (I.hok.fresh (Nat.le_succ _)) (I.hok.fresh (YAo _)) (YAs (YCr _));have I2:=Inv.made (C:=C) I;have r2:Vals (V.ref (s.heap.objs.size+1)::(vs++dvs)) (Value.ref (s.heap.objs.size+1)::(us++ds)):=.cons rfl (r.append hd);have hl:(Value.ref (s.heap.objs.size+1)::us++ds).length=ps.length:=by
  have e:=r2.length;rw[F.len _ _ _ _ hq]at e;exact e.symm
 refine YCQ (zoZ (f:=f) I.kIn M.makes M.init (YCf.mp M.fn) (YCl (F.run _ X.stack _ _ ⟨Value.ref (s.heap.objs.size+1)::us,[]⟩ (Value.ref (s.heap.objs.size+1)::(us++ds)) _ _ E (hr.make C us [])
  (I2.env0.make C us []) (hb _ (Value.ref (s.heap.objs.size+1)::us) I2.kIn hl) r2 hq) λr s' hq'=>?_))
 cases r with
 |error e=>exact hx pins Z _ _ e s' I2 hq'
 |ok fl=>
  cases fl with
  |ret u=>
   obtain⟨v,H',I3,rv,ev,q3⟩:=I2.after hq';subst ev;exact⟨rv,⟨V.ref (s.heap.objs.size+1),H',I3,rfl,q3⟩⟩
  |next=>exact False.elim hq'
  |brk=>exact False.elim hq'
  |cont=>exact False.elim hq'
def zpB(M:Mk X.K C f)(F:FnOk X.prog X.w X.K X.mg X.base CX k f fd ps sp)(hr:Room (k+1) X.A)(hg:Gl X x)(hm:X.mg x=some (.ref C))(hb:Binds X.K fd ps ds)(hd:Vals dvs ds)(hx:zbT CX X E)
  (hdb:(x==("__debug__":Str))=false:=by decide):PE X (.Call (.Name x p) [] [] pos) (zu4 C sp dvs E tNil):=by
 intro pins s Z H Q I h;refine YA4 (zd3 I hg hm ?_ hdb);exact YCC I.kIn M.kp (zqk (us:=[]) M F hr hb hd hx I .nil h)
end
structure FnScope(N P:List Str)(sc:Scope):Prop where
 kind:sc.kind=.function
 co:sc.isCoroutine=false
 gen:sc.isGenerator=false
 nd:N.Nodup
 pre:N.take P.length=P
 par:∀x∈P,sc.names.lookup x=some .local\/sc.names.lookup x=some .cell
 nofree:∀y∈sc.names,y.2≠.free
theorem zi4{kindOf:Str->Option NameKind}{x:Str}:∀{binds:List (Str×Value)}{m:Str->Option Value},(∀v,(x,v)∉binds)->bindL kindOf binds m x=m x
 |[],_,_=>rfl
 | (n,v)::r,m,h=>by
  unfold bindL;rw[zi4 λw hw=>h w (YAj _ hw)];split
  .have:x≠n:=by rintro rfl;exact h v YAg
   simp[this]
  .rfl
theorem zjT{kindOf:Str->Option NameKind}{x:Str}:∀{binds:List (Str×Value)}{m:Str->Option Value},(∀v,(x,v)∉binds)->bindC kindOf binds m x=m x
 |[],_,_=>rfl
 | (n,v)::r,m,h=>by
  unfold bindC;rw[zjT λw hw=>h w (YAj _ hw)];split
  .rfl
  .have:x≠n:=by rintro rfl;exact h v YAg
   simp[this]
theorem ziZ{kindOf:Str->Option NameKind}{x:Str}{v:Value}:∀{P:List Str}{vs:List Value}{i:Nat}{m:Str->Option Value},P.Nodup->P[i]?=some x->vs[i]?=some v->kindOf x=some .local ->
  bindL kindOf (P.zip vs) m x=some v
 |[],_,_,_,_,h,_,_=>by simp at h
 |_::_,[],_,_,_,_,h,_=>by simp at h
 |p::P,w::vs,0,m,nd,h1,h2,hk=>by
  simp at h1 h2;subst h1;subst h2;show bindL kindOf ((p,w)::P.zip vs) m p=_;unfold bindL;rw[zi4 λv hv=>(YAP.mp nd).1 (YCD hv).1,if_pos hk]
  simp
 |p::P,w::vs,i+1,m,nd,h1,h2,hk=>by
  show bindL kindOf ((p,w)::P.zip vs) m x=_;unfold bindL;exact ziZ (i:=i) (YAP.mp nd).2 (by simpa using h1) (by simpa using h2) hk
theorem zjs{kindOf:Str->Option NameKind}{x:Str}{v:Value}:∀{P:List Str}{vs:List Value}{i:Nat}{m:Str->Option Value},P.Nodup->P[i]?=some x->vs[i]?=some v->kindOf x≠some .local ->
  bindC kindOf (P.zip vs) m x=some v
 |[],_,_,_,_,h,_,_=>by simp at h
 |_::_,[],_,_,_,_,h,_=>by simp at h
 |p::P,w::vs,0,m,nd,h1,h2,hk=>by
  simp at h1 h2;subst h1;subst h2;show bindC kindOf ((p,w)::P.zip vs) m p=_;unfold bindC;rw[zjT λv hv=>(YAP.mp nd).1 (YCD hv).1,if_neg hk]
  simp
 |p::P,w::vs,i+1,m,nd,h1,h2,hk=>by
  show bindC kindOf ((p,w)::P.zip vs) m x=_;unfold bindC;exact zjs (i:=i) (YAP.mp nd).2 (by simpa using h1) (by simpa using h2) hk
def zdq(N:List Str)(vs:List V):St:=vs.map some++List.replicate (N.length-vs.length) none
noncomputable def cxOf(CX:CXT)(P:Program)(w:World)(K:qk)(mg:Str->Option Value)(base:Heap)(N:List Str)(qual:Str)(scope:Scope)(f:Addr)(cd:Value)(A:Around)(outer:List Env)(s:Shared)(H:Hp)(E:XK):Cx where
 prog:=P
 w:=w
 K:=K
 mg:=mg
 base:=base
 A:=A.deeper (envOfC qual scope s.heap.objs.size f cd)
 N:=N
 s₀:=s
 H₀:=H
 env:=envOfC qual scope s.heap.objs.size f cd
 outer:=outer
 stack:=envOfC qual scope s.heap.objs.size f cd::outer
 ex:=[]
 calm:=true
 fn:=λ_=>true
 pn:=[]
 xe:=λe s'=>wpAny (model P w) (A.deeper (envOfC qual scope s.heap.objs.size f cd)) (leaving (envOfC qual scope s.heap.objs.size f cd) e) (λ_ s''=>CX outer H s E e s'') (λe' s''=>CX outer H s E e' s'') s'
def zlQ{sc:Scope}{n:Nat}{x:Str}(h:sc.names.lookup x=some .cell):∃c,(cellsFrom n sc.names []).lookup x=some c:=by
 have q:=YB9 sc.names n [] (.inl h);exact YBY.mp q
def zjZ{CX:CXT}{P:Program}{w:World}{K:qk}{mg:Str->Option Value}{base:Heap}{N ps:List Str}{qual:Str}{scope:Scope}{f:Addr}{cd:Value}{A:Around}{outer:List Env}{s s1:Shared}{H:Hp}{E:XK}{us:List Value}{vs:List V}
  (qj:FnScope N ps scope) (hd:A.handled=none) (e0:Env0 P w K mg base A outer s H) (hl:vs.length=ps.length) (r:Vals vs us)
  (x:InCallC s s.heap.objs.size (bindL (envOfC qual scope s.heap.objs.size f cd).kindOf (ps.zip us) λ_=>none) (cellsFrom (s.heap.objs.size+1) scope.names []) (bindC (envOfC qual scope s.heap.objs.size f cd).kindOf (ps.zip us) λ_=>none) s1) :
  Inv (cxOf CX P w K mg base N qual scope f cd A outer s H E) [] (zdq N vs) H s1:=by
 have hpl:ps.length<=N.length:=by have:=congrArg List.length qj.pre;rw[YBM]at this;omega
 obtain⟨h1,tk,rfl,hk⟩:=x.done;have noA:∀b:Addr,b∉(cxOf CX P w K mg base N qual scope f cd A outer s H E).ex:=λb z=>absurd (show b∈([]:List Addr)from z) (by simp);refine⟨⟨e0.mod,qj.kind,rfl,rfl,YAo _,λy z c h1 h2=>?_,λy hy=>?_,λy c _ h=>?_,λ_=>hd,Around.frames_deeper e0.frames,.inr ⟨rfl,rfl⟩,λb z=>absurd z (noA b),e0.bs,e0.bsz,λb _ _=>noA b,λb z=>absurd z (noA b),e0.funs,e0.frf⟩,
  rfl,e0.bare,Un.kept hk,⟨_,x.toInCall.ns,λi y v h1 h2 h3=>?_⟩,λy c h=>⟨_,x.cell y c h⟩,e0.hok.fresh (YAo _),λy c h=>?_,λp hp=>absurd (show p∈([]:List (Addr×Obj))from hp) (by simp),e0.hok.kept hk,?_⟩
 .exact name_of_addr x.apart (YA7 h1) (YA7 h2)
 .have hy:scope.names.lookup y=some .cell\/scope.names.lookup y=some .free:=hy;rcases hy with hy|hy
  .exact zlQ hy
  .exact absurd rfl (qj.nofree _ (YA7 hy))
 .exact Nat.le_of_lt (x.above y c (YA7 h))
 .have hi:i<vs.length:=by
   unfold zdq at h2;by_cases hi:i<vs.length
   .exact hi
   .rw[YBu (by simpa using hi)]at h2;rw[YBp]at h2;split at h2<;>cases h2
  have ha:vs[i]?=some v:=by
   unfold zdq at h2;rw[YA6 (by simpa using hi),YAu]at h2;cases e:vs[i]? with
   |none=>rw[e]at h2;cases h2
   |some a=>rw[e]at h2;cases h2;rfl
  obtain⟨u,hu,rv⟩:=r.get ha;have hp:ps[i]?=some y:=by
   rw[<-qj.pre,List.getElem?_take_of_lt (by omega)];exact h1
  have ndP:ps.Nodup:=by rw[<-qj.pre];exact qj.nd.sublist (List.take_sublist _ _)
  refine⟨u,rv,?_⟩;rcases qj.par y (YCu hp)with k|k
  .exact .inl ⟨k,ziZ ndP hp hu k⟩
  .obtain⟨c,e⟩:=zlQ (n:=s.heap.objs.size+1) k;refine .inr ⟨.inl k,c,e,?_⟩;have q:=x.cell y c e;rw[zjs ndP hp hu (by show scope.names.lookup y≠_;rw[k];decide)]at q;exact q
 .exact e0.hok.fresh (Nat.le_of_lt (x.above y c (YA7 h)))
 .unfold zdq;show _=N.length;rw[YAk,YAb,List.length_replicate];omega
def zq9{CX:CXT}{P:Program}{w:World}{K:qk}{mg:Str->Option Value}{base:Heap}{k:Nat}{f:Addr}{name qual:Str}{params:Arguments}{body:List Stmt}{scope:Scope}{dV kV doc pm cdv ct oc:Value}{an od:Option Addr}
  {osl:Array (Option Value)} {N ps:List Str} {sp:Sp} (lk:K.lookup f=some ⟨oc,od,.func (PySem.W.fnOf name qual params body scope dV kV doc pm an cdv ct),osl⟩) (hcd:PySem.W.codeIn K cdv qual=true) (qj:FnScope N ps scope)
  (len:∀vs H Q E,sp vs H Q E->vs.length=ps.length)
  (hbody:∀(A:Around)(outer:List Env)(s:Shared)(H:Hp)(vs:List V)(Q:VK)(E:XK),Room k (A.deeper (envOfC qual scope s.heap.objs.size f cdv))->sp vs H Q E ->
   ∃t,PSs (cxOf CX P w K mg base N qual scope f cdv A outer s H E) body t/\t {nx:=λ_ H'=>Q .non H',rt:=Q} (zdq N vs) H) :
  FnOk P w K mg base CX (k+1) f (PySem.W.fnOf name qual params body scope dV kV doc pm an cdv ct) ps sp:=by
 refine⟨len,λA outer s H args us vs Q E hr e0 hb r hsp=>?_⟩;have hl:=len _ _ _ _ hsp;have KX:K.In s.heap:=e0.mod.kin.keeps λb o e=>(e0.bs b o e).1;have lim:s.heap.NoLimit:=e0.mod.nolimit.keeps λb o e=>(e0.bs b o e).1;have hkind:∀y∈ps.zip us,scope.names.lookup y.1=some .local\/(scope.names.lookup y.1=some .cell/\((cellsFrom (s.heap.objs.size+1) scope.names []).lookup y.1).isSome=true):=λ⟨n,v⟩ hy=>by
  rcases qj.par n (YCD hy).1 with q|q
  .exact .inl q
  .exact .inr ⟨q,YB9 _ _ _ (.inl q)⟩
 refine codeAny_call_function hr.depth (KX _ _ lk) rfl qj.co qj.gen rfl (PySem.W.codeRec_of KX hcd) (hb _ _ _ _ ?_);refine wpAny_newFunctionEnv_cells qj.kind hkind λenv he s1 x=>?_;subst he;refine⟨lim.keeps x.toInCall.keep,codeAny_func ?_⟩;obtain⟨t,ht,hq⟩:=hbody A outer s H vs Q E (hr.deeper _) hsp;have I:Inv (cxOf CX P w K mg base N qual scope f cdv A outer s H E) [] (zdq N vs) H s1:=zjZ qj hr.hd e0 hl r x;refine YAT (ht [] s1 (zdq N vs) H _ I hq) (λfl s' hs=>?_) λe s' hs=>hs;have fin:∀{Z':St}{H':Hp}{v:V}{u:Value},Inv (cxOf CX P w K mg base N qual scope f cdv A outer s H E) [] Z' H' s'->RelV v u->Q v H'->CE outer P w H s Q u s':=
  λ{Z' H' v u} J rv q=>⟨v,H',J.os,J.bare,J.base,J.hok,rv,q⟩
 cases fl with
 |ret u=>
  obtain⟨v,Z',H',J,rv,q⟩:=hs;exact fin J rv q
 |next=>
  obtain⟨Z',H',J,q⟩:=hs;exact fin (v:=V.non) (u:=Value.none) J rfl q
 |brk=>
  obtain⟨_,_,_,q⟩:=hs;exact False.elim q
 |cont=>
  obtain⟨_,_,_,q⟩:=hs;exact False.elim q
section
variable{X:Cx}{x:Str}{p pos:Pos}{e:Expr}{es:List Expr}{t:TA}{id T:String}{r:List V->Hp->VK->Prop}
def tCB(r:List V->Hp->VK->Prop)(t:TA):TE:=λZ H Q=>t Z H λvs H1=>r vs H1 Q
def zeX(hc:CallR X (.builtin id) r)(hg:Gl X x)(hm:X.mg x=none)(hv:bootBuiltins x=some (.builtin id))(ha:PA X (e::es) t)(hn:x≠"__name__":=by decide)(hdb:(x==("__debug__":Str))=false:=by decide)
  (he:starEach (e::es) X.env=(false,eval e X.env)::starEach es X.env:=by rfl) (hpl:(backTo pos (starEach es X.env)).any (·.1)=false:=by rfl):PE X (.Call (.Name x p) (e::es) [] pos) (tCB r t):=by
 intro pins s Z H Q I h;refine YA4 (zhp I hg hm hv ?_ hn hdb);exact PyProof.Rows.callWith_builtin1 (thn (ha pos pins s Z H _ I h) λus s1 ⟨vs,H1,I1,r1,q1⟩=>hc pins s1 Z H1 vs us Q I1 r1 q1) he hpl
def zck(hc:CallR X (.type T) r)(hg:Gl X x)(hm:X.mg x=none)(hv:bootBuiltins x=some (.type T))(ha:PA X (e::es) t)(hn:x≠"__name__":=by decide)(hdb:(x==("__debug__":Str))=false:=by decide)
  (he:starEach (e::es) X.env=(false,eval e X.env)::starEach es X.env:=by rfl) (hpl:(backTo pos (starEach es X.env)).any (·.1)=false:=by rfl):PE X (.Call (.Name x p) (e::es) [] pos) (tCB r t):=by
 intro pins s Z H Q I h;refine YA4 (zhp I hg hm hv ?_ hn hdb);exact YBs (thn (ha pos pins s Z H _ I h) λus s1 ⟨vs,H1,I1,r1,q1⟩=>hc pins s1 Z H1 vs us Q I1 r1 q1) he hpl
end
end L2
namespace HT
open PySem PyProof.Rows
section
variable{prog:Program}{w:World}{A:Around}{E:Value->Shared->Prop}{s:Shared}
def cat_tup(ht:IsTup s.heap t vs.toArray)(hb:IsTup s.heap b ws.toArray)(hv:vs≠[])
  (h1:ws=[]->Q (.ref t) s) (h2:ws≠[]->Q (.ref s.heap.objs.size) {s with heap:=s.heap.push {cls:=.type "tuple",data:=.seq (vs++ws).toArray}})
  (hsz:vs.length+ws.length<=sizeLine):wpAny (model prog w) A (binaryOp .Add (.ref t) (.ref b)) Q E s:=by
 obtain⟨⟨cls,dd,data,sl⟩,ho,hc,n,hd⟩:=id ht;obtain⟨⟨cls2,dd2,data2,sl2⟩,ho2,hc2,n2,hd2⟩:=id hb;simp only at hc hd hc2 hd2;subst hc hd hc2 hd2;have e:vs.toArray++ws.toArray=(vs++ws).toArray:=by simp
 by_cases hw:ws=[]
 .exact concat_meets ⟨_,ho,rfl⟩ ⟨_,ho2,rfl⟩ YCZ seq_tuple_add YCa YB2 (YBZ _ _)
   (tuple_addW1 t b vs.toArray ws.toArray n n2 dd dd2 sl sl2 (by simpa using hv) (by simp[hw])) ⟨ho,ho2,h1 hw⟩
 .refine concat_meets ⟨_,ho,rfl⟩ ⟨_,ho2,rfl⟩ YCZ seq_tuple_add YCa YB2 (YBZ _ _)
   (tuple_addW2 t b vs.toArray ws.toArray n n2 dd dd2 sl sl2 (by simpa using hv) (by simpa using hw) (by rw[YAq,YAq];exact hsz)) ⟨ho,ho2,?_⟩
  rw[e];exact h2 hw
def sIx(n d:Nat):Option Int->Nat
 |none=>d
 |some v=>if v<0 then(v+(n:Int)).toNat else min v.toNat n
def sIx_none(n d:Nat):sIx n d none=d:=rfl
def sIx_nat(n d k:Nat):sIx n d (some (k:Int))=min k n:=by
 show(if (k:Int)<0 then((k:Int)+(n:Int)).toNat else min (k:Int).toNat n)=min k n;rw[if_neg (by omega),YBG]
def zk8(n d:Nat)(hd:d<=n)(o:Option Int):sIx n d o<=n:=by
 cases o with
 |none=>exact hd
 |some v=>
  show(if v<0 then(v+(n:Int)).toNat else min v.toNat n)<=n;by_cases hv:v<0
  .rw[if_pos hv];omega
  .rw[if_neg hv];exact YCs _ _
def znN(v:Int)(n d:Nat):(if v<0 then max (v+(n:Int)) 0 else min v (n:Int))=((sIx n d (some v):Nat):Int):=by
 show(if v<0 then max (v+(n:Int)) 0 else min v (n:Int))=(((if v<0 then(v+(n:Int)).toNat else min v.toNat n):Nat):Int);by_cases hv:v<0
 .simp only[if_pos hv];omega
 .simp only[if_neg hv];omega
def zmx(lo hi:Option Int)(n:Nat):Builtin.Slice.sliceAdjust lo hi 1 (n:Int)=(((sIx n 0 lo:Nat):Int),((sIx n n hi:Nat):Int)):=by
 have h1:¬ ((1:Int)<0):=by omega
 unfold Builtin.Slice.sliceAdjust;simp only[h1,YCk];refine Prod.ext ?_ ?_
 .cases lo with
  |none=>rfl
  |some v=>exact znN v n 0
 .cases hi with
  |none=>rfl
  |some v=>exact znN v n n
def zmd(i j:Nat):Builtin.Slice.slicePlaces (i:Int) (j:Int) 1=j-i:=by
 unfold Builtin.Slice.slicePlaces;have h1:(1:Int)>0:=by omega
 simp only[h1,YCL,Int.ediv_one];split<;>omega
def zhm{v:Value}{o:Option Int}{Q:Option Int->Shared->Prop}(p:IsPart v o)(h:Q o s):wpAny (model prog w) A (Builtin.Slice.slicePartIndex v) Q E s:=by
 cases p with
 |none=>exact slicePart_none h
 |int i t=>exact slicePart_int h
def zdE{sl:Addr}{vl vu:Value}{lo hi:Option Int}{n:Nat}{Q:Int×Int×Nat->Shared->Prop}(hs:s.heap.IsSliceOf sl vl vu .none)(pl:IsPart vl lo)(pu:IsPart vu hi)
  (h:Q (((sIx n 0 lo:Nat):Int),1,sIx n n hi-sIx n 0 lo) s):wpAny (model prog w) A (Builtin.Slice.sliceApplied (.ref sl) (pure (n:Int))) Q E s:=by
 obtain⟨os,hos,hcs,hds⟩:=id hs;unfold Builtin.Slice.sliceApplied Builtin.Slice.sliceFields;refine YAa (YAa (YAF hos hds (x:=vl) rfl (YAa (YAF hos hds (x:=vu) rfl (YAa (YAF hos hds (x:=.none) rfl (YAd ?_)))))));refine YAa (slicePart_none ?_);show wpAny _ _ (if ((1:Int)==0)=true then _ else _) _ _ s;rw[if_neg (by decide)];refine YAa (zhm pl (YAa (zhm pu (YAa (YAd ?_)))));show wpAny _ _ (match Builtin.Slice.sliceAdjust lo hi 1 (n:Int)with|(lo,hi)=>pure (lo,(1:Int),Builtin.Slice.slicePlaces lo hi 1)) _ _ s;rw[zmx lo hi n];show wpAny _ _ (pure (((sIx n 0 lo:Nat):Int),(1:Int),Builtin.Slice.slicePlaces ((sIx n 0 lo:Nat):Int) ((sIx n n hi:Nat):Int) 1)) _ _ s;rw[zmd];exact YAd h
def zph(xs:Array Value)(i k:Nat):((List.range k).filterMap λ(m:Nat)=>xs[((i:Int)+(m:Int)*1).toNat]?).toArray=((xs.toList.drop i).take k).toArray:=by
 have e:(λ(m:Nat)=>xs[((i:Int)+(m:Int)*1).toNat]?)=λm=>xs[i+m]?:=by
  funext m
  have:((i:Int)+(m:Int)*1).toNat=i+m:=by omega
  rw[this]
 rw[e]
 have:=pick_run xs i k
 rw[List.filterMap_map]at this;have e2:((λx=>xs[x]?)∘λx=>i+x)=λm=>xs[i+m]?:=rfl;rw[e2]at this;rw[this]
def getItem_tuple_cut{t sl:Addr}{items:Array Value}{vl vu:Value}{lo hi:Option Int}{Q:Value->Shared->Prop}(ht:IsTup s.heap t items)(hs:s.heap.IsSliceOf sl vl vu .none)(pl:IsPart vl lo)(pu:IsPart vu hi)
  (hw:¬ (sIx items.size 0 lo=0/\sIx items.size items.size hi=items.size))
  (h:Q (.ref s.heap.objs.size) {s with heap:=s.heap.push {cls:=.type "tuple",data:=.seq ((items.toList.drop (sIx items.size 0 lo)).take (sIx items.size items.size hi-sIx items.size 0 lo)).toArray}})
  (hsz:items.size<=sizeLine):wpAny (model prog w) A (getItem (.ref t) (.ref sl)) Q E s:=by
 have htake:sizeOk (.seq ((items.toList.drop (sIx items.size 0 lo)).take (sIx items.size items.size hi-sIx items.size 0 lo)).toArray):=by
  show((items.toList.drop (sIx items.size 0 lo)).take (sIx items.size items.size hi-sIx items.size 0 lo)).toArray.size<=sizeLine;rw[YAq,YBM,YCt,YBe];omega
 have hj:sIx items.size items.size hi<=items.size:=zk8 _ _ (YAo _) hi;obtain⟨os,hos,hcs,hds⟩:=id hs;have hTs:s.TypeIs (.ref sl) "slice":=⟨os,hos,hcs⟩;unfold getItem
 try with_reducible refine YAW ?_
 first|refine YAa (YAd ?_)|skip
 refine YAa (wpAny_sequenceKey ht.typeIs (by decide) ?_);refine YAa (YAH (name:=Str.ofString "__getitem__") ht.typeIs YAQ
  (YA2 YAQ ht.typeIs entry_tuple_getitem ?_ (args_tuple_getitem _ _)))
 show wpAny _ _ (Builtin.Tuple.tupleItemsOf (.ref t) >>= _) _ _ s;refine YAa (tupleItemsOf_ ht ?_);refine YAa (YCI hTs ?_);rw[if_pos (by decide)];refine YAa (zdE hs pl pu ?_);have hno:¬ ((((sIx items.size 0 lo:Nat):Int)==0&&(1:Int)==1&&(sIx items.size items.size hi-sIx items.size 0 lo)==items.size)=true):=by
  intro q;rw[YAA,YAA]at q;have q1:((sIx items.size 0 lo:Nat):Int)=0:=eq_of_beq q.1.1;have q2:sIx items.size items.size hi-sIx items.size 0 lo=items.size:=eq_of_beq q.2;exact hw ⟨by omega,by omega⟩
 show wpAny _ _ (if (((sIx items.size 0 lo:Nat):Int)==0&&(1:Int)==1&&(sIx items.size items.size hi-sIx items.size 0 lo)==items.size)=true then _ else _) _ _ s;rw[if_neg hno,zph];first
  |exact YAa (m:=Builtin.Tuple.tupleExact _) (YAI (YAd ⟨_,rfl,YAd h⟩) htake)
  |exact YAa (m:=Builtin.Tuple.tupleExact _) (YAI (YAa (YAd (YAd ⟨_,rfl,YAd h⟩))) htake)
  |exact YAa (YAa (m:=Builtin.Tuple.tupleExact _) (YAI (YAd (YAd ⟨_,rfl,YAd h⟩)) htake))
  |exact YAa (YAa (m:=Builtin.Tuple.tupleExact _) (YAI (YAd ⟨_,rfl,YAd h⟩) htake))
end
end HT
namespace L2
open PySem PySem.Spec PyProof.Rows
abbrev TO:=St->Hp->(Option Int->Hp->Prop)->Prop
def PO(X:Cx)(e:Option Expr)(t:TO):Prop:=
 ∀(pins:List (Addr×Obj))(s:Shared)(Z:St)(H:Hp)(Q:Option Int->Hp->Prop),Inv X pins Z H s->t Z H Q ->
  wpAny (model X.prog X.w) X.A (evalPart e X.env) (λu s'=>∃o H',Inv X pins Z H' s'/\IsPart u o/\Q o H') X.xe s
def zrX:TO:=λ_ H Q=>Q none H
def zvy(t:TE):TO:=λZ H Q=>t Z H λx H1=>∃i,x=.int i/\Q (some i) H1
section
variable{X:Cx}{e:Expr}{te:TE}{lo hi:Option Expr}{tl th:TO}{pos p2:Pos}
def zoF:PO X none zrX:=by
 intro pins s Z H Q I h;rw[evalPart_none];exact YAd ⟨none,H,I,.none,h⟩
def znq(h:PE X e te):PO X (some e) (zvy te):=by
 intro pins s Z H Q I hw;rw[evalPart_some];refine thn (h pins s Z H _ I hw) λu s1 ⟨x,H1,I1,r1,q1⟩=>?_;obtain⟨i,rfl,q⟩:=q1;obtain⟨t,rfl⟩:=r1;exact⟨some i,H1,I1,.int i t,q⟩
noncomputable def SlR(X:Cx)(r:V->Option Int->Option Int->Hp->VK->Prop):Prop:=
 ∀(pins:List (Addr×Obj))(s:Shared)(Z:St)(H:Hp)(x:V)(v vl vu:Value)(lo hi:Option Int)(sl:Addr)(Q:VK),Inv X pins Z H s->RelV x v->s.heap.IsSliceOf sl vl vu .none->IsPart vl lo->IsPart vu hi->r x lo hi H Q ->
  ∃T id,typeLookup (.type T) "__getitem__"=pure (some (.builtin id))/\s.TypeIs v T/\wpAny (model X.prog X.w) X.A (getItem v (.ref sl)) (EP X pins Z Q) X.xe s
def SlR.or{r r':V->Option Int->Option Int->Hp->VK->Prop}(h:SlR X r)(h':SlR X r'):SlR X (λx lo hi H Q=>r x lo hi H Q\/r' x lo hi H Q):=by
 intro pins s Z H x v vl vu lo hi sl Q I rx hs pl pu q;rcases q with q|q
 .exact h pins s Z H x v vl vu lo hi sl Q I rx hs pl pu q
 .exact h' pins s Z H x v vl vu lo hi sl Q I rx hs pl pu q
def tSl(r:V->Option Int->Option Int->Hp->VK->Prop)(te:TE)(tl th:TO):TE:=λZ H Q=>te Z H λx H1=>tl Z H1 λl H2=>th Z H2 λu H3=>r x l u H3 Q
def zlq(hr:SlR X r)(he:PE X e te)(hl:PO X lo tl)(hu:PO X hi th):PE X (.Subscript e (.Slice lo hi none p2) pos) (tSl r te tl th):=by
 intro pins s Z H Q I h;refine Subscript_ (thn (he pins s Z H _ I h) λv s1 ⟨x,H1,I1,r1,q1⟩=>?_);refine wpAny_Slice (thn (hl pins s1 Z H1 _ I1 q1) λvl s2 ⟨l,H2,I2,pl,q2⟩=>thn (hu pins s2 Z H2 _ I2 q2) λvu s3 ⟨u,H3,I3,pu,q3⟩=>?_);rw[evalPart_none];refine YAd ?_;have I4:Inv X pins Z H3 {s3 with heap:=s3.heap.push {cls:=.type "slice",data:=.fields #[vl,vu,.none]}}:=I3.kept (t':=s3.toks) λb ob q=>YAc _ q;obtain⟨T,id,hT,ht,hg⟩:=hr pins {s3 with heap:=s3.heap.push {cls:=.type "slice",data:=.fields #[vl,vu,.none]}} Z H3 x v vl vu l u s3.heap.objs.size Q I4 r1 (Heap.IsSliceOf.new ..) pl pu q3;show wpAny (model X.prog X.w) X.A (subscriptTail e (.Slice lo hi none p2) v (.ref s3.heap.objs.size)) (EP X pins Z Q) X.xe {s3 with heap:=s3.heap.push {cls:=.type "slice",data:=.fields #[vl,vu,.none]}};exact tail_any (ops:=[.ref s3.heap.objs.size,v]) ht hT hg (by with_unfolding_all rfl)
def cutV(xs:List V)(lo hi:Option Int):List V:=(xs.drop (HT.sIx xs.length 0 lo)).take (HT.sIx xs.length xs.length hi-HT.sIx xs.length 0 lo)
def zgY(xs:List V)(lo hi:Option Int):(cutV xs lo hi).length<=xs.length:=by
 unfold cutV;rw[YBM,YCt];omega
def rSlT(K:qk):V->Option Int->Option Int->Hp->VK->Prop:=λx lo hi H Q=>∃a xs,x=.ref a/\SqT K H a xs /\
 ¬ (HT.sIx xs.length 0 lo=0/\HT.sIx xs.length xs.length hi=xs.length)/\∀p,H p=none->Q (.ref p) (upd H p (.tup (cutV xs lo hi)))
def ztZ:SlR X (rSlT X.K):=by
 intro pins s Z H x v vl vu lo hi sl Q I rx hs pl pu h;obtain⟨a,xs,rfl,hx,hw,q⟩:=h;cases rx;obtain⟨its,r,ht,hz⟩:=I.tuple hx;have hlen:its.toArray.size=xs.length:=by rw[YAq];exact r.length.symm
 refine⟨"tuple",_,YAQ.lookup,ht.typeIs,?_⟩;refine HT.getItem_tuple_cut ht hs pl pu (by rw[hlen];exact hw) ?_ (by rw[hlen];exact hz);rw[hlen];refine⟨.ref s.heap.objs.size,_,I.laid (t':=s.toks) (o:=.tup (cutV xs lo hi)) (λb ob q=>YAc _ q) (YAo _) ?_,rfl,q _ (I.hok.fresh (YAo _))⟩;exact⟨YAx (zgY xs lo hi) hz,_,(r.drop (HT.sIx xs.length 0 lo)).take (HT.sIx xs.length xs.length hi-HT.sIx xs.length 0 lo),IsTup.new _ _⟩
def zvK(K:qk):R2:=λx y H Q=>∃a b xs ys,x=.ref a/\y=.ref b/\SqT K H a xs/\SqT K H b ys/\xs≠[]/\xs.length+ys.length<=sizeLine /\
 (ys=[]->Q (.ref a) H)/\(ys≠[]->∀p,H p=none->Q (.ref p) (upd H p (.tup (xs++ys))))
def Vals.nil_iff(r:Vals xs us):us=[]↔xs=[]:=by
 cases r with
 |nil=>simp
 |cons _ _=>simp
def zrz:OpR X (binaryOp .Add) (zvK X.K):=by
 intro pins s Z H x y v u Q I rx ry h;obtain⟨a,b,xs,ys,rfl,rfl,ha,hb,hx,hz,q1,q2⟩:=h;cases rx;cases ry;obtain⟨its,r1,p1,_⟩:=I.tuple ha;obtain⟨its2,r2,p2,_⟩:=I.tuple hb;refine HT.cat_tup p1 p2 (λz=>hx (r1.nil_iff.mp z)) (λz=>⟨.ref a,H,I,rfl,q1 (r2.nil_iff.mp z)⟩) (λz=>?_) (by rw[<-r1.length,<-r2.length];exact hz);refine⟨.ref s.heap.objs.size,_,I.laid (t':=s.toks) (o:=.tup (xs++ys)) (λb ob q=>YAc _ q) (YAo _) ?_,rfl,q2 (λw=>z (r2.nil_iff.mpr w)) _ (I.hok.fresh (YAo _))⟩;exact⟨by rw[YAk];exact hz,_,r1.append r2,IsTup.new _ _⟩
end
def ixN(n:Nat)(i:Int):Option Nat:=if 0<=i then(if i<n then some i.toNat else none)else if -(n:Int)<=i then some (i+n).toNat else none
def atI{α:Type}(xs:List α)(i:Int):Option α:=(ixN xs.length i).bind λj=>xs[j]?
def znR(h:ixN n i=some j):seqIndex? i n=some j/\j<n/\-(n:Int)<=i/\i<n:=by
 unfold ixN at h;by_cases h0:0<=i
 .rw[if_pos h0]at h;by_cases h1:i<n
  .rw[if_pos h1]at h;have e:i.toNat=j:=Option.some.inj h;exact⟨by rw[seqIndex_of h0 h1,e],by omega,by omega,h1⟩
  .rw[if_neg h1]at h;cases h
 .rw[if_neg h0]at h;by_cases h1:-(n:Int)<=i
  .rw[if_pos h1]at h;have e:(i+n).toNat=j:=Option.some.inj h;exact⟨by rw[seqIndex_neg (by omega) h1,e],by omega,h1,by omega⟩
  .rw[if_neg h1]at h;cases h
def zks{α:Type}{xs:List α}{i:Int}{v:α}(h:atI xs i=some v):∃j,seqIndex? i xs.length=some j/\xs[j]?=some v/\j<xs.length/\-(xs.length:Int)<=i/\i<xs.length:=by
 unfold atI at h;cases e:ixN xs.length i with
 |none=>rw[e]at h;cases h
 |some j=>
  rw[e]at h;obtain⟨h1,h2,h3,h4⟩:=znR e;exact⟨j,h1,h,h2,h3,h4⟩
def zaH{α:Type}{xs:List α}{j:Nat}{v:α}(h:xs[j]?=some v):atI xs (j:Int)=some v:=by
 have hj:j<xs.length:=(YAe.mp h).1;have e:ixN xs.length (j:Int)=some j:=by
  unfold ixN;rw[if_pos (by omega),if_pos (by omega)];simp
 unfold atI;rw[e];exact h
def zkT(b:Expr):Prop:=∀o i,subscripted b false o i=operate [o,i] (getItem o i)
noncomputable def IxR(X:Cx)(r:R2):Prop:=
 ∀(value slice:Expr)(pins:List (Addr×Obj))(s:Shared)(Z:St)(H:Hp)(x y:V)(v u:Value)(Q:VK),Inv X pins Z H s->RelV x v->RelV y u->r x y H Q ->
  subscripted slice false v u=operate [v,u] (getItem v u)->wpAny (model X.prog X.w) X.A (subscriptTail value slice v u) (EP X pins Z Q) X.xe s
def MtR(X:Cx)(id:String)(r:V->List V->Hp->VK->Prop):Prop:=
 ∀(pins:List (Addr×Obj))(s:Shared)(Z:St)(H:Hp)(x:V)(xs:List V)(v:Value)(us:List Value)(Q:VK),Inv X pins Z H s->RelV x v->Vals xs us->r x xs H Q ->
  wpAny (model X.prog X.w) X.A (call (.builtin id) (v::us)) (EP X pins Z Q) X.xe s
section
variable{X:Cx}{a b:Expr}{ta tb:TE}{pos:Pos}
def IxR.or{r r':R2}(h:IxR X r)(h':IxR X r'):IxR X (λx y H Q=>r x y H Q\/r' x y H Q):=by
 intro value slice pins s Z H x y v u Q I rx ry q hs;rcases q with q|q
 .exact h value slice pins s Z H x y v u Q I rx ry q hs
 .exact h' value slice pins s Z H x y v u Q I rx ry q hs
def zgo(hr:IxR X r)(ha:PE X a ta)(hb:PE X b tb)(hs:zkT b):PE X (.Subscript a b pos) (tOp r ta tb):=by
 intro pins s Z H Q I h;exact Subscript_ (binT ha hb I h λv u s2 x y H2 I2 rx ry q=>hr a b pins s2 Z H2 x y v u Q I2 rx ry q (hs _ _))
def rIxL(K:qk):R2:=λx y H Q=>∃p xs i v,x=.ref p/\y=.int i/\SqL K H p xs/\atI xs i=some v/\Q v H
def rIxT(K:qk):R2:=λx y H Q=>∃p xs i v,x=.ref p/\y=.int i/\SqT K H p xs/\atI xs i=some v/\Q v H
def rIxS:R2:=λx y H Q=>∃z i c,x=.str z/\y=.int i/\z.length<=sizeLine/\atI z.cps.toList i=some c/\Q (.str ⟨#[c]⟩) H
def ix_list:IxR X (rIxL X.K):=by
 intro value slice pins s Z H x y v u Q I rx ry h hs;obtain⟨p,xs,i,z,rfl,rfl,hq,he,q⟩:=h;cases rx;obtain⟨t,rfl⟩:=ry;obtain⟨its,r,pl,hz⟩:=I.list hq;obtain⟨j,h1,h2,h3,h4,h5⟩:=zks he;obtain⟨w,ew,rw'⟩:=r.get h2;have hl:=r.length;have hn:=zfQ;have fin:EP X pins Z Q w s:=⟨z,H,I,rw',q⟩;by_cases h0:0<=i
 .have hj:i.toNat=j:=by
   rw[seqIndex_of h0 h5]at h1;exact Option.some.inj h1
  exact item_listR pl.isList h0 (by omega) (by rw[hj];simpa using ew) fin hs
 .have hj:(i+(its.toArray.size:Int)).toNat=j:=by
   rw[seqIndex_neg (by omega) h4]at h1;rw[YAq,<-hl];exact Option.some.inj h1
  exact subscriptTail_builtinR (x:=w) pl.isList.typeIs slot_list_getitem.lookup
   (wpAny_getItem_list_neg (Q:=λr s'=>r=w/\EP X pins Z Q r s') pl.isList (by omega) (by rw[YAq]<;>omega) (by omega) (by rw[hj];simpa using ew) ⟨rfl,fin⟩) hs
def ix_tup:IxR X (rIxT X.K):=by
 intro value slice pins s Z H x y v u Q I rx ry h hs;obtain⟨p,xs,i,z,rfl,rfl,hq,he,q⟩:=h;cases rx;obtain⟨t,rfl⟩:=ry;obtain⟨its,r,pl,hz⟩:=I.tuple hq;obtain⟨j,h1,h2,h3,h4,h5⟩:=zks he;obtain⟨w,ew,rw'⟩:=r.get h2;have hl:=r.length;have hn:=zfQ;have fin:EP X pins Z Q w s:=⟨z,H,I,rw',q⟩;exact subscriptTail_builtinR (x:=w) pl.typeIs slot_tuple_getitem.lookup
  (getItem_tuple (j:=j) (Q:=λr s'=>r=w/\EP X pins Z Q r s') pl (by omega) (by omega) (by rw[YAq,<-hl];exact h1) (by simpa using ew) ⟨rfl,fin⟩) hs
def zs0:IxR X rIxS:=by
 intro value slice pins s Z H x y v u Q I rx ry h hs;obtain⟨z,i,c,rfl,rfl,hz,he,q⟩:=h;obtain⟨t,rfl⟩:=rx;obtain⟨t',rfl⟩:=ry;obtain⟨j,h1,h2,h3,h4,h5⟩:=zks he;have hl:z.cps.toList.length=z.length:=by simp[Str.length]
 rw[hl]at h1 h4 h5;have hn:=zfQ;exact tail_any (YCR s z t) slot_str_getitem.lookup (getItem_str (c:=c) (by
  have e1:decide (i < -(2^63:Int))=false:=YAp (by omega);have e2:decide (i ≥ 2^63)=false:=YAp (by omega);rw[e1,e2,Bool.or_false]) (by rw[h1];simpa using h2) ⟨.str ⟨#[c]⟩,H,I.tok _,⟨_,rfl⟩,q⟩) hs
def rIx(K:qk):R2:=λx y H Q=>rIxL K x y H Q\/rIxT K x y H Q\/rIxS x y H Q
def zqK:IxR X (rIx X.K):=ix_list.or (ix_tup.or zs0)
def zmH(its:List Value)(n j:Nat)(u:Value):Obj.mapSeq (·.setIfInBounds j u) {cls:=.type "list",data:=.seq its.toArray n}={cls:=.type "list",data:=.seq (its.set j u).toArray n}:=by
 simp[Obj.mapSeq]
theorem Inv.lst{pins:List (Addr×Obj)}{Z:St}{H:Hp}{s:Shared}{p:Addr}{xs:List V}(I:Inv X pins Z H s)(h:H p=some (.lst xs)) :
  ∃(its:List Value)(n:Nat),Vals xs its/\s.heap.get? p=some {cls:=.type "list",data:=.seq its.toArray n}/\xs.length<=sizeLine:=by
 obtain⟨z,its,n,r,e⟩:=I.hok p _ h;exact⟨its,n,r,e,z⟩
def Inv.lstUpd{pins:List (Addr×Obj)}{Z:St}{H:Hp}{s:Shared}{p:Addr}{xs ys:List V}{its its':List Value}{n n':Nat}{f:Obj->Obj}(I:Inv X pins Z H s)(h:H p=some (.lst xs))
  (ho:s.heap.get? p=some {cls:=.type "list",data:=.seq its.toArray n}) (hf:f {cls:=.type "list",data:=.seq its.toArray n}={cls:=.type "list",data:=.seq its'.toArray n'}) (r:Vals ys its') (hz:ys.length<=sizeLine) (t:Nat) :
  Inv X pins Z (upd H p (.lst ys)) {s with heap:=s.heap.update p f,toks:=t}:=by
 have e:(s.heap.update p f).get? p=some {cls:=.type "list",data:=.seq its'.toArray n'}:=by
  rw[YAR f ho (by rw[hf]<;>rfl),hf]
 refine I.write (x:=p) (e:=p) (by rw[h];trivial) (.inl rfl) (λb u hb q=>(YAJ _ _ (YAK hb)).trans q) ⟨_,e⟩ ?_;exact⟨hz,its',n',r,e⟩
def zvd:V->V->V->Hp->(Hp->Prop)->Prop:=λo i v H Q=>∃p xs k j,o=.ref p/\i=.int k/\H p=some (.lst xs)/\ixN xs.length k=some j/\Q (upd H p (.lst (xs.set j v)))
def zfa:PSet X zvd:=by
 intro pins s Z H o i v ov iv u Q I ro ri rv h;obtain⟨p,xs,k,j,rfl,rfl,hp,hj,q⟩:=h;cases ro;obtain⟨t,rfl⟩:=ri;obtain⟨its,n,r,ho,hz⟩:=I.lst hp;obtain⟨h1,h2,h3,h4⟩:=znR hj;have hl:=r.length;have hn:=zfQ;have I':Inv X pins Z (upd H p (.lst (xs.set j v))) {s with heap:=s.heap.update p (Obj.mapSeq (·.setIfInBounds j u))}:=
  I.lstUpd hp ho (zmH its n j u) (r.set rv j) (by rw[YB3];exact hz) s.toks
 by_cases h0:0<=k
 .have hk:k.toNat=j:=by
   rw[seqIndex_of h0 h4]at h1;exact Option.some.inj h1
  exact PySem.W.ki_setAt ho h0 (by omega) (by rw[YAq,<-hl];exact h4) (by rw[hk];exact⟨_,I',q⟩)
 .have hk:(k+(its.toArray.size:Int)).toNat=j:=by
   rw[seqIndex_neg (by omega) h3]at h1;rw[YAq,<-hl];exact Option.some.inj h1
  exact PySem.W.ki_setBack ho (by omega) (by rw[YAq,<-hl];exact h3) (by omega) (by rw[hk];exact⟨_,I',q⟩)
def zjL(lo hi:Option Int)(n:Nat):(sliceBounds lo hi none n).1=((HT.sIx n 0 lo:Nat):Int)/\(sliceBounds lo hi none n).2.1=((HT.sIx n n hi:Nat):Int)/\(sliceBounds lo hi none n).2.2=1:=by
 refine⟨?_,?_,rfl⟩
 .cases lo with
  |none=>simp[sliceBounds,HT.sIx]
  |some i=>
   simp only[sliceBounds,HT.sIx,Option.getD_none,show(1:Int)>0 by decide,YCL];by_cases h:i<0
   .simp only[h,YCL]<;>omega
   .simp only[h,YCk]<;>omega
 .cases hi with
  |none=>simp[sliceBounds,HT.sIx]
  |some i=>
   simp only[sliceBounds,HT.sIx,Option.getD_none,show(1:Int)>0 by decide,YCL];by_cases h:i<0
   .simp only[h,YCL]<;>omega
   .simp only[h,YCk]<;>omega
def zh1(its:List Value)(lo hi:Option Int):slicePick its.toArray lo hi none=((its.drop (HT.sIx its.length 0 lo)).take (HT.sIx its.length its.length hi-HT.sIx its.length 0 lo)).toArray:=by
 obtain⟨h1,h2,h3⟩:=zjL lo hi its.toArray.size;unfold slicePick;rw[h1,h2,h3];simp only[sliceRange_one,pick_run,YAq]<;>rfl
def rSlL(K:qk):V->Option Int->Option Int->Hp->VK->Prop:=λx lo hi H Q=>∃a xs,x=.ref a/\SqL K H a xs/\∀p,H p=none->Q (.ref p) (upd H p (.lst (cutV xs lo hi)))
def sl_list:SlR X (rSlL X.K):=by
 intro pins s Z H x v vl vu lo hi sl Q I rx hs pl pu h;obtain⟨a,xs,rfl,hx,q⟩:=h;cases rx;obtain⟨its,r,ht,hz⟩:=I.list hx;have hlen:=r.length;refine⟨"list",_,slot_list_getitem.lookup,ht.isList.typeIs,?_⟩;refine wpAny_getItem_list_slice ht.isList hs pl pu .none (by simp) ?_ (by rw[YAq]<;>omega);rw[zh1,<-hlen];refine⟨.ref s.heap.objs.size,_,I.laid (t':=s.toks) (o:=.lst (cutV xs lo hi)) (λb ob q=>YAc _ q) (YAo _) ?_,rfl,q _ (I.hok.fresh (YAo _))⟩;exact⟨YAx (zgY xs lo hi) hz,_,0,(r.drop (HT.sIx xs.length 0 lo)).take (HT.sIx xs.length xs.length hi-HT.sIx xs.length 0 lo),YAn _ rfl⟩
def zjB:OpR X (compareOp .NotIn) (λx y H Q=>∃i j,x=.str i/\y=.str j/\Q (.bl (!(!(Builtin.Str.occurrences j i 0 j.length 1).isEmpty))) H):=by
 intro pins s Z H x y v u Q I rx ry h;obtain⟨i,j,rfl,rfl,q⟩:=h;obtain⟨t,rfl⟩:=rx;obtain⟨t',rfl⟩:=ry;exact notIn_str ⟨.bl _,H,I,rfl,q⟩
def call_len_seq:CallR X (.builtin "len") (λxs H Q=>∃p ys,xs=[.ref p]/\(SqL X.K H p ys\/SqT X.K H p ys)/\Q (.int ys.length) H):=by
 intro pins s Z H xs us Q I r h;obtain⟨p,ys,rfl,hq,q⟩:=h;obtain⟨u,rfl,rx⟩:=zeC r;cases rx;have hn:=zfQ;rcases hq with hq|hq
 .obtain⟨its,r',pl,hz⟩:=I.list hq;have hlen:=r'.length;exact Calls.call_len_list pl.isList (by simp only[YAq]<;>omega) ⟨.int ys.length,H,I.tok _,⟨s.toks+1,by rw[YAq,hlen]⟩,q⟩
 .obtain⟨its,r',pl,hz⟩:=I.tuple hq;have hlen:=r'.length;exact len_tuple pl (by simp only[YAq]<;>omega) ⟨.int ys.length,H,I.tok _,⟨s.toks+1,by rw[YAq,hlen]⟩,q⟩
def zjJ:CallR X (.builtin "len") (λxs H Q=>∃z,xs=[.str z]/\z.length<=sizeLine/\Q (.int z.length) H):=by
 intro pins s Z H xs us Q I r h;obtain⟨z,rfl,hz,q⟩:=h;obtain⟨u,rfl,t,rfl⟩:=zeC r;have hn:=zfQ;exact len_str (by omega) ⟨.int z.length,H,I.tok _,⟨_,rfl⟩,q⟩
def CallR.or{f:Value}{r r':List V->Hp->VK->Prop}(h:CallR X f r)(h':CallR X f r'):CallR X f (λxs H Q=>r xs H Q\/r' xs H Q):=by
 intro pins s Z H xs us Q I rs q;rcases q with q|q
 .exact h pins s Z H xs us Q I rs q
 .exact h' pins s Z H xs us Q I rs q
def zdV:CallR X (.type "list") (λxs H Q=>∃p ys,xs=[.ref p]/\(SqL X.K H p ys\/SqT X.K H p ys)/\∀l,H l=none->Q (.ref l) (upd H l (.lst ys))):=by
 intro pins s Z H xs us Q I r h;obtain⟨p,ys,rfl,hq,q⟩:=h;obtain⟨u,rfl,rx⟩:=zeC r;cases rx;have fin:∀(its:List Value),Vals ys its->ys.length<=sizeLine->∀(h':Heap)(c':Nat),(∀b o',s.heap.get? b=some o'->h'.get? b=some o') ->
   h'.get? s.heap.objs.size=some {cls:=.type "list",dict:=none,data:=.seq its.toArray c',slots:=#[]}->EP X pins Z Q (.ref s.heap.objs.size) {s with heap:=h'}:=λits r' hz h' c' kp e=>
  ⟨.ref s.heap.objs.size,_,I.laid (t':=s.toks) kp (YAo _) (show ObjOk X.prog X.w _ h' _ (.lst ys)from⟨hz,its,c',r',e⟩),rfl,q _ (I.hok.fresh (YAo _))⟩
 rcases hq with hq|hq
 .obtain⟨its,r',pl,hz⟩:=I.list hq;have hlen:=r'.length;obtain⟨o,ho,hc,n,hd⟩:=pl.isList;exact call_list_seq p (.inl rfl) ho hc hd (λh' c' kp e=>fin its r' hz h' c' kp e) (by simp only[YAq]<;>omega)
 .obtain⟨its,r',pl,hz⟩:=I.tuple hq;have hlen:=r'.length;obtain⟨o,ho,hc,n,hd⟩:=pl;exact call_list_seq p (.inr rfl) ho hc hd (λh' c' kp e=>fin its r' hz h' c' kp e) (by simp only[YAq]<;>omega)
def zhG:CallR X (.type "tuple") (λxs H Q=>∃p ys,xs=[.ref p]/\((SqL X.K H p ys/\∀l,H l=none->Q (.ref l) (upd H l (.tup ys)))\/(SqT X.K H p ys/\Q (.ref p) H))):=by
 intro pins s Z H xs us Q I r h;obtain⟨p,ys,rfl,h⟩:=h;obtain⟨u,rfl,rx⟩:=zeC r;cases rx;rcases h with⟨hq,q⟩|⟨hq,q⟩
 .obtain⟨its,r',pl,hz⟩:=I.list hq;have hlen:=r'.length;refine call_tuple_list pl.isList (λh' kp=>?_) (by simp only[YAq]<;>omega);have I1:Inv X pins Z H {s with heap:=h'}:=I.kept (t':=s.toks) kp;have I2:Inv X pins Z (upd H h'.objs.size (.tup ys)) {s with heap:=h'.push {cls:=.type "tuple",data:=.seq its.toArray}}:=
   I1.laid (t':=s.toks) (λb o e=>YAc _ e) (YAo _) (show ObjOk X.prog X.w _ _ _ (.tup ys)from⟨hz,its,r',IsTup.new _ _⟩)
  exact⟨.ref h'.objs.size,_,I2,rfl,q _ (I1.hok.fresh (YAo _))⟩
 .obtain⟨its,r',pl,hz⟩:=I.tuple hq;exact call_tuple_same pl ⟨.ref p,H,I,rfl,q⟩
noncomputable def tyV(K:qk)(T:String)(x:V)(H:Hp):Prop:=match x with
 |.str _=>T="str"
 |.int _=>T="int"
 |.ref p=>(T="list" /\ ∃xs,SqL K H p xs)\/(T="tuple" /\ ∃o,K.lookup p=some o/\o.cls=.type "tuple" /\ o.dict=none) \/
   (T="dict" /\ ((∃kvs,H p=some (.dK kvs))\/∃kvs,H p=some (.dT kvs)))\/(T="set" /\ ∃qj n,H p=some (.set qj n))
 |_=>False
def zt5(I:Inv X pins Z H s)(r:RelV x v)(ty:tyV X.K T x H) :
  s.TypeIs v T/\∀a,v=.ref a->∃ob,s.heap.get? a=some ob/\ob.dict=none:=by
 cases x with
 |str z=>
  obtain⟨t,rfl⟩:=r;cases (show T="str" from ty);exact⟨YCR s z t,λ_ e=>nomatch e⟩
 |int i=>
  obtain⟨t,rfl⟩:=r;cases (show T="int" from ty);exact⟨typeIs_int s i t,λ_ e=>nomatch e⟩
 |ref p=>
  cases r;rcases ty with⟨rfl,xs,hq⟩|⟨rfl,o,hk,hc,hd⟩|⟨rfl,hk⟩|⟨rfl,qj,n,hk⟩
  .obtain⟨its,_,pl,_⟩:=I.list hq;refine⟨pl.isList.typeIs,λa e=>?_⟩;cases e;obtain⟨o,n,e,c,hd,_⟩:=pl;exact⟨o,e,hd⟩
  .refine⟨⟨o,I.kIn p o hk,hc⟩,λa e=>?_⟩;cases e;exact⟨o,I.kIn _ o hk,hd⟩
  .have z:∃o,s.heap.get? p=some o/\o.ExactDict:=by
    rcases hk with⟨kvs,hk⟩|⟨kvs,hk⟩
    .obtain⟨_,_,_,_,o,_,_,e,ex,_⟩:=I.hok p _ hk;exact⟨o,e,ex⟩
    .obtain⟨_,_,_,_,o,_,_,e,ex,_⟩:=I.hok p _ hk;exact⟨o,e,ex⟩
   obtain⟨o,e,ex⟩:=z;refine⟨⟨o,e,ex.1⟩,λa e2=>?_⟩;cases e2;exact⟨o,e,ex.2.1⟩
  .obtain⟨o,_,_,_,e,ex,_⟩:=I.hok p _ hk;refine⟨⟨o,e,ex.1⟩,λa e2=>?_⟩;cases e2;exact⟨o,e,ex.2.1⟩
 |_=>exact False.elim ty
def tBM(K:qk)(T:String)(r:V->List V->Hp->VK->Prop)(to:TE)(t:TA):TE:=λZ H Q=>to Z H λx H1=>tyV K T x H1/\t Z H1 λxs H2=>r x xs H2 Q
variable{o e:Expr}{es:List Expr}{to:TE}{t:TA}{name:Str}{apos cpos:Pos}{T id:String}{r:V->List V->Hp->VK->Prop}
def zpk(pa:PlainAttrs T)(slot:Slot T name id)(hty:typeOf (.builtin id)=pure (.type "method_descriptor"))(hm:MtR X id r)(ho:PE X o to)(ha:PA X (e::es) t)
  (hbase:attributeBase o name X.env (eval o X.env)=eval o X.env:=by rfl)
  (hfew:((backTo cpos (starEach (e::es) X.env)).all (λx=>!x.1)&&(backToKw cpos (keywordEach [] X.env)).all (λx=>x.1.isSome)
   && decide ((e::es).length+([]:List Keyword).length+(if ([]:List Keyword).isEmpty then 0 else 1)<30))=true:=by rfl)
  (hline:(apos.endLine==cpos.line)=true:=by rfl) (hs:starEach (e::es) X.env=(false,eval e X.env)::starEach es X.env:=by rfl) (hplain:(backTo cpos (starEach es X.env)).any (·.1)=false:=by rfl) :
  PE X (.Call (.Attribute o name apos) (e::es) [] cpos) (tBM X.K T r to t):=by
 intro pins s Z H Q I h;refine wpAny_Call_method_late hbase hfew hline rfl (thn (ho pins s Z H _ I h) λv s1 ⟨x,H1,I1,r1,ty,q1⟩=>?_);obtain⟨h1,h2⟩:=zt5 I1 r1 ty;refine⟨T,id,pa,slot,hty,h1,h2,?_⟩;have hA:=ha cpos pins s1 Z H1 _ I1 q1;rw[hs]at hA ⊢;refine Calls.callWith_builtin (by show(false || (backTo cpos (starEach es X.env)).any (·.1))=false;rw[hplain]<;>rfl) (Calls.evalArgs_plain ?_);exact thn hA λus s2 ⟨vs,H2,I2,r2,q2⟩=>hm pins s2 Z H2 x vs v us Q I2 r1 r2 q2
end
def MtM(X:Cx)(id:String)(r:V->List V->Hp->VK->Prop):Prop:=
 ∀(pins:List (Addr×Obj))(s:Shared)(Z:St)(H:Hp)(x:V)(xs:List V)(v:Value)(us:List Value)(Q:VK),Inv X pins Z H s->RelV x v->Vals xs us->r x xs H Q ->
  wpAny (model X.prog X.w) X.A (call (.builtin id) (v::us)) (EP X pins Z Q) X.xe s
def Vals.one:∀{x:V}{us:List Value},Vals [x] us->∃u,us=[u]/\RelV x u
 |_,_,.cons r .nil=>⟨_,rfl,r⟩
theorem Vals.rep(h:Vals xs us):∀k:Nat,Vals (List.replicate k xs).flatten (List.replicate k us).flatten
 |0=>.nil
 |k+1=>by
  rw[YA8,YA8,YBr,YBr];exact Vals.append h (Vals.rep h k)
theorem zi1(its:List Value):∀(k:Nat)(acc:List Value),
  List.foldl (λx1 x2=>x1++x2) acc.toArray (List.replicate k its.toArray)=(acc++(List.replicate k its).flatten).toArray
 |0,acc=>by simp
 |k+1,acc=>by
  have e:acc.toArray++its.toArray=(acc++its).toArray:=by simp
  have e2:(acc++its)++(List.replicate k its).flatten=acc++(List.replicate (k+1) its).flatten:=by
   rw[YA8,YBr,YCg]
  rw[<-e2,<-zi1 its k (acc++its),<-e,YA8,List.foldl_cons]
section
variable{X:Cx}{pins:List (Addr×Obj)}{Z:St}{H:Hp}{s:Shared}{l b:Addr}{xs ys zs:List V}
def Inv.lset{its its':List Value}{n:Nat}{f:Array Value->Array Value}{t':Nat}(I:Inv X pins Z H s)(hH:H l=some (.lst xs))
  (e:s.heap.get? l=some {cls:=.type "list",data:=.seq its.toArray n}) (hf:f its.toArray=its'.toArray) (hv:Vals ys its') (hz:ys.length<=sizeLine) :
  Inv X pins Z (upd H l (.lst ys)) {s with heap:=s.heap.update l (Obj.mapSeq f),toks:=t'}:=by
 have q:=PySem.IsL.update e f;rw[hf]at q;refine I.write (x:=l) (e:=l) (by rw[hH];exact trivial) (.inl rfl) (λb' u hb hu=>(YAJ s.heap (Obj.mapSeq f) (YAK hb)).trans hu) ⟨_,q⟩ ?_;exact⟨hz,its',_,hv,q⟩
def Inv.lnew(I:Inv X pins Z H s)(hv:Vals ys its)(hz:ys.length<=sizeLine) :
  Inv X pins Z (upd H s.heap.objs.size (.lst ys)) {s with heap:=s.heap.push {cls:=.type "list",data:=.seq its.toArray},toks:=t'}:=
 I.laid (λ_ _ q=>YAc _ q) (YAo _) ⟨hz,its,0,hv,YAn _ rfl⟩
theorem Inv.fresh(I:Inv X pins Z H s):H s.heap.objs.size=none:=I.hok.fresh (YAo _)
def Inv.lstM(I:Inv X pins Z H s)(hH:H l=some (.lst xs)):xs.length<=sizeLine/\∃(its:List Value)(n:Nat),Vals xs its/\xs.length=its.length/\s.heap.get? l=some {cls:=.type "list",data:=.seq its.toArray n}:=by
 obtain⟨z,its,n,r,e⟩:=I.hok l _ hH;exact⟨z,its,n,r,r.length,e⟩
def zpE{n:Nat}(h:n<=sizeLine):Builtin.List.listTooLong n=false:=by
 unfold Builtin.List.listTooLong;exact YAp (by omega)
end
section
variable{X:Cx}
def zrb:V->List V->Hp->VK->Prop:=λx vs H Q=>∃l xs y,x=.ref l/\vs=[y]/\H l=some (.lst xs)/\xs.length<sizeLine/\Q .non (upd H l (.lst (xs++[y])))
def zgJ:MtM X "list.append" zrb:=by
 intro pins s Z H x vs v us Q I rx rv h;obtain⟨l,xs,y,rfl,rfl,hH,hz,q⟩:=h;cases rx;obtain⟨u,rfl,ru⟩:=rv.one;obtain⟨z,its,n,r,hl,e⟩:=I.lstM hH;refine YCA F.slot_list_append ⟨_,e,rfl⟩ F.entry_list_append (F.args_list_append_2 _ _) (PySem.list_append l its.toArray n u (by rw[YAq];omega)) ⟨e,?_⟩;refine⟨.non,_,I.lset (its':=its++[u]) hH e (by simp) (r.append (.cons ru .nil)) ?_,rfl,q⟩;rw[YAk,YCn];omega
def rCat:R2:=λx y H Q=>∃l b xs zs,x=.ref l/\y=.ref b/\H l=some (.lst xs)/\H b=some (.lst zs)/\xs.length+zs.length<=sizeLine/\∀p,H p=none->Q (.ref p) (upd H p (.lst (xs++zs)))
def op_cat:OpR X (binaryOp .Add) rCat:=by
 intro pins s Z H x y v u Q I rx ry h;obtain⟨l,b,xs,zs,rfl,rfl,hH,hB,hz,q⟩:=h;cases rx;cases ry;obtain⟨z,its,n,r,hl,e⟩:=I.lstM hH;obtain⟨z2,its2,n2,r2,hl2,e2⟩:=I.lstM hB;refine PySem.P.add_list e e2 ?_ (by rw[YAq,YAq];omega);have ea:its.toArray++its2.toArray=(its++its2).toArray:=by simp
 rw[ea];exact⟨.ref _,_,I.lnew (t':=s.toks) (r.append r2) (by rw[YAk];omega),rfl,q _ I.fresh⟩
def rRep:R2:=λx y H Q=>∃l k xs,x=.ref l/\y=.int k/\H l=some (.lst xs)/\-(2^63)<=k/\k<2^63/\xs.length*k.toNat<=sizeLine /\
 ∀p,H p=none->Q (.ref p) (upd H p (.lst (List.replicate k.toNat xs).flatten))
def zrF{α:Type}(xs:List α)(k:Nat):(List.replicate k xs).flatten.length=k*xs.length:=by
 induction k with
 |zero=>simp
 |succ k ih=>rw[YA8,YBr,YAk,ih,Nat.succ_mul,Nat.add_comm]
def zqL:OpR X (binaryOp .Mult) rRep:=by
 intro pins s Z H x y v u Q I rx ry h;obtain⟨l,k,xs,rfl,rfl,hH,h1,h2,hz,q⟩:=h;cases rx;obtain⟨t,rfl⟩:=ry;obtain⟨z,its,n,r,hl,e⟩:=I.lstM hH;have hlen:its.toArray.size*k.toNat<=sizeLine:=by rw[YAq,<-hl];exact hz
 have hcap:¬ its.toArray.size*k.toNat>(2^63-1) / 8:=by
  have:(sizeLine:Nat)<=(2^63-1) / 8:=by decide
  omega
 have hfit:¬ (!Builtin.List.listFitsIndex k)=true:=by
  rw[fitsIndex_both h1 h2];exact YBc
 have hlong:¬ Builtin.List.listTooLong (its.toArray.size*k.toNat)=true:=by
  rw[zpE hlen];exact YBc
 have hnew:List.foldl (λx1 x2=>x1++x2) #[] (List.replicate (if its.toArray.isEmpty=true then 0 else k.toNat) its.toArray)=(List.replicate k.toNat its).flatten.toArray:=by
  have f0:∀m:Nat,List.foldl (λx1 x2=>x1++x2) #[] (List.replicate m its.toArray)=(List.replicate m its).flatten.toArray:=λm=>by
   have:=zi1 its m []
   rw[YC5]at this;exact this
  rw[f0];cases its with
  |nil=>simp
  |cons a r'=>rw[if_neg (by simp)]
 refine wpAny_binaryOp_repeat_ref (T:="list") (U:="int") (by decide) ⟨_,e,rfl⟩ (λs'=>typeIs_int s' k t) noFill_list_mul F.fills_int_mul F.slot_int_rmul repeat_list F.slot_int_index.lookup
  (YCA F.slot_int_rmul (typeIs_int s k t) F.entry_int_rmul (F.args_int_rmul_2 _ _) (int___rmul___int_list k t l its.toArray n)
   ⟨e,rfl,⟨_,e,rfl⟩,YCA F.slot_list_mul ⟨_,e,rfl⟩ F.entry_list_mul (F.args_list_mul_2 _ _) (AutoListH.list___mul___list_int_3 l its.toArray n k t hfit hcap hlong) ⟨e,?_⟩⟩)
 rw[hnew];exact⟨.ref _,_,I.lnew (t':=s.toks) (r.rep k.toNat) (by rw[zrF,Nat.mul_comm];exact hz),rfl,q _ I.fresh⟩
end
end L2
namespace Att
open PySem PySem.W PySem.Calls PyProof.Rows
def zgv{P:Params}{h:Heap}:∀(ns:List Int)(vs:List Value),WellAll P h vs (ns.map WData.int)->IntsAre vs ns:=by
 intro ns
 induction ns with
 |nil=>
  intro vs w;rw[YBd]at w;cases w;exact .nil
 |cons n ns ih=>
  intro vs w;rw[YAm]at w;cases w with
  |cons a b=>
   cases a;exact .cons _ _ (ih _ b)
def zm3{l:OpenLaw}{n:Nat}(hn:l.most=some n){P:Params}{h:Heap}{args:List WData}{vals:List Value}
  (hpre:l.row.toRowW.claim.pre args=true) (hwl:WellAll P h vals args) :
  ∃a vs ns,vals=[Value.ref a]/\args=[WData.list (ns.map WData.int)]/\h.get? a=some {cls:=.type "list",data:=.seq vs.toArray}/\IntsAre vs ns/\ns.length<=n:=by
 have hsh:WShape.hasAll [] args [.list .int]=true:=(pre_splitW hpre).1;have hc:l.pre.holds [] {args:=args}=true:=(pre_splitW hpre).2;obtain⟨d,r,rfl,h1,h2⟩:=hasAllW_cons hsh;obtain rfl:=hasAllW_nil h2;obtain⟨xs,rfl,h3⟩:=hasW_list h1;obtain⟨ns,rfl⟩:=items_int h3;have hlen:ns.length<=n:=by
  unfold OpenLaw.pre at hc;have h4:(WTm.not (.lt (.lit (.int (n:Int))) (.len (.arg 0)))).holds [] {args:=[.list (ns.map .int)]}=true:=by
   have h4:=(holds_andW hc).1;rw[hn]at h4;exact h4
  have h5:=condW_of h4 (w_not (w_lt w_lit (w_len_list (w_arg rfl))));rw[YAb]at h5;refine Nat.le_of_not_lt λq=>?_;have q':(n:Int)<((ns.length:Nat):Int):=by omega
  first
   | (rw[YAt q']at h5;exact absurd h5 (by decide))
   | (simp at h5;omega)
 cases hwl with
 |cons w1 w2=>
  cases w2;cases w1 with
  |list ho hall=>exact⟨_,_,ns,rfl,rfl,ho,zgv ns _ hall,hlen⟩
def zoT(l:OpenLaw)(args:List WData):l.row.toRowW.claim.post args (.bool true) args=true:=
 postW_of (r:=l.row.toRowW) (X:=(true==true))
  (show WShape.has [] (.bool true) .bool=true by first|rfl|decide|simp[WShape.has,WShape.arms,WShape.armsAll])
  (show(WTm.eq .res (.lit (.bool true))).value [] {args:=args,res:=some (.bool true),after:=args}=some (.bool (true==true))from w_eq_bool (w_res rfl) w_lit) rfl
def attach_call{l:OpenLaw}{n:Nat}{q:Program}{loose:List Str}{XP:(Str->Option Value)->Heap->Prop}{YP:World->Heap->Prop}{d:DefRec}
  (hn:l.most=some n) (hdf:d.params.defaults=[])
  (call:∀(w:World)(s₀ s₁:Shared)(mg mb:Str->Option Value)(fa:Addr)(o:Obj)(pm cd doc:Value)(a:Addr)(vs:List Value)(ns:List Int),
   Ground q loose [] XP w s₀ mg mb s₁.heap->YP w s₁.heap ->
   s₁.heap.get? fa=some o->o.data=.func (docDef d.name d.params d.body d.scope pm cd doc)->s₁.heap.CodeRec cd d.name->mg d.name=some (.ref fa) ->
   s₁.heap.get? a=some {cls:=.type "list",data:=.seq vs.toArray}->IntsAre vs ns->ns.length<=n->s₁.gens=#[] ->
   codeAny (model l.prog w) callerA (.call (.ref fa) ⟨[.ref a],[]⟩) (λr s'=>r=.ok (.ret (.bool true))/\OldK s₁.heap s'.heap/\s'.os=s₁.os/\AllBare s'.gens) s₁) :
  WalkO q loose XP YP l.row.toRowW d [] (λf vs=>PySem.call f vs):=by
 intro w s₀ s₁ mg mb G Y fa o pm cd doc dV kV ho hd hcd hD hmg hg args vals as hpre hlay hrd hwl hlo;obtain rfl:dV=.none:=Dflts.none hD hdf;obtain rfl:kV=.none:=Dflts.noKw hD;obtain⟨a,vs,ns,rfl,rfl,hobj,hints,hlen⟩:=zm3 hn hpre hwl;refine enter_call (YCl (call w s₀ s₁ mg mb fa o pm cd doc a vs ns G Y ho (fd_plain hd) hcd hmg hobj hints hlen hg) λr s' hq=>?_);obtain⟨rfl,h2,h3,h4⟩:=hq;exact⟨.inl ⟨.bool true,.bool true,[],rfl,λ_=>rfl,.bool true,zoT l _,λ_=>⟨List.Pairwise.nil,λ_ hm=>(nomatch hm)⟩⟩,h2,h3,h4⟩
end Att
namespace L2
open PySem PySem.Spec PyProof.Rows
theorem ziL:∀{vs:List Value}{ns:List Int},IntsAre vs ns->Vals (ns.map V.int) vs
 |_,_,.nil=>.nil
 |_,_,.cons n t h=>.cons ⟨t,rfl⟩ (ziL h)
def Only(H:Hp):Prop:=∀b,H b=none\/∃o xs,H b=some (.frz o (.lst xs))
def zpt{P:Program}{w:World}{K:qk}{mg mb:Str->Option Value}{CX:CXT}{k:Nat}{fa a:Addr}{fd:FuncData}{x:Str}{sp:Sp}{s₁:Shared}{vs:List Value}{ns:List Int}
  (KX:K.In s₁.heap) (hns:s₁.heap.Ns mainGlobals mg) (hb:s₁.heap.Ns builtinsNs mb) (hbb:∀x:Str,x≠"__name__" -> mb x=bootBuiltins x) (hlim:s₁.heap.NoLimit) (hg:s₁.gens=#[])
  (ha:s₁.heap.get? a=some {cls:=.type "list",data:=.seq vs.toArray}) (hi:IntsAre vs ns) (hl:ns.length<=sizeLine) (hr:Room k callerA)
  (F:∀base:Heap,K.In base->base.Ns mainGlobals mg->FnOk P w K mg base CX k fa fd [x] sp) (hbind:∀(s:Shared)(u:Value),BindsTo s fd ⟨[u],[]⟩ [(x,u)])
  (hsp:∀H:Hp,Only H->SqL K H a (ns.map V.int)->sp [.ref a] H (λv _=>v=.bl true) λ_ _ _=>False)
  (hCX:∀H e s',CX [] H s₁ (λ_ _ _=>False) e s'->False) :
  codeAny (model P w) callerA (.call (.ref fa) ⟨[.ref a],[]⟩) (λr s'=>r=.ok (.ret (.bool true))/\OldK s₁.heap s'.heap/\s'.os=s₁.os/\AllBare s'.gens) s₁:=by
 have rv:=ziL hi;have lenV:=hi.length
 -- from an abstract heap in which nothing but the script may be tracked
 have core:∀H:Hp,Only H->SqL K H a (ns.map V.int)->HOk P w H s₁.heap->(∀b,H b≠none->b=a)->(H a≠none->K.lookup a=none) ->
   codeAny (model P w) callerA (.call (.ref fa) ⟨[.ref a],[]⟩) (λr s'=>r=.ok (.ret (.bool true))/\OldK s₁.heap s'.heap/\s'.os=s₁.os/\AllBare s'.gens) s₁:=by
  intro H hO hS hok hA hK;have base_of:∀{b:Addr}{o:Obj},s₁.heap.get? b=some o->H b=none->(hidT s₁.heap H).get? b=some o:=λe n=>zpj e n;have noA:∀{b:Addr}{o:Obj}{es:Array DictEntry}{ep:Nat},s₁.heap.get? b=some o->o.data=.dict es ep->H b=none:=λ{b o es ep} e d=>by
   cases q:H b with
   |none=>rfl
   |some u=>
    have e':b=a:=hA b (by rw[q];simp);subst e';rw[ha]at e;cases e;have d':Data.seq vs.toArray _=Data.dict es ep:=d;cases d'
  have nsK:∀{b:Addr}{m:Str->Option Value},s₁.heap.Ns b m->(hidT s₁.heap H).Ns b m:=λ{b m} ⟨o,es,ep,e,d,r⟩=>⟨o,es,ep,base_of e (noA e d),d,r⟩;have hKb:K.In (hidT s₁.heap H):=λb o e=>base_of (KX b o e) (by
   cases q:H b with
   |none=>rfl
   |some u=>
    have e':b=a:=hA b (by rw[q];simp);subst e';rw[hK (by rw[q];simp)]at e;cases e)
  have hM:Mod K mg (hidT s₁.heap H):=⟨hKb,nsK hns,⟨mb,nsK hb,hbb⟩,let⟨mc,h1,h2⟩:=hlim;⟨mc,nsK h1,h2⟩⟩;have e0:Env0 P w K mg (hidT s₁.heap H) callerA [] s₁ H:=⟨rfl,hM,λb o e=>zsd e,Nat.le_of_eq (znv _ _),trivial,λb hb=>absurd (show b∈([]:List Addr)from hb) (by simp),hok,.of_eq hg⟩;refine YCl ((F _ hKb (nsK hns)).run callerA [] s₁ H ⟨[.ref a],[]⟩ [.ref a] [.ref a] _ _ hr e0 (hbind s₁ (.ref a)) (.cons rfl .nil) (hsp H hO hS)) λr s' h=>?_;cases r with
  |error e=>exact(hCX H e s' h).elim
  |ok fl=>
   cases fl with
   |next=>exact False.elim h
   |brk=>exact False.elim h
   |cont=>exact False.elim h
   |ret u=>
    obtain⟨v,H',os,bare,un,hok',r',q⟩:=h;have q':v=.bl true:=q;subst q';obtain rfl:u=Value.bool true:=r';refine⟨rfl,OldK.of_keep λb o e=>?_,os,bare⟩;cases q:H b with
    |none=>exact un.keep b o e q (by intro z;exact absurd (show b∈([]:List Addr)from z) (by simp)) (by simp)
    |some u=>
     rcases hO b with z|⟨ob,xs,z⟩
     .rw[q]at z;cases z
     .have z2:=un.frzs b ob _ z;obtain⟨e1,_⟩:=hok b _ z;obtain⟨e2,_⟩:=hok' b _ z2;rw[e]at e1;cases e1;exact e2
 cases hk:K.lookup a with
 |some o=>
  -- the script is one of the module's own objects
  have e:=KX a o hk;rw[ha]at e;cases e;refine core (λ_=>none) (λ_=>.inl rfl) (.inr ⟨_,vs.toArray,_,hk,rfl,rfl,rfl,by rw[YAq,lenV];exact hl,by simpa using rv⟩) (λb u z=>by have z':(none:Option HO)=some u:=z;cases z') (λb z=>absurd rfl z) λz=>absurd rfl z
 |none=>
  refine core (λb=>if b=a then some (.frz {cls:=.type "list",data:=.seq vs.toArray} (.lst (ns.map V.int)))else none) (λb=>?_) (.inl (.inr ⟨{cls:=.type "list",data:=.seq vs.toArray},if_pos rfl⟩)) (λb u z=>?_) (λb z=>?_) λ_=>hk
  .by_cases hb:b=a
   .exact .inr ⟨_,_,if_pos hb⟩
   .exact .inl (if_neg hb)
  .by_cases hb:b=a
   .have z':=(if_pos hb).symm.trans z;cases z';subst hb;exact⟨ha,by rw[YAb];exact hl,vs,_,rv,ha⟩
   .have z':=(if_neg hb).symm.trans z;cases z'
  .by_cases hb:b=a
   .exact hb
   .exact absurd (if_neg hb) z
def zsI{l:PySem.W.OpenLaw}{n k:Nat}{q:Program}{loose:List Str}{XP:(Str->Option Value)->Heap->Prop}{YP:World->Heap->Prop}{d:DefRec}{K:Params->qk}{CX:World->CXT}{sp:World->Sp}{x:Str}
  (hn:l.most=some n) (hn2:n<=sizeLine) (hdf:d.params.defaults=[]) (hr:Room k callerA)
  (hY:∀(w:World)(h:Heap),YP w h->(K w.params).In h)
  (F:∀(w:World)(mg:Str->Option Value)(fa:Addr)(h:Heap),(K w.params).In h->h.Ns mainGlobals mg->mg d.name=some (.ref fa) ->
   ∃fd:FuncData,(∀(s:Shared)(u:Value),BindsTo s fd ⟨[u],[]⟩ [(x,u)]) /\
    ∀base:Heap,(K w.params).In base->base.Ns mainGlobals mg->FnOk l.prog w (K w.params) mg base (CX w) k fa fd [x] (sp w))
  (hsp:∀(w:World)(H:Hp)(a:Addr)(ns:List Int),ns.length<=n->Only H->SqL (K w.params) H a (ns.map V.int)->sp w [.ref a] H (λv _=>v=.bl true) λ_ _ _=>False)
  (hCX:∀(w:World)(H:Hp)(s:Shared)(e:Value)(s':Shared),CX w [] H s (λ_ _ _=>False) e s'->False) :
  PySem.W.WalkO q loose XP YP l.row.toRowW d [] (λf vs=>PySem.call f vs):=by
 refine Att.attach_call hn hdf λw s₀ s₁ mg mb fa o pm cd doc a vs ns G Y ho hd hcd hmg hobj hints hlen hg=>?_;have KX:=hY w _ Y;obtain⟨fd,hb,hF⟩:=F w mg fa _ KX G.T.g hmg;exact zpt KX G.T.g G.T.b G.T.builtins G.T.nolimit hg hobj hints (YAx hlen hn2) hr hF hb (λH hO hS=>hsp w H a ns hlen hO hS) λH e s'=>hCX w H s₁ e s'
def zcM(s:Stmt):Arguments:=match s with
 |.FunctionDef _ a _ _ _ _ _ _ _ _=>a
 |_=>{posonlyargs:=[],args:=[],vararg:=none,kwonlyargs:=[],kw_defaults:=[],kwarg:=none,defaults:=[]}
def zbe(s:Stmt):List Stmt:=match s with
 |.FunctionDef _ _ b _ _ _ _ _ _ _=>b
 |_=>[]
def zao(s:Stmt):Scope:=match s with
 |.FunctionDef _ _ _ _ _ _ sc _ _ _=>sc
 |_=>{kind:=.function,names:=[],isGenerator:=false,isCoroutine:=false}
abbrev CX0:CXT:=λ_ _ _ _ _ _=>False
abbrev E0:XK:=λ_ _ _=>False
def zko:zbT CX0 X E0:=λ_ _ _ _ _ _ _ h=>h.elim
structure Fun(K:qk)(x qual:Str)(st:Stmt)(f:Addr)(fd:FuncData):Prop where
 ex:∃(oc:Value)(od:Option Addr)(kV doc pm:Value)(an:Option Addr)(cdv ct:Value)(osl:Array (Option Value)),
  fd=PySem.W.fnOf x qual (zcM st) (zbe st) (zao st) .none kV doc pm an cdv ct/\K.lookup f=some ⟨oc,od,.func fd,osl⟩/\PySem.W.codeIn K cdv qual=true
 kp:PySem.W.keepIn K (.ref f)=true
section
variable{P:Program}{w:World}{K:qk}{mg:Str->Option Value}{base:Heap}
def Fun.ok{x qual:Str}{st:Stmt}{f:Addr}{fd:FuncData}{N ps:List Str}{k:Nat}{sp:Sp}(F:Fun K x qual st f fd)(qj:FnScope N ps (zao st))(len:∀vs H Q E,sp vs H Q E->vs.length=ps.length)
  (hbody:∀(cdv:Value)(A:Around)(outer:List Env)(s:Shared)(H:Hp)(vs:List V)(Q:VK)(E:XK),Room k (A.deeper (envOfC qual (zao st) s.heap.objs.size f cdv))->sp vs H Q E ->
   ∃t,PSs (cxOf CX0 P w K mg base N qual (zao st) f cdv A outer s H E).nox (zbe st) t/\t {nx:=λ_ H'=>Q .non H',rt:=Q} (zdq N vs) H):FnOk P w K mg base CX0 (k+1) f fd ps sp:=by
 obtain⟨oc,od,kV,doc,pm,an,cdv,ct,osl,rfl,lk,hcd⟩:=F.ex;refine zq9 lk hcd qj len λA outer s H vs Q E hr hsp=>?_;obtain⟨t,h,q⟩:=hbody cdv A outer s H vs Q E hr hsp;exact⟨t,h.nox,q⟩
def Fun.binds{x qual:Str}{st:Stmt}{f:Addr}{fd:FuncData}{ps:List Str}(F:Fun K x qual st f fd)
  (h:∀(kV doc pm:Value)(an:Option Addr)(cdv ct:Value)(us:List Value),us.length=ps.length->bindArgs (PySem.W.fnOf x qual (zcM st) (zbe st) (zao st) .none kV doc pm an cdv ct) ⟨us,[]⟩=pure (ps.zip us)):Binds K fd ps []:=by
 obtain⟨oc,od,kV,doc,pm,an,cdv,ct,osl,rfl,lk,hcd⟩:=F.ex;exact .all (h kV doc pm an cdv ct)
end
section
variable{X:Cx}
def pv(i:Nat)(hN:X.N[i]?=some x:=by rfl)(hv:Vis X.env.scope x:=by first|exact Or.inl rfl|exact Or.inr (Or.inl rfl)|exact Or.inr (Or.inr rfl))(hd:(x==("__debug__":Str))=false:=by decide)
  (hcd:(x==("__classdict__":Str))=false:=by decide):PE X (.Name x pos) (tVar i):=zbw hN hv hd hcd
end
def ite2{c A B:Prop}[Decidable c](h1:c->A)(h2:¬ c->B):if c then A else B:=by
 by_cases h:c
 .rw[if_pos h];exact h1 h
 .rw[if_neg h];exact h2 h
def Same(H H':Hp):Prop:=∀b o,H b=some o->H' b=some o
def Same.refl(H:Hp):Same H H:=λ_ _ h=>h
def Same.trans{H H1 H2:Hp}(a:Same H H1)(b:Same H1 H2):Same H H2:=λc o h=>b c o (a c o h)
def Same.free{H H':Hp}(e:Same H H'){l:Addr}(h:H' l=Option.none):H l=Option.none:=by
 cases q:H l with
 |none=>rfl
 |some o=>
  rw[e l o q]at h;cases h
def Same.seq{K:qk}{H H':Hp}{a:Addr}{xs:List V}(e:Same H H')(h:SqL K H a xs):SqL K H' a xs:=by
 rcases h with(h|⟨o,h⟩)|h
 .exact .inl (.inl (e _ _ h))
 .exact .inl (.inr ⟨o,e _ _ h⟩)
 .exact .inr h
section
variable{κ:Type}[DecidableEq κ]
def valV(kvs:List (κ×V))(k:κ):Option V:=(kvs.find? λkv=>decide (kv.1=k)).map (·.2)
def putK(kvs:List (κ×V))(k:κ)(v:V):List (κ×V):=
 if (kvs.any λkv=>decide (kv.1=k))=true then kvs.map (λkv=>if kv.1=k then(kv.1,v)else kv)else kvs++[(k,v)]
def ze5{p:κ×V}{r:List (κ×V)}{k:κ}(e:p.1=k):valV (p::r) k=some p.2:=by simp[valV,YBP,e]
def zeO{p:κ×V}{r:List (κ×V)}{k:κ}(e:¬ p.1=k):valV (p::r) k=valV r k:=by simp[valV,YBP,e]
theorem zf7(k:κ):∀kvs:List (κ×V),(kvs.any λkv=>decide (kv.1=k))=(valV kvs k).isSome
 |[]=>rfl
 |p::r=>by
  rw[YB4];by_cases e:p.1=k
  .simp only[ze5 e,YAt e,Bool.true_or,Option.isSome_some]
  .rw[zeO e,YAp e,Bool.false_or];exact zf7 k r
def zez(kvs:List (κ×V))(k:κ)(v:V):(putK kvs k v).length<=kvs.length+1:=by
 unfold putK;split
 .rw[YAb];omega
 .rw[YAk,YAy,List.length_nil];omega
def zp7{kvs:List (κ×V)}{k:κ}(v:V)(h:valV kvs k=none):putK kvs k v=kvs++[(k,v)]:=by
 unfold putK;rw[zf7,h];exact if_neg (by decide)
def RelO.isSome_eq(r:RelO o u):o.isSome=u.isSome:=by
 cases o with
 |none=>cases u with
  |none=>rfl
  |some _=>exact(show False from r).elim
 |some _=>cases u with
  |none=>exact(show False from r).elim
  |some _=>rfl
def KV.val{kvs:List (κ×V)}{vs:List (κ×Value)}(r:KV kvs vs)(k:κ):RelO (valV kvs k) (valueAt vs k):=by
 unfold KV at r
 induction r with
 |nil=>exact True.intro
 |@cons p q ps qs h t ih=>
  obtain⟨h1,h2⟩:=h;by_cases e:p.1=k
  .have e':q.1=k:=h1.symm.trans e;have b:valueAt (q::qs) k=some q.2:=by simp[valueAt,YBP,e']
   rw[ze5 e,b];exact h2
  .have e':¬ q.1=k:=λz=>e (h1.trans z);have b:valueAt (q::qs) k=valueAt qs k:=by simp[valueAt,YBP,e']
   rw[zeO e,b];exact ih
theorem KV.any(r:KV kvs vs)(k:κ):(kvs.any λkv=>decide (kv.1=k))=vs.any λkv=>decide (kv.1=k):=by
 unfold KV at r
 induction r with
 |nil=>rfl
 |cons h t ih=>rw[YB4,YB4,ih,h.1]
def KV.repl(r:KV kvs vs)(k:κ)(ry:RelV y u) :
  KV (kvs.map λkv=>if kv.1=k then(kv.1,y)else kv) (vs.map λkv=>if kv.1=k then(kv.1,u)else kv):=by
 unfold KV at r ⊢
 induction r with
 |nil=>exact .nil
 |@cons p q ps qs h t ih=>
  rw[YAm,YAm];refine .cons ?_ ih;obtain⟨h1,h2⟩:=h;by_cases e:p.1=k
  .rw[if_pos e,if_pos (h1.symm.trans e)];exact⟨h1,ry⟩
  .rw[if_neg e,if_neg (λz=>e (h1.trans z))];exact⟨h1,h2⟩
def KV.put(r:KV kvs vs)(k:κ)(ry:RelV y u):KV (putK kvs k y) (stored vs k u):=by
 unfold putK stored;rw[r.any k];by_cases e:(vs.any λkv=>decide (kv.1=k))=true
 .rw[if_pos e,if_pos e];exact r.repl k ry
 .rw[if_neg e,if_neg e];exact Paired.snoc r ⟨rfl,ry⟩
theorem KV.length(r:KV kvs vs):kvs.length=vs.length:=Paired.length r
end
def zkC(r:RelV (kV k) u):(za2 P w).is k u=true:=by
 cases k with
 |inl i=>obtain⟨t,e⟩:=(show ∃t,u=Value.int i t from r);subst e;exact zkB P w i t
 |inr x=>obtain⟨t,e⟩:=(show ∃t,u=Value.str x t from r);subst e;exact zkO P w x t
theorem ziJ :∀{ks:List Key}{us:List Value},Vals (ks.map kV) us->ItemsAre (za2 P w) ks us
 |[],_,r=>by rw[YBd]at r;cases r;exact .nil
 |k::ks,_,r=>by
  rw[YAm]at r;cases r with
  |cons h t=>exact .cons (zkC h) (ziJ t)
abbrev KT(H:Hp):List (List Key×V)->List (List Key×Addr×Value)->Prop:=Paired λp q=>p.1=q.1/\H q.2.1=some (.tup (p.1.map kV))/\RelV p.2 q.2.2
def KT.val{H:Hp}{kvs:List (List Key×V)}{xs:List (List Key×Addr×Value)}(r:KT H kvs xs)(k:List Key):RelO (valV kvs k) ((atKey xs k).map (·.2)):=by
 induction r with
 |nil=>exact True.intro
 |@cons p q ps qs h t ih=>
  obtain⟨h1,_,h2⟩:=h;by_cases e:p.1=k
  .have e':q.1=k:=h1.symm.trans e;have b:atKey (q::qs) k=some q.2:=by simp[atKey,YBP,e']
   rw[ze5 e,b];exact h2
  .have e':¬ q.1=k:=λz=>e (h1.trans z);have b:atKey (q::qs) k=atKey qs k:=by simp[atKey,YBP,e']
   rw[zeO e,b];exact ih
def KT.repl(r:KT H kvs xs)(k:List Key)(ry:RelV y u) :
  KT H (kvs.map λkv=>if kv.1=k then(kv.1,y)else kv) (xs.map (putAt k u)):=by
 induction r with
 |nil=>exact .nil
 |@cons p q ps qs h t ih=>
  rw[YAm,YAm];refine .cons ?_ ih;obtain⟨h1,h2,h3⟩:=h;unfold putAt;by_cases e:p.1=k
  .rw[if_pos e,if_pos (h1.symm.trans e)];exact⟨h1,h2,ry⟩
  .rw[if_neg e,if_neg (λz=>e (h1.trans z))];exact⟨h1,h2,h3⟩
def KT.put(r:KT H kvs xs)(k:List Key)(hb:H b=some (.tup (k.map kV)))(ry:RelV y u) :
  KT H (putK kvs k y) (storedH xs k b u):=by
 have e:(kvs.any λkv=>decide (kv.1=k))=(atKey xs k).isSome:=by
  rw[zf7,(r.val k).isSome_eq,YCS]
 unfold putK storedH;rw[e];by_cases q:(atKey xs k).isSome=true
 .rw[if_pos q,if_pos q];exact r.repl k ry
 .rw[if_neg q,if_neg q];exact Paired.snoc r ⟨rfl,hb,ry⟩
def KT.keeps(r:KT H kvs xs)(ht:∀b ys,H b=some (.tup ys)->H' b=some (.tup ys)):KT H' kvs xs:=
 Paired.mapP r λ_ _ z=>⟨z.1,ht _ _ z.2.1,z.2.2⟩
section
variable{P:Program}{w:World}{H:Hp}{h:Heap}{a:Addr}
def ztv(ok:HOk P w H h)(e:Rd H a u):ObjOk P w H h a u:=e.ok ok
def zjO(ok:HOk P w H h)(e:Rd H a (.dK kvs)):kvs.length<=sizeLine/\(a==sysModules)=false/\∃vs,KV kvs vs/\h.DictOf (za2 P w) a vs:=
 show ObjOk P w H h a (.dK kvs)from ztv ok e
def zut(ok:HOk P w H h)(e:H a=some (.dK kvs)):kvs.length<=sizeLine/\(a==sysModules)=false/\∃vs,KV kvs vs/\h.DictOf (za2 P w) a vs:=zjO ok (.inl e)
def zi0(ok:HOk P w H h)(e:H a=some (.tup (ks.map kV))):(tupleKind (za2 P w)).is h ks a:=by
 obtain⟨_,its,r,o,h1,h2,n,h3⟩:=(show ObjOk P w H h a (.tup (ks.map kV))from ok a _ e);exact⟨o,its.toArray,n,h1,h2,h3,by simpa using ziJ r⟩
def znA(ok:HOk P w H h)(e:Rd H a (.dT kvs)):kvs.length<=sizeLine/\(a==sysModules)=false /\
  ∃xs,KT H kvs xs/\h.DictOfH (tupleKind (za2 P w)) a xs:=by
 obtain⟨z,y,xs,r,o,es,ep,h1,h2,h3,h4,h5⟩:=(show ObjOk P w H h a (.dT kvs)from ztv ok e);refine⟨z,y,xs,r,o,es,ep,h1,h2,h3,h4,λx hx=>?_,h5⟩;have all:∀{l:List (List Key×V)}{m:List (List Key×Addr×Value)},KT H l m->∀x∈m,(tupleKind (za2 P w)).is h x.1 x.2.1:=by
  intro l m q
  induction q with
  |nil=>intro x hx;exact nomatch hx
  |@cons p q ps qs hq t ih=>
   intro x hx;rcases YAv.mp hx with e|hx
   .subst e;exact zi0 ok (by rw[<-hq.1];exact hq.2.1)
   .exact ih x hx
 exact all r x hx
def zu0(ok:HOk P w H h)(e:H a=some (.dT kvs)):kvs.length<=sizeLine/\(a==sysModules)=false /\
  ∃xs,KT H kvs xs/\h.DictOfH (tupleKind (za2 P w)) a xs:=znA ok (.inl e)
end
def DGet(H:Hp)(a:Addr)(y:V)(r:Option V):Prop:=
 (∃kvs k,Rd H a (.dK kvs)/\y=kV k/\r=valV kvs k)\/∃kvs k b,Rd H a (.dT kvs)/\y=.ref b/\H b=some (.tup (k.map kV))/\r=valV kvs k
def DPut(H:Hp)(a:Addr)(y v:V)(H':Hp):Prop:=
 (∃kvs k,H a=some (.dK kvs)/\y=kV k/\kvs.length<sizeLine/\H'=upd H a (.dK (putK kvs k v))) \/
 ∃kvs k b,H a=some (.dT kvs)/\y=.ref b/\H b=some (.tup (k.map kV))/\kvs.length<sizeLine/\H'=upd H a (.dT (putK kvs k v))
theorem DGet.k{H:Hp}{a:Addr}{kvs:List (Key×V)}{k:Key}(e:H a=some (.dK kvs)):DGet H a (kV k) (valV kvs k):=.inl ⟨kvs,k,.inl e,rfl,rfl⟩
theorem DPut.k{H:Hp}{a:Addr}{kvs:List (Key×V)}{k:Key}{v:V}(e:H a=some (.dK kvs))(hl:kvs.length<sizeLine):DPut H a (kV k) v (upd H a (.dK (putK kvs k v))):=.inl ⟨kvs,k,e,rfl,hl,rfl⟩
section
variable{X:Cx}{pins:List (Addr×Obj)}{Z:St}{H:Hp}{s:Shared}{a:Addr}{y v:V}{u r:Value}{o:Option V}{A:Around}{E:Value->Shared->Prop}
def Inv.big(I:Inv X pins Z H s):sysModules<s.heap.objs.size:=by
 have h:mainGlobals<s.heap.objs.size:=(I.mod.glob.keeps I.bk).lt;exact Nat.lt_trans (by decide) h
def ziX(hu:A.units+1<cLine)(I:Inv X pins Z H s)(g:DGet H a y (some v))(ry:RelV y u)(h:∀w' s',Inv X pins Z H s'->RelV v w'->Q w' s') :
  wpAny (model X.prog X.w) A (getItem (.ref a) u) Q E s:=by
 rcases g with⟨kvs,k,e,ey,l⟩|⟨kvs,k,b,e,ey,eb,l⟩
 .subst ey;obtain⟨z,hd,vs,rel,dd⟩:=zjO I.hok e;obtain⟨w',hw,rw'⟩:=RelO.some_of (v:=v) (o:=valueAt vs k) (by rw[l];exact rel.val k);exact wpAny_getItem_of (zkC ry) dd.mapOf hw (h w' _ (I.tok _) rw')
 .subst ey;cases (show u=Value.ref b from ry);obtain⟨z,hd,xs,rel,dd⟩:=znA I.hok e;obtain⟨w',hw,rw'⟩:=RelO.some_of (v:=v) (o:=(atKey xs k).map (·.2)) (by rw[l];exact rel.val k);obtain⟨p,hp,hp2⟩:=Option.map_eq_some_iff.mp hw;refine wpAny_getItem_heap (YB5 hu) (zi0 I.hok eb) dd hp ?_;rw[hp2];exact h w' _ (I.tok _) rw'
def d_in(hu:A.units+1<cLine)(I:Inv X pins Z H s)(g:DGet H a y o)(ry:RelV y u)(h:∀s',Inv X pins Z H s'->Q (.bool o.isSome) s') :
  wpAny (model X.prog X.w) A (compareOp .In u (.ref a)) Q E s:=by
 rcases g with⟨kvs,k,e,ey,l⟩|⟨kvs,k,b,e,ey,eb,l⟩
 .subst ey;obtain⟨z,hd,vs,rel,dd⟩:=zjO I.hok e;refine wpAny_in_of (zkC ry) hd dd.mapOf ?_;rw[<-(rel.val k).isSome_eq,<-l];exact h _ (I.tok _)
 .subst ey;cases (show u=Value.ref b from ry);obtain⟨z,hd,xs,rel,dd⟩:=znA I.hok e;refine wpAny_in_heap (YB5 hu) (zi0 I.hok eb) hd dd ?_;have q:=(rel.val k).isSome_eq;rw[YCS]at q;rw[<-q,<-l];exact h _ (I.tok _)
def zr6(hu:A.units+1<cLine)(I:Inv X pins Z H s)(g:DGet H a y o)(ry:RelV y u)(h:∀s',Inv X pins Z H s'->Q (.bool (!o.isSome)) s') :
  wpAny (model X.prog X.w) A (compareOp .NotIn u (.ref a)) Q E s:=by
 rcases g with⟨kvs,k,e,ey,l⟩|⟨kvs,k,b,e,ey,eb,l⟩
 .subst ey;obtain⟨z,hd,vs,rel,dd⟩:=zjO I.hok e;refine wpAny_notIn_of (zkC ry) hd dd.mapOf ?_;rw[<-(rel.val k).isSome_eq,<-l];exact h _ (I.tok _)
 .subst ey;cases (show u=Value.ref b from ry);obtain⟨z,hd,xs,rel,dd⟩:=znA I.hok e;refine wpAny_notIn_heap (YB5 hu) (zi0 I.hok eb) hd dd ?_;have q:=(rel.val k).isSome_eq;rw[YCS]at q;rw[<-q,<-l];exact h _ (I.tok _)
def zkf(I:Inv X pins Z H s)(mu:Mut (H a))(hs:Heap.SameBut a s.heap h')(he:∃q,h'.get? a=some q)(new:ObjOk X.prog X.w (upd H a ob) h' a ob) :
  Inv X pins Z (upd H a ob) {s with heap:=h',toks:=t'}:=
 I.write (x:=a) (e:=a) mu (.inl rfl) (λb q hb z=>(hs.2 b hb).trans z) he new
def zmS(z:kvs.length<=sizeLine)(hd:(a==sysModules)=false)(rel:KV kvs vs)(dd:h'.DictOf (za2 P w) a vs) :
  ObjOk P w H' h' a (.dK kvs):=⟨z,hd,vs,rel,dd⟩
def zj0(hu:A.units+1<cLine)(I:Inv X pins Z H s)(g:DPut H a y v H')(ry:RelV y u)(rv:RelV v r)(h:∀s',Inv X pins Z H' s'->Q () s') :
  wpAny (model X.prog X.w) A (setItem (.ref a) u r) Q E s:=by
 rcases g with⟨kvs,k,e,ey,l,eH⟩|⟨kvs,k,b,e,ey,eb,l,eH⟩
 .subst ey eH;obtain⟨z,hd,vs,rel,dd⟩:=zut I.hok e;have hz:vs.length<=sizeLine:=by rw[<-rel.length];exact z
  have hl:(putK kvs k v).length<=sizeLine:=by have:=zez kvs k v;omega
  refine wpAny_setItem_pairs (hsz:=hz) (zkC ry) dd λh' dd' hs=>h _ ?_;have he:∃q,h'.get? a=some q:=let⟨q,_,_,hq,_⟩:=dd';⟨q,hq⟩
  exact zkf I (by rw[e];exact True.intro) hs he (zmS hl hd (rel.put k rv) dd')
 .subst ey eH;cases (show u=Value.ref b from ry);obtain⟨z,hd,xs,rel,dd⟩:=zu0 I.hok e;have hz:xs.length<=sizeLine:=by rw[<-Paired.length rel];exact z
  have hl:(putK kvs k v).length<=sizeLine:=by have:=zez kvs k v;omega
  refine wpAny_setItem_heap (hsz:=hz) (YB5 hu) (zi0 I.hok eb) dd λh' dd' hs=>h _ ?_;obtain⟨q,es,ep,hq,h2,h3,h4,_,h5⟩:=dd';refine zkf I (by rw[e];exact True.intro) hs ⟨q,hq⟩ ⟨hl,hd,_,(rel.put k eb rv).keeps λc ys ec=>?_,q,es,ep,hq,h2,h3,h4,h5⟩;rw[upd_ne (zu5 ec e (λz=>nomatch z))];exact ec
end
section
variable{X:Cx}{pins:List (Addr×Obj)}{Z:St}{H:Hp}{s:Shared}{a:Addr}{kvs:List (Key×V)}{k:Key}{u:Value}{A:Around}{E:Value->Shared->Prop}
def zvH(I:Inv X pins Z H s)(e:Rd H a (.dK kvs))(h:∀t s',Inv X pins Z H s'->Q (.int kvs.length t) s'):wpAny (model X.prog X.w) A (call (.builtin "len") [.ref a]) Q E s:=by
 obtain⟨z,hd,vs,rel,dd⟩:=zjO I.hok e;refine call_len_dict hd dd (by rw[<-rel.length];rw[YAX]at z;omega) ?_;rw[<-rel.length];exact h _ _ (I.tok _)
end
def NoSl(i:Expr):Prop:=∀ov iv,subscripted i false ov iv=operate [ov,iv] (getItem ov iv)
def zng{prog:Program}{w:World}{A:Around}{E:Value->Shared->Prop}{s:Shared}{env:Env}{value slice:Expr}{pos:Pos}{T id:String}{Q:Value->Shared->Prop}
  (hl:typeLookup (.type T) "__getitem__"=pure (some (.builtin id))) (hs:NoSl slice)
  (h:wpAny (model prog w) A (eval value env) (λo s₁=>wpAny (model prog w) A (eval slice env) (λi s₂=>s₂.TypeIs o T/\wpAny (model prog w) A (getItem o i) Q E s₂) E s₁) E s) :
  wpAny (model prog w) A (eval (.Subscript value slice pos) env) Q E s:=by
 refine Subscript_ (YAT h (λo s₁ h₁=>YAT h₁ (λi s₂ h₂=>?_) λ_ _ x=>x) λ_ _ x=>x);obtain⟨hT,h₂⟩:=h₂;unfold subscriptTail;refine YAa ?_;rw[getitemInPython_of_ne hT.not_modules];refine YAa (YC6 hT hl ?_);have fin:wpAny (model prog w) A (subscripted slice false o i) (λr s₃=>wpAny (model prog w) A (letTemporaryGo value o r >>=λ_=>pure r) Q E s₃) E s₂:=by
  rw[hs o i];exact wpAny_operating (YAT h₂ (λr s₃ h₃=>YAa (wpAny_letTemporaryGo (YAd h₃))) λ_ _ x=>x)
 first
  |exact YAd (YAa fin)
  |exact YAa (YAd (YAa fin))
  |exact YAa fin
def zkw(I:Inv X pins Z H s)(g:DGet H a y o):s.TypeIs (.ref a) "dict":=by
 rcases g with⟨kvs,k,e,_,_⟩|⟨kvs,k,b,e,_,_,_⟩
 .obtain⟨_,_,vs,_,dd⟩:=zjO I.hok e;exact dd.typeIs
 .obtain⟨_,_,xs,_,dd⟩:=znA I.hok e;exact dd.typeIs
def zvk(td ty:TE):TE:=λZ H Q=>td Z H λx H1=>ty Z H1 λy H2=>∃a v,x=.ref a/\DGet H2 a y (some v)/\Q v H2
def tDIn(ty td:TE):TE:=λZ H Q=>ty Z H λy H1=>td Z H1 λx H2=>∃a o,x=.ref a/\DGet H2 a y o/\Q (.bl o.isSome) H2
def zrr(ty td:TE):TE:=λZ H Q=>ty Z H λy H1=>td Z H1 λx H2=>∃a o,x=.ref a/\DGet H2 a y o/\Q (.bl (!o.isSome)) H2
def zvA(td ty tv:TE):TS:=λD Z H=>tv Z H λv H1=>td Z H1 λx H2=>ty Z H2 λy H3=>∃a H4,x=.ref a/\DPut H3 a y v H4/\D.nx Z H4
def zvz(td ty tv:TE)(rd:V->V->Hp->VK->Prop):TS:=λD Z H=>td Z H λx H1=>ty Z H1 λy H2=>∃a v,x=.ref a/\DGet H2 a y (some v) /\
 tv Z H2 λy2 H3=>rd v y2 H3 λz H4=>∃H5,DPut H4 a y z H5/\D.nx Z H5
section
variable{X:Cx}{o i e value:Expr}{pos pos' tpos:Pos}{td ty tv:TE}
def znS(hu:X.A.units+1<cLine)(ho:PE X o td)(hi:PE X i ty)(hs:NoSl i):PE X (.Subscript o i pos) (zvk td ty):=by
 intro pins s Z H Q I h;refine zng PySem.F.slot_dict_getitem.lookup hs (thn (ho pins s Z H _ I h) λu s1 ⟨x,H1,I1,rx,q1⟩=>thn (hi pins s1 Z H1 _ I1 q1) λiv s2 ⟨y,H2,I2,ry,a,v,ex,g,q2⟩=>?_);subst ex;obtain rfl:u=Value.ref a:=rx;exact⟨zkw I2 g,ziX hu I2 g ry λw' s3 I3 rw'=>⟨v,H2,I3,rw',q2⟩⟩
def ztR(hu:X.A.units+1<cLine)(hi:PE X i ty)(ho:PE X o td):PC X .In i o (tDIn ty td):=by
 intro pins s Z H Q I h;refine thn (hi pins s Z H _ I h) λiv s1 ⟨y,H1,I1,ry,q1⟩=>thn (ho pins s1 Z H1 _ I1 q1) λu s2 ⟨x,H2,I2,rx,a,ov,ex,g,q2⟩=>?_;subst ex;obtain rfl:u=Value.ref a:=rx;exact d_in hu I2 g ry λs3 I3=>⟨.bl ov.isSome,H2,I3,rfl,q2⟩
def zoc(hu:X.A.units+1<cLine)(hi:PE X i ty)(ho:PE X o td):PC X .NotIn i o (zrr ty td):=by
 intro pins s Z H Q I h;refine thn (hi pins s Z H _ I h) λiv s1 ⟨y,H1,I1,ry,q1⟩=>thn (ho pins s1 Z H1 _ I1 q1) λu s2 ⟨x,H2,I2,rx,a,ov,ex,g,q2⟩=>?_;subst ex;obtain rfl:u=Value.ref a:=rx;exact zr6 hu I2 g ry λs3 I3=>⟨.bl (!ov.isSome),H2,I3,rfl,q2⟩
def zkv(hu:X.A.units+1<cLine)(ho:PE X o td)(hi:PE X i ty)(hv:PE X value tv)(hs:swapsWith value (some (.Subscript o i pos')) pos.line X.env=pure false) :
  PS X (.Assign [.Subscript o i pos'] value pos) (zvA td ty tv):=by
 intro pins s Z H D I h;refine wpAny_Assign_Subscript (thn (hv pins s Z H _ I h) λr s1 ⟨v,H1,I1,rv,q1⟩=>thn (ho pins s1 Z H1 _ I1 q1) λu s2 ⟨x,H2,I2,rx,q2⟩=>thn (hi pins s2 Z H2 _ I2 q2) λiv s3 ⟨y,H3,I3,ry,a,H4,ex,g,q3⟩=>?_) hs;subst ex;obtain rfl:u=Value.ref a:=rx;exact zj0 hu I3 g ry rv λs4 I4=>⟨Z,H4,I4,q3⟩
def zsf(hu:X.A.units+1<cLine)(ho:PE X o td)(hi:PE X i ty)(hv:PE X value tv)(hop:InOp X op rd)
  (ha:∀ov iv new,augStore i ov iv new=(do holding [new,ov,iv] (setItem ov iv new);release [new,ov,iv] [];pure .next)):PS X (.AugAssign (.Subscript o i tpos) op value pos) (zvz td ty tv rd):=by
 intro pins s Z H D I h;refine wpAny_AugAssign_SubscriptAny (thn (ho pins s Z H _ I h) λu s1 ⟨x,H1,I1,rx,q1⟩=>thn (hi pins s1 Z H1 _ I1 q1) λiv s2 ⟨y,H2,I2,ry,a,v,ex,g,q2⟩=>?_) ha;subst ex;obtain rfl:u=Value.ref a:=rx;refine ziX hu I2 g ry λw' s3 I3 rw'=>thn (hv pins s3 Z H2 _ I3 q2) λw2 s4 ⟨y2,H3,I4,ry2,q3⟩=>thn (hop pins s4 Z H3 v y2 w' w2 _ I4 rw' ry2 q3) λw3 s5 ⟨z,H4,I5,rz,H5,g5,q4⟩=>?_;exact zj0 hu I5 g5 ry rz λs6 I6=>⟨Z,H5,I6,q4⟩
end
def zlC(h:Heap)(hb:sysModules<h.objs.size):ObjOk P w H (h.push {cls:=.type "dict",data:=.dict #[]}) h.objs.size (.dK []):=
 ⟨YBI _,YAU.mpr (YAK (YAs hb)),[],.nil,Heap.DictOf.new h⟩
def zuL:TE:=λ_ H Q=>∀p,H p=none->Q (.ref p) (upd H p (.dK []))
section
variable{X:Cx}{pos:Pos}
def zpv:PE X (.Dict [] [] pos) zuL:=λpins s Z H Q I h=>
 wpAny_Dict_empty ⟨.ref s.heap.objs.size,_,I.laid (a:=s.heap.objs.size) (o:=.dK []) (t':=s.toks) (λ_ _ q=>YAc _ q) (YAo _) (zlC s.heap I.big),rfl,h _ (I.hok.fresh (YAo _))⟩
end
def zlJ:List (TE×TE)->St->Hp->(List (V×V)->Hp->Prop)->Prop
 |[],_,H,Q=>Q [] H
 | (tk,tv)::r,Z,H,Q=>tk Z H λx H1=>tv Z H1 λy H2=>zlJ r Z H2 λps H3=>Q ((x,y)::ps) H3
abbrev VV:List (V×V)->List (Value×Value)->Prop:=Paired λp q=>RelV p.1 q.1/\RelV p.2 q.2
noncomputable def PPs(X:Cx)(pos:Pos)(keys:List (Option Expr))(values:List Expr)(trs:List (TE×TE)):Prop:=
 ∀(pins:List (Addr×Obj))(s:Shared)(Z:St)(H:Hp)(Q:List (V×V)->Hp->Prop),Inv X pins Z H s->zlJ trs Z H Q ->
  wpAny (model X.prog X.w) X.A (evalPairs (pairTrees keys values X.env pos)) (λvs s'=>∃ps H',Inv X pins Z H' s'/\VV ps vs/\Q ps H') X.xe s
def zsH:PPs X pos [] [] []:=λpins s Z H Q I h=>pairTrees_nil_walk ⟨[],H,I,.nil,h⟩
def zpC(hk:PE X k tk)(hv:PE X v tv)(hr:PPs X pos ks vs trs) :
  PPs X pos (some k::ks) (v::vs) ((tk,tv)::trs):=λpins s Z H Q I h=>
 pairTrees_cons_walk (thn (hk pins s Z H _ I h) λu s1 ⟨x,H1,I1,rx,q1⟩=>thn (hv pins s1 Z H1 _ I1 q1) λw2 s2 ⟨y,H2,I2,ry,q2⟩=>
  thn (hr pins s2 Z H2 _ I2 q2) λws s3 ⟨ps,H3,I3,rel,q3⟩=>⟨(x,y)::ps,H3,I3,.cons ⟨rx,ry⟩ rel,q3⟩)
def zfP(kvs more:List (Key×V)):List (Key×V):=more.foldl (λacc kv=>putK acc kv.1 kv.2) kvs
def KV.merge:∀{more:List (Key×V)}{rs:List (Key×Value)}{kvs:List (Key×V)}{vs:List (Key×Value)},KV more rs->KV kvs vs->KV (zfP kvs more) (merged vs rs):=by
 intro more rs kvs vs r;unfold KV at r
 induction r generalizing kvs vs with
 |nil=>intro q;exact q
 |@cons p q ps qs h t ih=>
  intro r0;have e:KV (putK kvs p.1 p.2) (stored vs q.1 q.2):=by
   have:=r0.put p.1 h.2
   rw[<-h.1];exact this
  exact ih e
theorem ze3:∀(more kvs:List (Key×V)),(zfP kvs more).length<=kvs.length+more.length
 |[],kvs=>by show kvs.length<=kvs.length+0;omega
 |p::r,kvs=>by
  have h1:=ze3 r (putK kvs p.1 p.2);have h2:=zez kvs p.1 p.2;show(zfP (putK kvs p.1 p.2) r).length<=_;rw[YAy];omega
theorem zhk :∀{kvs:List (Key×V)}{ws:List (Value×Value)},VV (kvs.map λkv=>(kV kv.1,kv.2)) ws->∃rs,Carries (za2 P w) ws rs/\KV kvs rs
 |[],_,r=>by rw[YBd]at r;cases r;exact⟨[],True.intro,.nil⟩
 |p::kvs,_,r=>by
  rw[YAm]at r;cases r with
  |@cons a b as bs h t=>
   obtain⟨rs,c,q⟩:=zhk (P:=P) (w:=w) t;obtain⟨b1,b2⟩:=b;exact⟨(p.1,b2)::rs,⟨zkC h.1,rfl,c⟩,.cons ⟨rfl,h.2⟩ q⟩
def zvI(trs:List (TE×TE)):TE:=λZ H Q=>∀p,H p=none->zlJ trs Z (upd H p (.dK [])) λps H2=>H2 p=some (.dK [])/\∃kvs:List (Key×V),ps=kvs.map (λkv=>(kV kv.1,kv.2))/\kvs.length<=15/\Q (.ref p) (upd H2 p (.dK (zfP [] kvs)))
def zsc(h:PPs X pos keys values trs)(hall:keys.all (·.isSome)=true)(hl:keys.length=values.length)(h0:keys≠[])
  (h15:keys.length<=15):PE X (.Dict keys values pos) (zvI trs):=by
 intro pins s Z H Q I q;have hn:=I.hok.fresh (YAo s.heap.objs.size);have I1:=I.laid (a:=s.heap.objs.size) (o:=.dK []) (h':=s.heap.push {cls:=.type "dict",data:=.dict #[]}) (t':=s.toks) (λ_ _ q=>YAc _ q) (YAo _) (zlC s.heap I.big);refine wpAny_Dict_walk (knd:=za2 X.prog X.w) hall hl h0 h15 (thn (h pins _ Z _ _ I1 (q _ hn)) λws s2 ⟨ps,H2,I2,rel,e,kvs,ep,lk,q2⟩=>?_);subst ep;obtain⟨rs,c,rk⟩:=zhk (P:=X.prog) (w:=X.w) rel;obtain⟨z,hd,vs0,r0,dd⟩:=zut I2.hok e;cases r0;refine⟨rs,c,dd,λh' dd' hs=>⟨.ref s.heap.objs.size,_,?_,rfl,q2⟩⟩;have hz:(zfP [] kvs).length<=sizeLine:=by
  have h1:=ze3 kvs [];rw[List.length_nil]at h1;rw[YAX];omega
 have he:∃q,h'.get? s.heap.objs.size=some q:=let⟨q,_,_,hq,_⟩:=dd';⟨q,hq⟩
 exact zkf I2 (by rw[e];exact True.intro) hs he (zmS hz hd (rk.merge .nil) dd')
section
variable{X:Cx}{pins:List (Addr×Obj)}{Z:St}{H:Hp}{s:Shared}{a:Addr}{kvs:List (Key×V)}{A:Around}{E:Value->Shared->Prop}
def zpl(I:Inv X pins Z H s)(e:Rd H a (.dK kvs))(h:∀p s',H p=none->Inv X pins Z (upd H p (.dK kvs)) s'->Q (.ref p) s'):wpAny (model X.prog X.w) A (call (.type "dict") [.ref a]) Q E s:=by
 obtain⟨z,hd,vs,rel,dd⟩:=zjO I.hok e;refine kt_call_dict hd dd (by rw[<-rel.length];exact z) λh' dd' hs=>?_;refine h _ _ (I.hok.fresh (YAo _)) (I.laid (a:=s.heap.objs.size) (o:=.dK kvs) (t':=s.toks) (λb q hq=>?_) (YAo _) (zmS z (YAU.mpr (YAK (YAs I.big))) rel dd'));exact(hs.2 b (YAs (YAh hq))).trans (YAc _ hq)
end
section
variable{κ:Type}[DecidableEq κ]
def zsi{kvs:List (κ×V)}{k:κ}{v:V}(h:valV kvs k=some v):k∈kvs.map (·.1):=by
 have q:(kvs.any λkv=>decide (kv.1=k))=true:=by
  rw[zf7,h]
  all_goals rfl
 obtain⟨p,hp,e⟩:=List.any_eq_true.mp q;exact YAM.mpr ⟨p,hp,YAD e⟩
end
end L2
set_option maxHeartbeats 4000000
namespace L2
open PySem PySem.Spec PyProof.Rows
def zt6(Z:St):Option Nat->Option V
 |none=>none
 |some j=>(Z[j]?).join
def zd7(sub:List (Option Nat))(Z:St):St:=sub.map (zt6 Z)
def zja(sub:List (Option Nat))(Z:St):(zd7 sub Z).length=sub.length:=by unfold zd7;simp
def zj5{sub:List (Option Nat)}{Z:St}{i:Nat}{v:V}(h:(zd7 sub Z)[i]?=some (some v)):∃j,sub[i]?=some (some j)/\Z[j]?=some (some v):=by
 unfold zd7 at h;rw[YAu]at h;cases e:sub[i]? with
 |none=>rw[e]at h;cases h
 |some o=>
  rw[e]at h;have h':zt6 Z o=some v:=Option.some.inj h;cases o with
  |none=>cases h'
  |some j=>
   refine⟨j,rfl,?_⟩;have h2:(Z[j]?).join=some v:=h';cases e2:Z[j]? with
   |none=>rw[e2]at h2;cases h2
   |some w=>rw[e2]at h2;exact congrArg some h2
noncomputable def zhr(N:List Str)(osc sc:Scope)(Nc:List Str)(sub:List (Option Nat)):Bool:=
 decide (sc.kind=.function)&&sc.names.all (λy=>decide (y.2≠.cell))&&sc.names.all (λy=>!decide (y.2=.local) || decide (sc.names.lookup y.1=some .local))&&decide (sub.length=Nc.length) &&
 (Nc.zip sub).all (λp=>match p.2 with|none=>true|some j=>decide (N[j]?=some p.1)&&decide (sc.names.lookup p.1=some .free)) &&
 sc.names.all (λy=>!decide (y.2=.free) || (decide (osc.names.lookup y.1=some .cell) || decide (osc.names.lookup y.1=some .free)))
structure CompScope(N:List Str)(osc sc:Scope)(Nc:List Str)(sub:List (Option Nat)):Prop where
 kind:sc.kind=.function
 nocell:∀y∈sc.names,y.2≠.cell
 names:∀y∈sc.names,y.2=.local->sc.names.lookup y.1=some .local
 len:sub.length=Nc.length
 vis:∀(i j:Nat)(x:Str),Nc[i]?=some x->sub[i]?=some (some j)->N[j]?=some x/\sc.names.lookup x=some .free
 frees:∀y∈sc.names,y.2=.free->osc.names.lookup y.1=some .cell\/osc.names.lookup y.1=some .free
def CompScope.of{N:List Str}{osc sc:Scope}{Nc:List Str}{sub:List (Option Nat)}(h:zhr N osc sc Nc sub=true):CompScope N osc sc Nc sub:=by
 unfold zhr at h;simp only[YAA,YBx,YBf,Bool.or_eq_true,Bool.not_eq_true',YB6]at h;obtain⟨⟨⟨⟨⟨h1,h2⟩,h3⟩,h4⟩,h5⟩,h6⟩:=h;refine⟨h1,h2,λy hy e=>(h3 y hy).elim (λz=>absurd e z) id,h4,λi j x e1 e2=>?_,λy hy e=>(h6 y hy).elim (λz=>absurd e z) id⟩;have hz:(Nc.zip sub)[i]?=some (x,some j):=by
  rw[List.getElem?_zip_eq_some];exact⟨e1,e2⟩
 have q:=h5 (x,some j) (YCu hz);simp only[YAA,YBf]at q;exact q
def clOf(cells:List (Str×Addr)):List (Str×NameKind)->List (Str×Addr)->List (Str×Addr)
 |[],acc=>acc
 | (n,k)::r,acc=>clOf cells r (if k=.free then(n,(cells.lookup n).getD 0)::acc else acc)
def zim:∀(names:List (Str×NameKind))(acc:List (Str×Addr)),(∀y∈names,y.2=.free->∃c,env.cells.lookup y.1=some c) ->
  (forIn names acc λx r=>match x with|(name,kind)=>if (kind==NameKind.free)=true then do let a <-cellOf env name;pure (ForInStep.yield ((name,a)::r))else pure (ForInStep.yield r):Sem (List (Str×Addr)))=pure (clOf env.cells names acc):=by
 intro names
 induction names with
 |nil=>intro acc _;rfl
 |cons y r ih=>
  intro acc h;obtain⟨n,k⟩:=y;have ih':=ih (if k=.free then(n,(env.cells.lookup n).getD 0)::acc else acc) λy hy=>h y (YAj _ hy);rw[YCE];by_cases hk:k=.free
  .subst hk;obtain⟨c,hc⟩:=h (n,.free) YAg rfl;have e1:cellOf env n=pure c:=by unfold cellOf;rw[hc]
   simp only[beq_self_eq_true,YCL,e1,pure_bind];unfold clOf;rw[hc]at ih' ⊢
   simpa using ih'
  .have hb:(k==NameKind.free)=false:=by simpa using hk
   simp only[hb,YBA,YCk,pure_bind];unfold clOf;rw[if_neg hk]at ih' ⊢;exact ih'
def zo1:∀(names:List (Str×NameKind))(acc:List (Str×Addr)),(∀y∈names,y.2=.free->∃c,cells.lookup y.1=some c)->(∀p∈acc,cells.lookup p.1=some p.2) ->
  ∀p∈clOf cells names acc,cells.lookup p.1=some p.2:=by
 intro names
 induction names with
 |nil=>intro acc _ h;exact h
 |cons y r ih=>
  intro acc h ha;obtain⟨n,k⟩:=y;refine ih _ (λy hy=>h y (YAj _ hy)) ?_;by_cases hk:k=.free
  .rw[if_pos hk];intro p hp;rcases YAv.mp hp with e|e
   .subst e;obtain⟨c,hc⟩:=h (n,k) YAg hk;show cells.lookup n=some ((cells.lookup n).getD 0);have hc':cells.lookup n=some c:=hc;rw[hc'];rfl
   .exact ha p e
  .rw[if_neg hk];exact ha
def zoB :∀(names:List (Str×NameKind))(acc:List (Str×Addr)),p∈acc->p∈clOf cells names acc:=by
 intro names
 induction names with
 |nil=>intro acc h;exact h
 |cons y r ih=>
  intro acc h;obtain⟨n,k⟩:=y;refine ih _ ?_;by_cases hk:k=.free
  .rw[if_pos hk];exact YAj _ h
  .rw[if_neg hk];exact h
def zpO :∀(names:List (Str×NameKind))(acc:List (Str×Addr)),(x,NameKind.free)∈names->∃c,(x,c)∈clOf cells names acc:=by
 intro names
 induction names with
 |nil=>intro acc h;cases h
 |cons y r ih=>
  intro acc h;obtain⟨n,k⟩:=y;rcases YAv.mp h with e|e
  .cases e;refine⟨(cells.lookup x).getD 0,?_⟩;unfold clOf;refine zoB _ _ ?_;rw[if_pos rfl];exact YAg
  .exact ih _ e
theorem zeQ{α:Type}{x:Str}{c:α}:∀{l:List (Str×α)},(x,c)∈l->∃d,l.lookup x=some d
 |[],h=>by cases h
 | (y,d)::r,h=>by
  by_cases e:x=y
  .subst e;exact⟨d,by simp[List.lookup]⟩
  .have hb:(x==y)=false:=YAU.mpr e;rcases YAv.mp h with q|q
   .cases q;exact absurd rfl e
   .obtain⟨d',q'⟩:=zeQ q;exact⟨d',by simp only[List.lookup,hb];exact q'⟩
def zd8(h:∀y∈scope.names,y.2=.free->∃c,env.cells.lookup y.1=some c) :
  ∃cl,closureFor scope env=pure cl/\(∀x c,cl.lookup x=some c->env.cells.lookup x=some c)/\∀x,scope.names.lookup x=some .free->∃c,cl.lookup x=some c:=by
 refine⟨clOf env.cells scope.names [],?_,λx c e=>?_,λx e=>?_⟩
 .unfold closureFor;show(forIn scope.names ([]:List (Str×Addr)) (λx r=>match x with|(name,kind)=>if (kind==NameKind.free)=true then do let a <-cellOf env name;pure (ForInStep.yield ((name,a)::r))else pure (ForInStep.yield r)) >>=λcs=>pure cs:Sem (List (Str×Addr)))=_;rw[zim scope.names [] h,pure_bind]
 .exact zo1 scope.names [] h (λp hp=>nomatch hp) (x,c) (YA7 e)
 .obtain⟨c,hc⟩:=zpO (cells:=env.cells) scope.names [] (YA7 e);exact zeQ hc
theorem zcL{env:Env}:∀{names:List (Str×NameKind)}{x:Str},names.lookup x=some .free ->
  (names.map λ(n,k)=>if (k==NameKind.free&&env.scope.kind==.function&&env.kindOf n==some .cell)then(n,NameKind.cell)else(n,k)).lookup x=some .cell \/
  (names.map λ(n,k)=>if (k==NameKind.free&&env.scope.kind==.function&&env.kindOf n==some .cell)then(n,NameKind.cell)else(n,k)).lookup x=some .free
 |[],_,h=>by simp at h
 | (n,k)::r,x,h=>by
  have ih:=@zcL env r x;show List.lookup x ((if (k==NameKind.free&&env.scope.kind==.function&&env.kindOf n==some .cell)=true then(n,NameKind.cell)else(n,k))::_)=_\/List.lookup x ((if (k==NameKind.free&&env.scope.kind==.function&&env.kindOf n==some .cell)=true then(n,NameKind.cell)else(n,k))::_)=_;cases hx:x==n with
  |true=>
   simp only[YAO,hx]at h;cases h;by_cases hc:(NameKind.free==NameKind.free&&env.scope.kind==.function&&env.kindOf n==some .cell)=true
   .rw[if_pos hc];left;simp only[YAO,hx]
   .rw[if_neg hc];right;simp only[YAO,hx]
  |false=>
   simp only[YAO,hx]at h;by_cases hc:(k==NameKind.free&&env.scope.kind==.function&&env.kindOf n==some .cell)=true
   .rw[if_pos hc];simp only[YAO,hx];exact ih h
   .rw[if_neg hc];simp only[YAO,hx];exact ih h
theorem zdN{env:Env}:∀{names:List (Str×NameKind)}{x:Str},(∀y∈names,y.2≠.cell) ->
  ((names.map λ(n,k)=>if (k==NameKind.free&&env.scope.kind==.function&&env.kindOf n==some .cell)then(n,NameKind.cell)else(n,k)).lookup x=some .cell \/
  (names.map λ(n,k)=>if (k==NameKind.free&&env.scope.kind==.function&&env.kindOf n==some .cell)then(n,NameKind.cell)else(n,k)).lookup x=some .free)->names.lookup x=some .free
 |[],_,_,h=>by simp at h
 | (n,k)::r,x,nc,h=>by
  have ih:=@zdN env r x λy hy=>nc y (YAj _ hy);have nk:k≠.cell:=nc (n,k) YAg;have h':List.lookup x ((if (k==NameKind.free&&env.scope.kind==.function&&env.kindOf n==some .cell)=true then(n,NameKind.cell)else(n,k))::(r.map λ(n,k)=>if (k==NameKind.free&&env.scope.kind==.function&&env.kindOf n==some .cell)then(n,NameKind.cell)else(n,k)))=some .cell\/List.lookup x ((if (k==NameKind.free&&env.scope.kind==.function&&env.kindOf n==some .cell)=true then(n,NameKind.cell)else(n,k))::(r.map λ(n,k)=>if (k==NameKind.free&&env.scope.kind==.function&&env.kindOf n==some .cell)then(n,NameKind.cell)else(n,k)))=some .free:=h;clear h;by_cases hc:(k==NameKind.free&&env.scope.kind==.function&&env.kindOf n==some .cell)=true
  .rw[if_pos hc]at h';have kf:k=.free:=by
    rw[YAA,YAA]at hc;exact YCf.mp hc.1.1
   cases hx:x==n with
   |true=>simp only[YAO,hx];rw[kf]
   |false=>simp only[YAO,hx]at h' ⊢;exact ih h'
  .rw[if_neg hc]at h';cases hx:x==n with
   |true=>
    simp only[YAO,hx]at h' ⊢;rcases h' with e|e
    .exact absurd (Option.some.inj e) nk
    .exact e
   |false=>simp only[YAO,hx]at h' ⊢;exact ih h'
def zaL(X:Cx)(Nc:List Str)(scope:Scope)(cl:List (Str×Addr))(L:Addr)(s₀:Shared)(H₀:Hp)(ex:List Addr):Cx:=
 {X with N:=Nc,s₀:=s₀,H₀:=H₀,env:=compEnvC scope cl L X.env,outer:=X.stack,ex:=ex,fn:=λ_=>false,pn:=[],xe:=λ_ _=>False}
def zj2(sub:List (Option Nat))(g:TG):Prop:=∀v Z H (Q:St->Hp->Prop),g v Z H Q->g v Z H λZ2 H2=>Q Z2 H2/\∀(i j:Nat),sub[i]?=some (some j)->Z2[i]?=Z[i]?
def zjq(sub:List (Option Nat))(g:TGs):Prop:=∀v Z H (Q:St->Hp->Prop),g v Z H Q->g v Z H λZ2 H2=>Q Z2 H2/\∀(i j:Nat),sub[i]?=some (some j)->Z2[i]?=Z[i]?
def zrd(h:sub[i]?=some none):zj2 sub (zjR i):=λv Z H Q q=>by
 refine⟨q,λk j e=>?_⟩;have ne:i≠k:=λz=>by subst z;rw[h]at e;cases e
 rw[YAl ne]
def zrh:zjq sub gNil:=λ_ _ _ _ ⟨e,q⟩=>⟨e,q,λ_ _ _=>rfl⟩
def zh6(g:TG):Prop:=∀v Z H (Q Q':St->Hp->Prop),(∀ Z2 H2,Q Z2 H2->Q' Z2 H2)->g v Z H Q->g v Z H Q'
def zhe(g:TGs):Prop:=∀v Z H (Q Q':St->Hp->Prop),(∀ Z2 H2,Q Z2 H2->Q' Z2 H2)->g v Z H Q->g v Z H Q'
def zrD:zh6 (zjR i):=λ_ _ _ _ _ f q=>f _ _ q
def zrA:zhe gNil:=λ_ _ _ _ _ f ⟨e,q⟩=>⟨e,f _ _ q⟩
def zpd(h1:zh6 t)(h2:zhe u):zhe (zp0 t u):=λv Z H Q Q' f ⟨x,r,e,q⟩=>⟨x,r,e,h1 _ _ _ _ _ (λZ2 H2 z=>h2 _ _ _ _ _ f z) q⟩
def zpu(h1:zj2 sub t)(m1:zh6 t)(h2:zjq sub u)(m2:zhe u):zjq sub (zp0 t u):=λv Z H Q ⟨x,r,e,q⟩=>by
 refine⟨x,r,e,?_⟩;refine m1 _ _ _ _ _ (λZ2 H2 z=>?_) (h1 _ _ _ _ q);obtain⟨z,k⟩:=z;refine m2 _ _ _ _ _ (λZ3 H3 y=>?_) (h2 _ _ _ _ z);exact⟨y.1,λi j e=>(y.2 i j e).trans (k i j e)⟩
noncomputable def PIfs(X:Cx)(ifs:List Expr)(t:TT):Prop:=
 ∀(pins:List (Addr×Obj))(s:Shared)(Z:St)(H:Hp)(Q:Bool->Hp->Prop),Inv X pins Z H s->t Z H Q ->
  wpAny (model X.prog X.w) X.A (forIn ifs true λc r=>if r=true then do let ok <-isTrue c X.env (eval c X.env);pure (ForInStep.yield ok)else pure (ForInStep.yield r)) (TP X pins Z Q) X.xe s
def zvG:TT:=λ_ H Q=>Q true H
def pif0:PIfs X [] zvG:=λ_ _ _ H _ I h=>wpAny_tests_nil ⟨H,I,h⟩
def pif1(h:PT X c t):PIfs X [c] t:=λpins s Z H Q I q=>wpAny_tests_one (h pins s Z H Q I q)
noncomputable def zq5(g:TG)(tc:TT)(te:TE)(Zc:St)(l:Addr)(J:It)(H1:Hp)(Q:VK):Prop:=
 ∃W:Nat->Nat->List V->Hp->Prop,(∃m,W 0 m [] (upd H1 l (.lst [])))/\∀i m xs H2,W i m xs H2->H2 l=some (.lst xs) /\
  ((J.stop i H2/\Q (.ref l) H2)\/(J.go i H2/\∃N:List V->Hp->Prop,(∀xs' H',N xs' H'->∃m',m'<m/\W (i+1) m' xs' H') /\
   ∀x H',J.yld i H2 x H'->g x Zc H' λZ2 H3=>tc Z2 H3 λb H4=>if b=true then te Z2 H4 λy H5=>H5 l=some (.lst xs)/\xs.length<sizeLine/\N (xs++[y]) (upd H5 l (.lst (xs++[y])))else N xs H4))
def zl2(sub:List (Option Nat))(wi:TI)(g:TG)(tc:TT)(te:TE):TE:=λZ H Q=>wi Z H λJ H1=>∀l,H1 l=none->zq5 g tc te (zd7 sub Z) l J H1 Q
section
variable{X:Cx}{pins:List (Addr×Obj)}{Z:St}{H:Hp}{s:Shared}{scope:Scope}{Nc:List Str}{sub:List (Option Nat)}{elt tg iter:Expr}{ifs:List Expr}{pos:Pos}{g:TG}{tc:TT}{te:TE}
def zna{cl:List (Str×Addr)}{fp:List Addr}{it:Addr}{J:It}{tn:Nat->Heap->Prop}(I:Inv X pins Z H s)(hS:CompScope X.N X.env.scope scope Nc sub)
  (hcl:∀x c,cl.lookup x=some c->X.env.cells.lookup x=some c) (hcl2:∀x,scope.names.lookup x=some .free->∃c,cl.lookup x=some c)
  (hf:∀b∈fp,FpOk X pins H b) (hlt:∀b∈fp,b<s.heap.objs.size):(zaL X Nc scope cl s.heap.objs.size s H fp).Ok where
 mod:=I.ok.mod
 kind:=hS.kind
 glob:=I.ok.glob
 blt:=I.ok.blt
 above:=YAo _
 inj:=λx y c e1 e2=>I.ok.inj x y c (hcl x c e1) (hcl y c e2)
 has:=λx h=>hcl2 x (zdN (env:=X.env) hS.nocell h)
 cab:=λx c h=>by cases h
 hd:=I.ok.hd
 frames:=I.ok.frames
 stk:=.inl rfl
 exf:=λb hb=>⟨YAs (hlt b hb),λx c e=>(hf b hb).2.2.2.2.1 x c (hcl x c e)⟩
 bs:=I.bs
 bsz:=YAx I.ok.bsz I.sz
 noex:=λb o e hb=>by
  rcases(hf b hb).2.2.2.1 with z|z
  .exact I.ok.noex b o e z
  .exact absurd (YAr (YAh e) (YAx I.ok.bsz z)) (YBb _)
 exfs:=λb hb hq=>by
  rcases YAv.mp (I.stkSub b hq)with z|z
  .exact(hf b hb).2.1 z
  .exact(hf b hb).2.2.1 z
 funs:=I.stack
 frf:=I.stkFree
def zjN{cl:List (Str×Addr)}{fp:List Addr}{h1:Heap}{t':Nat}{m:Str->Option Value}(I:Inv X pins Z H s)(hS:CompScope X.N X.env.scope scope Nc sub)
  (hcl:∀x c,cl.lookup x=some c->X.env.cells.lookup x=some c) (hcl2:∀x,scope.names.lookup x=some .free->∃c,cl.lookup x=some c)
  (ok:(zaL X Nc scope cl s.heap.objs.size s H fp).Ok) (hn:h1.Ns s.heap.objs.size m) (hk:∀b o,s.heap.get? b=some o->h1.get? b=some o) :
  Inv (zaL X Nc scope cl s.heap.objs.size s H fp) [] (zd7 sub Z) H {s with heap:=h1,toks:=t'}where
 ok:=ok
 os:=rfl
 bare:=I.bare
 base:=Un.kept hk
 loc:=by
  refine⟨m,hn,λi x v e1 e2 _=>?_⟩;obtain⟨j,e3,e4⟩:=zj5 e2;obtain⟨e5,e6⟩:=hS.vis i j x e1 e3;obtain⟨m',_,hl⟩:=I.loc;have hfr:X.env.kindOf x=some .cell\/X.env.kindOf x=some .free:=hS.frees (x,.free) (YA7 e6) rfl;obtain⟨u,r,l⟩:=hl j x v e5 e4 (.inr hfr);refine⟨u,r,?_⟩;rcases l with⟨k,_⟩|⟨_,c,e,z⟩
  .rcases hfr with q|q
   .rw[k]at q;cases q
   .rw[k]at q;cases q
  .obtain⟨c',e'⟩:=hcl2 x e6
   have:=hcl x c' e'
   rw[e]at this;cases this;exact .inr ⟨zcL (env:=X.env) e6,c,e',z.keeps hk⟩
 cell:=λx c e=>by
  obtain⟨v,z⟩:=I.cell x c (hcl x c e);exact⟨v,z.keeps hk⟩
 free:=I.hok.fresh (YAo _)
 freeC:=λx c e=>I.freeC x c (hcl x c e)
 pin:=λp hp=>absurd (show p∈([]:List (Addr×Obj))from hp) (by simp)
 hok:=I.hok.kept hk
 len:=(zja sub Z).trans hS.len
def zmq{cl:List (Str×Addr)}{fp:List Addr}{pinsC:List (Addr×Obj)}{Zc:St}{H':Hp}{s':Shared}(I:Inv X pins Z H s)(hf:∀b∈fp,FpOk X pins H b)
  (J:Inv (zaL X Nc scope cl s.heap.objs.size s H fp) pinsC Zc H' s'):Inv X pins Z H' s':=
 I.call' (ch:=fp) J.os J.base J.hok J.bare λb hb=>⟨(hf b hb).2.2.2.1,(hf b hb).2.1,(hf b hb).2.2.2.2.1,(hf b hb).2.2.2.2.2⟩
noncomputable def zld(X:Cx)(tg:Expr)(J:It)(fp:List Addr)(it:Addr)(tn:Nat->Heap->Prop):Prop:=∀(i:Nat)(s:Shared)(Z:St)(H:Hp),Inv X [] Z H s->(∀b∈fp,FpOk X [] H b)->tn i s.heap ->
 (J.go i H->∀E,wpAny (model X.prog X.w) X.A (pyNext (.ref it)) (λr s1=>∃u,r=some u/\wpAny (model X.prog X.w) X.A (letOwnedTupleGo tg (.ref it) u) (λ_ s2=>∃x H',Inv X [] Z H' s2/\RelV x u/\J.yld i H x H'/\tn (i+1) s2.heap/\∀b∈fp,H' b=none) E s1) E s) /\
 (J.stop i H->∀E,wpAny (model X.prog X.w) X.A (pyNext (.ref it)) (λr s1=>r=none/\Inv X [] Z H s1) E s)
def Turn.at{P:Program}{w:World}{K:qk}{J:It}{fp:List Addr}{it:Addr}{tn:Nat->Heap->Prop}(T:Turn P w K tg J fp it tn)(h1:X.prog=P)(h2:X.w=w)(h3:X.K=K)(hc:X.calm=true):zld X tg J fp it tn:=by
 subst h1 h2 h3;exact λi s Z H I hf st=>⟨λg E=>T.item X rfl rfl rfl hc i [] s Z H E I hf st g,λg E=>T.done X rfl rfl rfl hc i [] s Z H E I hf st g⟩
def zk6{cl:List (Str×Addr)}{fp:List Addr}{it:Addr}{J:It}{tn:Nat->Heap->Prop}{E:Value->Shared->Prop}{Q:VK}{RR:Value->Addr->Result->Shared->Prop}
  (I:Inv X pins Z H s) (hS:CompScope X.N X.env.scope scope Nc sub)
  (hcl:∀x c,cl.lookup x=some c->X.env.cells.lookup x=some c) (hcl2:∀x,scope.names.lookup x=some .free->∃c,cl.lookup x=some c)
  (hT:∀s0:Shared,(∀b o,s.heap.get? b=some o->s0.heap.get? b=some o)->zld (zaL X Nc scope cl s0.heap.objs.size s0 (upd H s.heap.objs.size (.lst [])) fp) tg J fp it tn) (T:Turn X.prog X.w X.K tg J fp it tn) (st:tn 0 s.heap) (hf:∀b∈fp,FpOk X pins H b)
  (hg:∀cl L s0 H0 ex,PG (zaL X Nc scope cl L s0 H0 ex) tg g) (gk:zj2 sub g)
  (hi:∀cl L s0 H0 ex,PIfs (zaL X Nc scope cl L s0 H0 ex) ifs tc) (he:∀cl L s0 H0 ex,PE (zaL X Nc scope cl L s0 H0 ex) elt te)
  (gm:zh6 g) (q:∀l,H l=none->zq5 g tc te (zd7 sub Z) l J H Q)
  (hRR:∀l C H' s' m,Inv X pins Z H' s'->Q (.ref l) H'->s'.heap.Ns C m->s.heap.objs.size<=C->H' C=none->RR (.ref l) C (.ok .next) s') :
  wpAny (model X.prog X.w) X.A (newList []) (λacc s₃=>wpAny (model X.prog X.w) X.A (newFunctionEnv scope X.env.globals cl [] X.env.qual none .none (some X.env)) (λcenv s₄=>
   codeAny (model X.prog X.w) X.A (.compStart (.ListComp elt [⟨tg,iter,ifs,0⟩] scope pos) 0 (.ref it) acc {cenv with scope:=relabel scope X.env}) (RR acc cenv.locals) s₄) E s₃) E s:=by
 have hlt:∀b∈fp,b<s.heap.objs.size:=λb hb=>let⟨o,e,_⟩:=T.obj _ _ st b hb;YAh e
 have hl0:H s.heap.objs.size=none:=I.hok.fresh (YAo _);obtain⟨W,⟨m0,w0⟩,turn⟩:=q s.heap.objs.size hl0;refine YAI ?_
 -- the list is laid
 have I3:Inv X pins Z (upd H s.heap.objs.size (.lst [])) {s with heap:=s.heap.push {cls:=.type "list",data:=.seq ([]:List Value).toArray},toks:=s.toks}:=I.lnew (its:=[]) .nil (YBI _);generalize hs3:({s with heap:=s.heap.push {cls:=.type "list",data:=.seq ([]:List Value).toArray},toks:=s.toks}:Shared)=s3 at I3;have e3:({s with heap:=s.heap.push {cls:=.type "list",data:=.seq ([]:List Value).toArray}}:Shared)=s3:=hs3;have k3:∀b o,s.heap.get? b=some o->s3.heap.get? b=some o:=λb o e=>by rw[<-hs3];exact YAc _ e
 have z3:s.heap.objs.size<=s3.heap.objs.size:=by rw[<-hs3];show _<=(s.heap.push _).objs.size;rw[YBq];exact Nat.le_succ _
 have f3:∀b∈fp,FpOk X pins (upd H s.heap.objs.size (.lst [])) b:=λb hb=>⟨by rw[upd_ne (YAs (hlt b hb))];exact(hf b hb).1,(hf b hb).2⟩;have lt3:∀b∈fp,b<s3.heap.objs.size:=λb hb=>YAr (hlt b hb) z3;have st3:tn 0 s3.heap:=T.keep _ _ _ st λb _ o e=>k3 b o e;refine wpAny_newFunctionEnv hS.nocell (by intro y hy;simp at hy) (λh₁ hns₁ hsb₁=>?_) hS.kind;have k4:∀b o,s3.heap.get? b=some o->h₁.get? b=some o:=λb o e=>hsb₁.extBut b o (YAs (YAh e)) (YAc _ e);have ok4:=zna (J:=J) (it:=it) (tn:=tn) I3 hS hcl hcl2 f3 lt3;have I4:=zjN (t':=s3.toks+([]:List (Str×Value)).length) I3 hS hcl hcl2 ok4 hns₁ k4;have st4:tn 0 h₁:=T.keep _ _ _ st3 λb _ o e=>k4 b o e
 -- what stays true of the iterator's objects
 have stat:∀{H':Hp},(∀b∈fp,H' b=none)->∀b∈fp,FpOk (zaL X Nc scope cl s3.heap.objs.size s3 (upd H s.heap.objs.size (.lst [])) fp) [] H' b:=λhn b hb=>
  ⟨hn b hb,(ok4.exf b hb).1,ok4.exfs b hb,.inl hb,(ok4.exf b hb).2,λp hp=>absurd (show p∈([]:List (Addr×Obj))from hp) (by simp)⟩
 have loop:∀s₄:Shared,s₄={s3 with heap:=h₁,toks:=s3.toks+([]:List (Str×Value)).length} ->
   codeAny (model X.prog X.w) X.A (.compLoop (.ListComp elt [⟨tg,iter,ifs,0⟩] scope pos) 0 (.ref it) (.ref s.heap.objs.size) (compEnvC scope cl s3.heap.objs.size X.env)) (RR (.ref s.heap.objs.size) s3.heap.objs.size) s₄:=by
  rintro s₄ rfl;refine codeAny_loop rfl (λn s'=>∃i xs H',Inv (zaL X Nc scope cl s3.heap.objs.size s3 (upd H s.heap.objs.size (.lst [])) fp) [] (zd7 sub Z) H' s'/\tn i s'.heap/\(∀b∈fp,H' b=none)/\W i n xs H') ?_ m0
   ⟨0,[],_,I4,st4,λb hb=>(f3 b hb).1,w0⟩
  rintro n s5 ⟨i,xs,H5,I5,st5,fr5,w5⟩;show wpAny _ X.A ((compTurn (.ListComp elt [⟨tg,iter,ifs,0⟩] scope pos) 0 (.ref it) (.ref s.heap.objs.size) (compEnvC scope cl s3.heap.objs.size X.env)).onRaise (λx=>do noteFrame x (compEnvC scope cl s3.heap.objs.size X.env);theTreesLotGoes x)) _ _ s5;refine wpAny_noted ?_;rw[compTurn_list];refine YAa (YCy (YAa ?_));obtain⟨hl5,w5⟩:=turn i n xs H5 w5;rcases w5 with⟨stop,qn⟩|⟨go,N,hN,step⟩
  .refine thn ((hT s3 k3 i s5 (zd7 sub Z) H5 I5 (stat fr5) st5).2 stop _) λr s6 ⟨hr,I6⟩=>?_;subst hr;obtain⟨m6,hn6,_⟩:=I6.loc;exact YAd (hRR _ _ H5 s6 m6 (zmq I3 f3 I6) qn hn6 z3 I6.free)
  .refine thn ((hT s3 k3 i s5 (zd7 sub Z) H5 I5 (stat fr5) st5).1 go _) λr s6 ⟨u,hr,h6⟩=>?_;subst hr;refine YAa (thn h6 λ_ s7 ⟨x,H7,I7,r7,y7,st7,fr7⟩=>?_);have I7':=I7.pinned (stat fr7) (T.obj _ _ st7);have again:∀{Z8:St}{H8:Hp}{ys:List V}{s8:Shared},Inv (zaL X Nc scope cl s3.heap.objs.size s3 (upd H s.heap.objs.size (.lst [])) fp) ([]++zjv fp s7.heap) Z8 H8 s8->(∀(i j:Nat),sub[i]?=some (some j)->Z8[i]?=(zd7 sub Z)[i]?)->N ys H8 ->
     ∃m,m<n/\∃i xs H',Inv (zaL X Nc scope cl s3.heap.objs.size s3 (upd H s.heap.objs.size (.lst [])) fp) [] (zd7 sub Z) H' s8/\tn i s8.heap/\(∀b∈fp,H' b=none)/\W i m xs H':=λ{Z8 H8 ys s8} I8 k8 n8=>by
    obtain⟨m',hm,w8⟩:=hN ys H8 n8;refine⟨m',hm,i+1,ys,H8,?_,T.keep _ _ _ st7 λb hb o e=>(I8.pin (b,o) (YAE _ (YAE _ (zeq hb e)))).1,λb hb=>?_,w8⟩
    .refine I8.unpinned.weak ?_ λk v e=>?_
     .rw[I8.len];exact(zja sub Z).trans hS.len
     .obtain⟨j,e1,_⟩:=zj5 e;rw[k8 k j e1];exact e
    .obtain⟨o,e,d⟩:=T.obj _ _ st7 b hb;exact(I8.pin (b,o) (YAE _ (YAE _ (zeq hb e)))).2.1
   refine YAa (YAT (hg cl _ s3 _ fp _ s7 (zd7 sub Z) H7 x u _ I7' r7 (gk _ _ _ _ (step x H7 y7))) (λ_ s8 ⟨Z8,H8,I8,q8,k8⟩=>?_) λ_ _ z=>False.elim z);refine YAa (YAT (hi cl _ s3 _ fp _ s8 Z8 H8 _ I8 q8) (λok s9 ⟨H9,I9,q9⟩=>?_) λ_ _ z=>False.elim z);cases ok with
   |false=>exact YAd ⟨rfl,again I9 k8 q9⟩
   |true=>
    refine YAa (YAa (YAT (he cl _ s3 _ fp _ s9 Z8 H9 _ I9 q9) (λxv s10 ⟨y,H10,I10,r10,hl10,hz,q10⟩=>?_) λ_ _ z=>False.elim z));refine YAa (YAT (zgJ (X:=(zaL X Nc scope cl s3.heap.objs.size s3 (upd H s.heap.objs.size (.lst [])) fp)) _ s10 Z8 H10 (.ref s.heap.objs.size) [y] (.ref s.heap.objs.size) [xv] (λ_ H11=>N (xs++[y]) H11) I10 rfl (.cons r10 .nil) ⟨_,xs,y,rfl,rfl,hl10,hz,q10⟩) (λ_ s11 ⟨_,H11,I11,_,q11⟩=>?_) λ_ _ z=>False.elim z);exact YAd (YAd ⟨rfl,again I11 k8 q11⟩)
 exact codeAny_compStart_list (loop _ rfl) (T.self _ 0 _ _ _ st4 (loop _ rfl))
def zhg(I:Inv X pins Z H s)(hS:CompScope X.N X.env.scope scope Nc sub):∀y∈scope.names,y.2=.free->∃c,X.env.cells.lookup y.1=some c:=λy hy e=>
 I.ok.has y.1 (hS.frees y hy e)
noncomputable def PIT(X:Cx)(Nc:List Str)(scope:Scope)(tg iter:Expr)(wi:TI):Prop:=
 ∀(pins:List (Addr×Obj))(s:Shared)(Z:St)(H:Hp)(R:It->Hp->Prop),Inv X pins Z H s->wi Z H R->wpAny (model X.prog X.w) X.A (eval iter X.env) (λv s1=>wpAny (model X.prog X.w) X.A (pyIter v) (λitv s2=>
  ∃(it:Addr)(fp:List Addr)(tn:Nat->Heap->Prop)(J:It)(H':Hp),itv=.ref it/\Inv X pins Z H' s2/\Turn X.prog X.w X.K tg J fp it tn/\tn 0 s2.heap/\(∀b∈fp,FpOk X pins H' b)/\R J H' /\
   ∀cl s0,(∀b o,s2.heap.get? b=some o->s0.heap.get? b=some o)->zld (zaL X Nc scope cl s0.heap.objs.size s0 (upd H' s2.heap.objs.size (.lst [])) fp) tg J fp it tn) X.xe s1) X.xe s
def PI.t{wi:TI}(hc:X.calm=true)(h:PI X tg iter wi):PIT X Nc scope tg iter wi:=λpins s Z H R I q=>thn (h pins s Z H R I q) λv s1 h1=>thn h1 λitv s2 ⟨it,fp,tn,J,H',e,I2,T,st,f,r⟩=>⟨it,fp,tn,J,H',e,I2,T,st,f,r,λ_ _ _=>T.at rfl rfl rfl hc⟩
def zjH{wi:TI}(hS:CompScope X.N X.env.scope scope Nc sub)(hI:PIT X Nc scope tg iter wi)
  (hg:∀cl L s0 H0 ex,PG (zaL X Nc scope cl L s0 H0 ex) tg g) (gk:zj2 sub g) (gm:zh6 g)
  (hi:∀cl L s0 H0 ex,PIfs (zaL X Nc scope cl L s0 H0 ex) ifs tc) (he:∀cl L s0 H0 ex,PE (zaL X Nc scope cl L s0 H0 ex) elt te)
  (hs:∀x,foldedSetIterable iter X.env x=pure x:=by intro _;rfl):PE X (.ListComp elt [⟨tg,iter,ifs,0⟩] scope pos) (zl2 sub wi g tc te):=by
 intro pins s Z H Q I h;obtain⟨cl,hcl0,hcl,hcl2⟩:=zd8 (zhg I hS);rw[eval_ListComp];refine wpAny_comprehension_free (use:=none) rfl hs hcl0 hS.kind hS.names ?_;refine thn (hI pins s Z H _ I h) λxv s1 h1=>thn h1 λitv s2 h2=>?_;obtain⟨it,fp,tn,J,H2,e,I2,T,st2,f2,q,hT⟩:=h2;subst e;refine zk6 I2 hS hcl hcl2 (hT cl) T st2 f2 hg gk hi he gm q λl C H' s' m I' q' hn hC hfr=>?_;refine⟨m,hn,λh' sb=>?_⟩;have nL:C≠X.env.locals:=YBz (YAr I2.lt hC);refine⟨.ref l,H',?_,rfl,q'⟩;exact I'.turned (it:=C) (t':=s'.toks) (λb o hb e=>(sb.2 b hb).trans e) hfr nL (.inr (YAx I2.sz hC)) (λx c e z=>by
  obtain⟨v,w⟩:=I2.cell x c e;exact absurd (YAr w.lt (by rw[z];exact hC)) (YBb _)) λp hp z=>
  absurd (YAr (YAh (I2.pin p hp).1) (by rw[z];exact hC)) (YBb _)
def zpG(hc:X.calm=true)(hS:CompScope X.N X.env.scope scope Nc sub)(hI:PI X tg iter wi)
  (hg:∀cl L s0 H0 ex,PG (zaL X Nc scope cl L s0 H0 ex) tg g) (gk:zj2 sub g) (gm:zh6 g)
  (hi:∀cl L s0 H0 ex,PIfs (zaL X Nc scope cl L s0 H0 ex) ifs tc) (he:∀cl L s0 H0 ex,PE (zaL X Nc scope cl L s0 H0 ex) elt te)
  (hs:∀x,foldedSetIterable iter X.env x=pure x:=by intro _;rfl):PE X (.ListComp elt [⟨tg,iter,ifs,0⟩] scope pos) (zl2 sub wi g tc te):=zjH hS (hI.t hc) hg gk gm hi he hs
def zos(hc:X.calm=true)(hN:X.N.Nodup)(hiN:X.N[i]?=some y)(hy:X.env.scope.names.lookup y=some .local)(hS:CompScope X.N X.env.scope scope Nc sub)(hI:PI X tg iter wi)
  (hg:∀cl L s0 H0 ex,PG (zaL X Nc scope cl L s0 H0 ex) tg g) (gk:zj2 sub g) (gm:zh6 g)
  (hi:∀cl L s0 H0 ex,PIfs (zaL X Nc scope cl L s0 H0 ex) ifs tc) (he:∀cl L s0 H0 ex,PE (zaL X Nc scope cl L s0 H0 ex) elt te)
  (hsw:swapsWith (.ListComp elt [⟨tg,iter,ifs,0⟩] scope pos) (some (.Name y py)) spos.line X.env=pure true:=by rfl)
  (hs:∀x,foldedSetIterable iter X.env x=pure x:=by intro _;rfl):PS X (.Assign [.Name y py] (.ListComp elt [⟨tg,iter,ifs,0⟩] scope pos) spos) (tAsg (zl2 sub wi g tc te) (zjR i)):=by
 intro pins s Z H D I h;obtain⟨cl,hcl0,hcl,hcl2⟩:=zd8 (zhg I hS);rw[exec_Assign_Name_used _ _ _ _ hsw];refine YAa (YCy (YAa ?_));show wpAny _ X.A (do let _ <-comprehension (.ListComp elt [⟨tg,iter,ifs,0⟩] scope pos) scope X.env _ (newList []) false (eval iter X.env) (some (assign (.Name y py) X.env))) _ _ s;refine YAa (YAT (wpAny_comprehension_free (use:=some (assign (.Name y py) X.env)) (Q:=λ_ s'=>SP X pins D .next s') rfl hs hcl0 hS.kind hS.names
  (thn (hI pins s Z H _ I h) λxv s1 h1=>thn h1 λitv s2 h2=>?_)) (λ_ s' hq=>YAd (YAd hq)) λ_ _ e=>e)
 obtain⟨it,fp,tn,J,H2,e,I2,T,st2,f2,q⟩:=h2;subst e;refine zk6 I2 hS hcl hcl2 (λ_ _=>T.at rfl rfl rfl hc) T st2 f2 hg gk hi he gm q λl C H' s' m I' q' hn hC hfr=>?_;have nL:C≠X.env.locals:=YBz (YAr I2.lt hC);show wpAny _ X.A (assign (.Name y py) X.env (.ref l)) _ _ _;refine wpAny_assign_Name (zjm I' hN hiN (.inl hy) (v:=.ref l) rfl (λs6 I6 ⟨a,sb6,ha⟩=>?_) (.inr hy));have nA:C≠a:=λz=>by
  rcases ha with e|e
  .exact nL (z.trans e)
  .obtain⟨v,w⟩:=I2.cell y a e;exact absurd (YAr w.lt (by rw[<-z];exact hC)) (YBb _)
 refine⟨m,hn.sameBut sb6 nA,λh' sb=>?_⟩;refine⟨_,H',I6.turned (it:=C) (t':=s6.toks) (λb o hb e=>(sb.2 b hb).trans e) hfr nL (.inr (YAx I2.sz hC)) (λx c e z=>by
  obtain⟨v,w⟩:=I2.cell x c e;exact absurd (YAr w.lt (by rw[z];exact hC)) (YBb _)) (λp hp z=>
  absurd (YAr (YAh (I2.pin p hp).1) (by rw[z];exact hC)) (YBb _)),q'⟩
end
end L2
set_option maxHeartbeats 1000000
namespace L2
open PySem PyProof.Rows
def zqq{M:Model}{A:Around}{E:Value->Shared->Prop}{s:Shared}{α:Type}{c:Prop}[Decidable c]{x y:Sem α}{Q:α->Shared->Prop}(hc:c)(h:wpAny M A x Q E s):wpAny M A (if c then x else y) Q E s:=by rw[if_pos hc];exact h
def zgh{M:Model}{A:Around}{E:Value->Shared->Prop}{s:Shared}{α:Type}{c:Prop}[Decidable c]{x y:Sem α}{Q:α->Shared->Prop}(hc:¬ c)(h:wpAny M A y Q E s):wpAny M A (if c then x else y) Q E s:=by rw[if_neg hc];exact h
end L2
namespace L2
open PySem PySem.Spec PyProof.Rows
section
variable{X:Cx}
inductive IsI(K:qk)(H:Hp):V->String->Bool->Prop
 |bl_bool (b):IsI K H (.bl b) "bool" true
 |bl_int (b):IsI K H (.bl b) "int" true
 |bl_list (b):IsI K H (.bl b) "list" false
 |bl_tuple (b):IsI K H (.bl b) "tuple" false
 |bl_str (b):IsI K H (.bl b) "str" false
 |int_bool (i):IsI K H (.int i) "bool" false
 |int_int (i):IsI K H (.int i) "int" true
 |int_list (i):IsI K H (.int i) "list" false
 |int_tuple (i):IsI K H (.int i) "tuple" false
 |int_str (i):IsI K H (.int i) "str" false
 |non_bool:IsI K H .non "bool" false
 |non_int:IsI K H .non "int" false
 |non_list:IsI K H .non "list" false
 |non_tuple:IsI K H .non "tuple" false
 |non_str:IsI K H .non "str" false
 |str_bool (i):IsI K H (.str i) "bool" false
 |str_int (i):IsI K H (.str i) "int" false
 |str_list (i):IsI K H (.str i) "list" false
 |str_tuple (i):IsI K H (.str i) "tuple" false
 |str_str (i):IsI K H (.str i) "str" true
 |list_bool (p xs):SqL K H p xs->IsI K H (.ref p) "bool" false
 |list_int (p xs):SqL K H p xs->IsI K H (.ref p) "int" false
 |list_list (p xs):SqL K H p xs->IsI K H (.ref p) "list" true
 |list_tuple (p xs):SqL K H p xs->IsI K H (.ref p) "tuple" false
 |list_str (p xs):SqL K H p xs->IsI K H (.ref p) "str" false
 |tuple_bool (p xs):SqT K H p xs->IsI K H (.ref p) "bool" false
 |tuple_int (p xs):SqT K H p xs->IsI K H (.ref p) "int" false
 |tuple_list (p xs):SqT K H p xs->IsI K H (.ref p) "list" false
 |tuple_tuple (p xs):SqT K H p xs->IsI K H (.ref p) "tuple" true
 |tuple_str (p xs):SqT K H p xs->IsI K H (.ref p) "str" false
def zo5:CallR X (.builtin "isinstance") (λvs H Q=>∃x T b,vs=[x,.ty T]/\IsI X.K H x T b/\Q (.bl b) H):=by
 intro pins s Z H vs us Q I r h;obtain⟨x,T,b,rfl,hi,q⟩:=h;obtain⟨u,w',rfl,rx,ry⟩:=zsk r;cases ry;have f0:EP X pins Z Q (.bool b) s:=⟨.bl b,H,I,rfl,q⟩;have f1:EP X pins Z Q (.bool b) {s with toks:=s.toks+1}:=⟨.bl b,H,I.tok _,rfl,q⟩;cases hi with
 |bl_bool=>cases rx;exact IsiPair.bool_bool f0
 |bl_int=>cases rx;exact IsiPair.bool_int f0
 |bl_list=>cases rx;exact IsiPair.bool_list f1
 |bl_tuple=>cases rx;exact IsiPair.bool_tuple f1
 |bl_str=>cases rx;exact IsiPair.bool_str f1
 |int_bool=>obtain⟨t,rfl⟩:=rx;exact IsiPair.int_bool f1
 |int_int=>obtain⟨t,rfl⟩:=rx;exact IsiPair.int_int f0
 |int_list=>obtain⟨t,rfl⟩:=rx;exact IsiPair.int_list f1
 |int_tuple=>obtain⟨t,rfl⟩:=rx;exact IsiPair.int_tuple f1
 |int_str=>obtain⟨t,rfl⟩:=rx;exact IsiPair.int_str f1
 |non_bool=>cases rx;exact IsiPair.NoneType_bool f1
 |non_int=>cases rx;exact IsiPair.NoneType_int f1
 |non_list=>cases rx;exact IsiPair.NoneType_list f1
 |non_tuple=>cases rx;exact IsiPair.NoneType_tuple f1
 |non_str=>cases rx;exact IsiPair.NoneType_str f1
 |str_bool=>obtain⟨t,rfl⟩:=rx;exact IsiPair.str_bool f1
 |str_int=>obtain⟨t,rfl⟩:=rx;exact IsiPair.str_int f1
 |str_list=>obtain⟨t,rfl⟩:=rx;exact IsiPair.str_list f1
 |str_tuple=>obtain⟨t,rfl⟩:=rx;exact IsiPair.str_tuple f1
 |str_str=>obtain⟨t,rfl⟩:=rx;exact IsiPair.str_str f0
 |list_bool p xs h=>cases rx;obtain⟨_,_,⟨o,n,e,c,_⟩,_⟩:=I.list h;exact IsiPair.list_bool e c f1
 |list_int p xs h=>cases rx;obtain⟨_,_,⟨o,n,e,c,_⟩,_⟩:=I.list h;exact IsiPair.list_int e c f1
 |list_list p xs h=>cases rx;obtain⟨_,_,⟨o,n,e,c,_⟩,_⟩:=I.list h;exact IsiPair.list_list e c f0
 |list_tuple p xs h=>cases rx;obtain⟨_,_,⟨o,n,e,c,_⟩,_⟩:=I.list h;exact IsiPair.list_tuple e c f1
 |list_str p xs h=>cases rx;obtain⟨_,_,⟨o,n,e,c,_⟩,_⟩:=I.list h;exact IsiPair.list_str e c f1
 |tuple_bool p xs h=>cases rx;obtain⟨_,_,⟨o,e,c,_⟩,_⟩:=I.tuple h;exact IsiPair.tuple_bool e c f1
 |tuple_int p xs h=>cases rx;obtain⟨_,_,⟨o,e,c,_⟩,_⟩:=I.tuple h;exact IsiPair.tuple_int e c f1
 |tuple_list p xs h=>cases rx;obtain⟨_,_,⟨o,e,c,_⟩,_⟩:=I.tuple h;exact IsiPair.tuple_list e c f1
 |tuple_tuple p xs h=>cases rx;obtain⟨_,_,⟨o,e,c,_⟩,_⟩:=I.tuple h;exact IsiPair.tuple_tuple e c f0
 |tuple_str p xs h=>cases rx;obtain⟨_,_,⟨o,e,c,_⟩,_⟩:=I.tuple h;exact IsiPair.tuple_str e c f1
def zlp{bs:List Bool}:∀{us:List Value},Vals (bs.map V.bl) us->∀(i:Nat) v,us[i]?=some v->v=.bool (bs.getD i false):=by
 induction bs with
 |nil=>intro us r i v h;cases r;simp at h
 |cons b bs ih=>
  intro us r i v h;rw[YAm]at r;cases r with
  |cons r1 r2=>
   cases i with
   |zero=>simp at h;subst h;exact r1
   |succ i=>simpa using ih r2 i v (by simpa using h)
def znu(bs:List Bool):((List.range bs.length).all λi=>bs.getD i false)=bs.all id:=by
 induction bs with
 |nil=>rfl
 |cons b bs ih=>
  rw[YAy,YCb,List.all_cons,List.all_map,List.all_cons,<-ih];rfl
def zoA(bs:List Bool):((List.range bs.length).any λi=>bs.getD i false)=bs.any id:=by
 induction bs with
 |nil=>rfl
 |cons b bs ih=>
  rw[YAy,YCb,YB4,List.any_map,YB4,<-ih];rfl
def zm1(hc:X.calm=true):CallR X (.builtin "all") (λvs H Q=>∃(p:Addr)(bs:List Bool),vs=[.ref p]/\SqL X.K H p (bs.map V.bl)/\Q (.bl (bs.all id)) H):=by
 intro pins s Z H vs us Q I r h;obtain⟨p,bs,rfl,hq,q⟩:=h;obtain⟨u,rfl,rx⟩:=zeC r;cases rx;obtain⟨its,r',pl,hz⟩:=I.list hq;have hlen:=r'.length;rw[YAb]at hlen;have hp:p<s.heap.objs.size:=let⟨o,n,e,_⟩:=pl;YAh e
 refine call_all_walk (YBU pl.isList ?_);refine⟨s.heap.objs.size,_,[s.heap.objs.size],_,_,_,λi=>bs.getD i false,rfl,Walks.list (A:=X.A.in1) (I.ok.hd hc) _ p (YAs hp) its.toArray,⟨⟨_,YAn _ rfl,rfl,rfl⟩,pl.isList.push _⟩,λi v s' Q' E' hP hQ=>?_,λh' tk hk=>?_⟩
 .rw[zlp r' i v (by simpa using hP)];exact YA3 hQ
 .rw[YAq,<-hlen,znu];exact⟨.bl _,H,I.kept λb o e=>hk b o (by simpa using YAs (YAh e)) (YAc _ e),rfl,q⟩
def zou(hc:X.calm=true):CallR X (.builtin "any") (λvs H Q=>∃(p:Addr)(bs:List Bool),vs=[.ref p]/\SqL X.K H p (bs.map V.bl)/\Q (.bl (bs.any id)) H):=by
 intro pins s Z H vs us Q I r h;obtain⟨p,bs,rfl,hq,q⟩:=h;obtain⟨u,rfl,rx⟩:=zeC r;cases rx;obtain⟨its,r',pl,hz⟩:=I.list hq;have hlen:=r'.length;rw[YAb]at hlen;have hp:p<s.heap.objs.size:=let⟨o,n,e,_⟩:=pl;YAh e
 refine call_any_walk (YBU pl.isList ?_);refine⟨s.heap.objs.size,_,[s.heap.objs.size],_,_,_,λi=>bs.getD i false,rfl,Walks.list (A:=X.A.in1) (I.ok.hd hc) _ p (YAs hp) its.toArray,⟨⟨_,YAn _ rfl,rfl,rfl⟩,pl.isList.push _⟩,λi v s' Q' E' hP hQ=>?_,λh' tk hk=>?_⟩
 .rw[zlp r' i v (by simpa using hP)];exact YA3 hQ
 .rw[YAq,<-hlen,zoA];exact⟨.bl _,H,I.kept λb o e=>hk b o (by simpa using YAs (YAh e)) (YAc _ e),rfl,q⟩
def zvf(i j:Int):Prop:=0<j/\j<2^64
def zll:OpR X (binaryOp .FloorDiv) (rI zvf λi j=>.int (i / j)):=opI λi j _ _ _ _ _ hc q=>by
 have hp:(0:Int)<j:=hc.1;have hl:j.natAbs.log2<9000:=by
  have h2:j<2^64:=hc.2;have h3:j.natAbs<2^64:=by omega
  have h4:j.natAbs.log2<64:=(Nat.log2_lt (by omega)).mpr h3;omega
 exact floordiv_int (by omega) (by rw[Int.fdiv_eq_ediv_of_nonneg i (by omega)];exact q) (.inl (PyProof.noPylong_of_log2 hl))
def zvR(K:qk):V->V->Hp->VK->Prop:=λx y H Q=>∃(p:Addr)(xs:List V)(j:Nat)(v:V),x=.ref p/\y=.int j/\SqL K H p xs/\xs[j]?=some v/\Q v H
def zo6:PGet X (zvR X.K):=by
 intro pins s Z H o i ov iv Q I r1 r2 h;obtain⟨p,xs,j,v,rfl,rfl,hq,he,q⟩:=h;cases r1;obtain⟨t,rfl⟩:=r2;obtain⟨its,r,pl,hz⟩:=I.list hq;obtain⟨u,eu,ru⟩:=r.get he;have hj:j<xs.length:=(YAe.mp he).1;have hn:=zfQ;exact wpAny_getItem_list pl.isList (by omega) (by omega) (by simpa using eu) ⟨v,H,I,ru,q⟩
end
section
variable{P:Program}{w:World}{A:Around}{E:Value->Shared->Prop}{s:Shared}
def zjV(ht:s.heap.IsTupleIter it t i)(hl:s.heap.IsTuple t xs)(hx:xs[i]?=some x)
  (q:∀h',h'.IsTupleIter it t (i+1)->Heap.SameBut it s.heap h'->Q x {s with heap:=h'}):wpAny (model P w) A (Builtin.SmallTypes.nextOf (.ref it)) Q E s:=by
 obtain⟨o,e,c,d⟩:=id ht;obtain⟨ol,el,_,n,dl⟩:=hl;unfold Builtin.SmallTypes.nextOf;refine YAa (YAH (name:=Str.ofString "__next__") ht.typeIs YBv (YA2 YBv ht.typeIs F.entry_tuple_iterator_next ?_ (F.args_tuple_iterator_next_1 _)));show wpAny _ _ (field (.ref it) 0 >>= _) _ _ s;refine YAa (YAF e d (x:=.ref t) rfl ?_);show wpAny _ _ (if (Value.ref t==Value.none)=true then _ else _) _ _ s;rw[if_neg (show ¬ ((Value.ref t==Value.none)=true)from YBc)];show wpAny _ _ (field (.ref it) 1 >>= _) _ _ s;refine YAa (YAF e d (x:=.int i 0) rfl ?_);show wpAny _ _ (seqItems? (.ref t) >>= _) _ _ s;refine YAa (YBg el dl ?_);simp only[hx,YBG];refine YAa (YBD e d (by simp) (YAd ⟨x,rfl,YAd (q _ ⟨_,YAR _ e (YBQ (YBB d _)),(YCh ..).trans c,by rw[YBB d];simp[rawInt]⟩ (YBX ..))⟩))
def ziT(hh:A.handled=none)(ht:s.heap.IsTupleIter it t i)(hl:s.heap.IsTuple t xs)(hx:xs[i]?=none)
  (q:∀h' e,Heap.ExtBut it s.heap h'->(∃o,h'.get? e=some o/\o.cls=.type "StopIteration")->E (.ref e) {s with heap:=h'}):wpAny (model P w) A (Builtin.SmallTypes.nextOf (.ref it)) Q E s:=by
 obtain⟨o,e,c,d⟩:=id ht;obtain⟨ol,el,_,n,dl⟩:=hl;unfold Builtin.SmallTypes.nextOf;refine YAa (YAH (name:=Str.ofString "__next__") ht.typeIs YBv (YA2 YBv ht.typeIs F.entry_tuple_iterator_next ?_ (F.args_tuple_iterator_next_1 _)));show wpAny _ _ (field (.ref it) 0 >>= _) _ _ s;refine YAa (YAF e d (x:=.ref t) rfl ?_);show wpAny _ _ (if (Value.ref t==Value.none)=true then _ else _) _ _ s;rw[if_neg (show ¬ ((Value.ref t==Value.none)=true)from YBc)];show wpAny _ _ (field (.ref it) 1 >>= _) _ _ s;refine YAa (YAF e d (x:=.int i 0) rfl ?_);show wpAny _ _ (seqItems? (.ref t) >>= _) _ _ s;refine YAa (YBg el dl ?_);simp only[hx,YBG];refine YAa (YCe (YAa (YBD e d (by simp) ?_)));show wpAny _ _ (newExc (.type "StopIteration") [] >>= _) _ _ _;refine YAa ?_;simp only[newTuple,newExc];refine YAa (YAI (YAa (m:=firstArgMember _ _) (wpAny_of_eq (a:=Value.none) (by first|rfl|(simp only[firstArgMember];rfl)) (YAI ?_ (by size_fits)))) (by size_fits));simp only[raiseNew];refine YAa (wpAny_handled ?_);first|rw[show A.in1.handled=none from hh]|rw[hh]
 exact YAa (YAd (wpAny_throw (q _ _ (((YBX ..).extBut.push _).push _) ⟨_,YAn _ rfl,rfl⟩)))
end
def zkH(hh:A.handled=none)(it t:Addr)(hne:t≠it)(xs:Array Value) :
  Draws P w A it [it,t] xs.size (λi v=>xs[i]?=some v) (λi h=>h.IsTupleIter it t i/\h.IsTuple t xs)where
 live:=λ_ _ st=>let⟨o,e,_⟩:=st.1;⟨o,e⟩
 frame:=λ_ _ _ st k=>⟨let⟨o,e,r⟩:=st.1;⟨o,k it (by simp) o e,r⟩,let⟨o,e,r⟩:=st.2;⟨o,k t (by simp) o e,r⟩⟩
 item:=λi s Q E hi st q=>zjV st.1 st.2 (x:=xs[i]) (by simp[hi]) λh' a sb=>q _ h' s.toks (by simp[hi]) ⟨a,st.2.extBut sb.extBut hne⟩ sb
 done:=λs Q E st q=>ziT hh st.1 st.2 (by simp) q
structure ZAp(z a b i j:Addr)(f g:List Addr):Prop where
 az:a≠z
 bz:b≠z
 iz:i≠z
 jz:j≠z
 ab:a≠b
 ai:a≠i
 aj:a≠j
 bi:b≠i
 bj:b≠j
 ij:i≠j
 zf:z∉f
 bf:b∉f
 jf:j∉f
 zg:z∉g
 bg:b∉g
 ig:i∉g
section
variable{P:Program}{w:World}{A:Around}{E:Value->Shared->Prop}{s:Shared}{z a b i j:Addr}{f g:List Addr}{n m k:Nat}{F1 F2:Nat->Value->Prop}{S1 qg:Nat->Heap->Prop}
def zb9{h h':Heap}{c:Addr}{l:List Addr}(sb:Heap.SameBut c h h')(hc:c∉l):∀b∈l,∀o,h.get? b=some o->h'.get? b=some o:=λb hb o e=>sb.extBut b o (λz=>hc (z▸hb)) e
def zjD{u v:Value}{Q:Value->Shared->Prop}(qf:ZAp z a b i j f g)(D1:Draws P w A i f n F1 S1)(D2:Draws P w A j g m F2 qg)(hz:IsZip s.heap z a b .none)(ha:IsPair s.heap a (.ref i) (.ref j))(hb:IsPair s.heap b u v)
  (s1:S1 k s.heap) (s2:qg k s.heap) (k1:k<n) (k2:k<m)
  (q:∀x y h' tk t,F1 k x->F2 k y->t=s.heap.objs.size->IsZip h' z a b (rawInt t)->IsPair h' b x y->S1 (k+1) h'->qg (k+1) h'->IsPair h' t x y ->
   (∀c o,c≠z->c≠b->c≠i->c≠j->s.heap.get? c=some o->h'.get? c=some o)->Q (.ref t) {s with heap:=h',toks:=tk}) :
  wpAny (model P w) A (Builtin.«zip.__next__» ⟨[.ref z],[]⟩) (λfin s'=>∃v,fin=.done (.ret v)/\Q v s') E s:=by
 show wpAny _ _ (field (.ref z) 2 >>= _) _ _ _;refine YAa (YAF hz rfl (x:=.bool false) rfl ?_);show wpAny _ _ (field (.ref z) 3 >>= _) _ _ _;refine YAa (YAF hz rfl (x:=.ref a) rfl (YAa (YBg ha rfl ?_)));show wpAny _ _ (Builtin.SmallTypes.ownedTupleIsFree (.ref z) >>= _) _ _ _;refine YAa ?_;unfold Builtin.SmallTypes.ownedTupleIsFree;refine YAa (YAF hz rfl (x:=.none) rfl (YAd ?_));simp only[YCL];refine YAa (YCe (YAa (YAF hz rfl (x:=.ref b) rfl (YAa (YBl hz (by simp) λh1 z1 e1=>?_)))))
 replace z1:IsZip h1 z a b .ellipsis:=z1
 refine YAa ?_;simp only[YC0,YC7,YCE,YDc];refine YAa (YAa (YCz ?_));show wpAny _ _ (Builtin.SmallTypes.nextOf (.ref i) >>= _) _ _ _;have t1:S1 k h1:=D1.frame _ _ _ s1 (zb9 e1 qf.zf);have t2:qg k h1:=D2.frame _ _ _ s2 (zb9 e1 qf.zg);refine YAa (D1.item k _ _ _ k1 t1 λx h2 tk2 px u1 e2=>YAd ?_);have b2:IsPair h2 b u v:=e2.extBut _ _ qf.bi (e1.extBut _ _ qf.bz hb);refine YAa (YBg b2 rfl (YAa (YCv b2 λh3 b3 e3=>?_)))
 replace b3:IsPair h3 b x v:=b3
 refine YAa (YDf (YAd ?_));refine YAa (YAa (YCz ?_));show wpAny _ _ (Builtin.SmallTypes.nextOf (.ref j) >>= _) _ _ _;have t3:qg k h3:=D2.frame _ _ _ (D2.frame _ _ _ t2 (zb9 e2 qf.ig)) (zb9 e3 qf.bg);refine YAa (D2.item k _ _ _ k2 t3 λy h4 tk4 py u2 e4=>YAd ?_);have b4:IsPair h4 b x v:=e4.extBut _ _ qf.bj b3;refine YAa (YBg b4 rfl (YAa (YCv b4 λh5 b5 e5=>?_)))
 replace b5:IsPair h5 b x y:=b5
 refine YAa (YDf (YAd (YAd (YAa (YBg b5 rfl (YAa (wpAny_newTuple ?_)))))));have sz:h5.objs.size=s.heap.objs.size:=by rw[e5.1,e4.1,e3.1,e2.1,e1.1]
 have z5:IsZip h5 z a b .ellipsis:=e5.extBut _ _ qf.bz.symm (e4.extBut _ _ qf.jz.symm (e3.extBut _ _ qf.bz.symm (e2.extBut _ _ qf.iz.symm z1)));have k5:∀c o,c≠z->c≠b->c≠i->c≠j->s.heap.get? c=some o->h5.get? c=some o:=λc o c1 c2 c3 c4 e=>e5.extBut _ _ c2 (e4.extBut _ _ c4 (e3.extBut _ _ c2 (e2.extBut _ _ c3 (e1.extBut _ _ c1 e))));have v1:S1 (k+1) h5:=D1.frame _ _ _ (D1.frame _ _ _ (D1.frame _ _ _ u1 (zb9 e3 qf.bf)) (zb9 e4 qf.jf)) (zb9 e5 qf.bf);have v2:qg (k+1) h5:=D2.frame _ _ _ u2 (zb9 e5 qf.bg);have zl:z<h5.objs.size:=YAh z5;show wpAny _ _ (Builtin.SmallTypes.ownedTupleHandOut (.ref z) (.ref h5.objs.size) >>= _) _ _ _;refine YAa ?_;unfold Builtin.SmallTypes.ownedTupleHandOut;have z6:IsZip (h5.push {cls:=.type "tuple",data:=.seq #[x,y]}) z a b .ellipsis:=YAc _ z5;refine YAa (YBl z6 (by simp) λh7 z7 e7=>?_)
 replace z7:IsZip h7 z a b (rawInt h5.objs.size):=z7
 refine YBl z7 (by simp) λh8 z8 e8=>?_
 replace z8:IsZip h8 z a b (rawInt h5.objs.size):=z8
 have up:∀c o,c≠z->h5.get? c=some o->h8.get? c=some o:=λc o c1 e=>e8.extBut _ _ c1 (e7.extBut _ _ c1 (YAc _ e));refine YAd ⟨_,rfl,?_⟩;exact q x y h8 _ h5.objs.size px py sz z8 (up _ _ qf.bz b5) (D1.frame _ _ _ v1 λc hc o e=>up c o (λzz=>qf.zf (zz▸hc)) e) (D2.frame _ _ _ v2 λc hc o e=>up c o (λzz=>qf.zg (zz▸hc)) e)
  (e8.extBut _ _ (YBz zl) (e7.extBut _ _ (YBz zl) (YAn _ rfl))) λc o c1 c2 c3 c4 e=>up c o c1 (k5 c o c1 c2 c3 c4 e)
def zjp{Q:Fin->Shared->Prop}(qf:ZAp z a b i j f g)(D1:Draws P w A i f n F1 S1)(hz:IsZip s.heap z a b .none)(ha:IsPair s.heap a (.ref i) (.ref j))(s1:S1 n s.heap)
  (q:∀h' e,(∀c o,c≠z->c≠b->c≠i->c≠j->s.heap.get? c=some o->h'.get? c=some o)->(∃o,h'.get? e=some o/\o.cls=.type "StopIteration")->E (.ref e) {s with heap:=h'}) :
  wpAny (model P w) A (Builtin.«zip.__next__» ⟨[.ref z],[]⟩) Q E s:=by
 show wpAny _ _ (field (.ref z) 2 >>= _) _ _ _;refine YAa (YAF hz rfl (x:=.bool false) rfl ?_);show wpAny _ _ (field (.ref z) 3 >>= _) _ _ _;refine YAa (YAF hz rfl (x:=.ref a) rfl (YAa (YBg ha rfl ?_)));show wpAny _ _ (Builtin.SmallTypes.ownedTupleIsFree (.ref z) >>= _) _ _ _;refine YAa ?_;unfold Builtin.SmallTypes.ownedTupleIsFree;refine YAa (YAF hz rfl (x:=.none) rfl (YAd ?_));simp only[YCL];refine YAa (YCe (YAa (YAF hz rfl (x:=.ref b) rfl (YAa (YBl hz (by simp) λh1 z1 e1=>?_)))))
 replace z1:IsZip h1 z a b .ellipsis:=z1
 refine YAa ?_;simp only[YC0,YC7,YCE,YDc];refine YAa (YAa (YCz ?_));show wpAny _ _ (Builtin.SmallTypes.nextOf (.ref i) >>= _) _ _ _;refine YAa (D1.done _ _ _ (D1.frame _ _ _ s1 (zb9 e1 qf.zf)) λh2 e e2 he=>?_);obtain⟨oe,ho,hc⟩:=he;have z2:IsZip h2 z a b .ellipsis:=e2 _ _ qf.iz.symm z1;have ez:e≠z:=λx=>by subst x;rw[z2]at ho;cases ho;simp at hc
 refine YBl z2 (by simp) λh3 _ e3=>q h3 e (λc o c1 _ c3 _ x=>e3.extBut _ _ c1 (e2 _ _ c3 (e1.extBut _ _ c1 x))) ⟨oe,e3.extBut _ _ ez ho,hc⟩
def zge{u v:Value}{Q:Option Value->Shared->Prop}(qf:ZAp z a b i j f g)(D1:Draws P w A.in1 i f n F1 S1)(D2:Draws P w A.in1 j g m F2 qg)(hz:IsZip s.heap z a b .none)(ha:IsPair s.heap a (.ref i) (.ref j))(hb:IsPair s.heap b u v)
  (s1:S1 k s.heap) (s2:qg k s.heap) (k1:k<n) (k2:k<m)
  (q:∀x y h' tk t,F1 k x->F2 k y->t=s.heap.objs.size->IsZip h' z a b (rawInt t)->IsPair h' b x y->S1 (k+1) h'->qg (k+1) h'->IsPair h' t x y ->
   (∀c o,c≠z->c≠b->c≠i->c≠j->s.heap.get? c=some o->h'.get? c=some o)->Q (some (.ref t)) {s with heap:=h',toks:=tk}):wpAny (model P w) A (pyNext (.ref z)) Q E s:=by
 have hT:s.TypeIs (.ref z) "zip":=⟨_,hz,rfl⟩;unfold pyNext;exact YAa (YBJ (YAH (name:=Str.ofString "__next__") hT YBR (YA2 YBR hT YC1
  (zjD qf D1 D2 hz ha hb s1 s2 k1 k2 λx y h' tk t a1 a2 a3 a4 a5 a6 a7 a8 a9=>YAd (q x y h' tk t a1 a2 a3 a4 a5 a6 a7 a8 a9)) (YCT _))))
def zgw(qf:ZAp z a b i j f g)(D1:Draws P w A.in1 i f n F1 S1)(hz:IsZip s.heap z a b .none)(ha:IsPair s.heap a (.ref i) (.ref j))(s1:S1 n s.heap)
  (q:∀h',(∀c o,c≠z->c≠b->c≠i->c≠j->s.heap.get? c=some o->h'.get? c=some o)->Q none {s with heap:=h'}):wpAny (model P w) A (pyNext (.ref z)) Q E s:=by
 have hT:s.TypeIs (.ref z) "zip":=⟨_,hz,rfl⟩;unfold pyNext;refine YAa (YBJ (YAH (name:=Str.ofString "__next__") hT YBR (YA2 YBR hT YC1 (zjp qf D1 hz ha s1 λh' e hk he=>?_) (YCT _))));obtain⟨o,ho,hc⟩:=he;exact YAa (YBV (T:="StopIteration") (b:=true) ⟨o,ho,hc⟩ YCM (YAd (q _ hk)))
end
section
variable{X:Cx}{pins:List (Addr×Obj)}{Z:St}{H:Hp}{s:Shared}{h':Heap}{ch:List Addr}{t':Nat}
def Inv.turnedLaid(I:Inv X pins Z H s)(k:∀b u,b∉ch->s.heap.get? b=some u->h'.get? b=some u)(hf:∀b∈ch,FpOk X pins H b)(hp:s.heap.objs.size<=a)(new:ObjOk X.prog X.w (upd H a o) h' a o) :
  Inv X pins Z (upd H a o) {s with heap:=h',toks:=t'}:=by
 have hn:H a=none:=I.hok.fresh hp;have nch:∀b u,H b=some u->b∉ch:=λb u e z=>by rw[(hf b z).1]at e;cases e
 refine I.step (g':=s.gens) (d':=s.drawn) (ch:=ch) (λb hb=>⟨(hf b hb).2.2.2.1,(hf b hb).2.1,(hf b hb).2.2.2.2.1,(hf b hb).2.2.2.2.2⟩) (λb u _ _ hc e _=>k b u hc e) (λb u _ _ hc e _=>⟨u.slots,k b u hc e⟩)
  (λb u _ e n=>by rw[upd_ne (YAs (YAr (YAh e) hp))];exact n) (λb u hc e=>⟨u,k b u hc e⟩) (λb xs e=>by rw[upd_ne (zau e hn)];exact e) (λb u xs e=>by rw[upd_ne (zau e hn)];exact e)
  (λb ps e=>⟨#[],by rw[upd_ne (zau e hn),e];simp⟩) (λm hm=>?_) (λb u e=>?_) I.bare
 .obtain⟨o,es,ep,ho,r⟩:=hm;exact⟨o,es,ep,k _ o (λz=>(hf _ z).2.1 rfl) ho,r⟩
 .by_cases hb:b=a
  .subst hb;rw[zah]at e;cases e;exact new
  .rw[upd_ne hb]at e;refine(I.hok b u e).stay (λc v hc q=>k c v ?_ q) (λc q=>by rw[upd_ne (zau q hn)];exact q) λc xs q=>by rw[upd_ne (zau q hn)];exact q
   rcases hc with z|z
   .rw[z];exact nch b u e
   .exact nch c _ z
def Inv.turnedAll(I:Inv X pins Z H s)(k:∀b u,b∉ch->s.heap.get? b=some u->h'.get? b=some u)(hf:∀b∈ch,FpOk X pins H b):Inv X pins Z H {s with heap:=h',toks:=t'}:=by
 have nch:∀b u,H b=some u->b∉ch:=λb u e z=>by rw[(hf b z).1]at e;cases e
 refine I.step (g':=s.gens) (d':=s.drawn) (ch:=ch) (λb hb=>⟨(hf b hb).2.2.2.1,(hf b hb).2.1,(hf b hb).2.2.2.2.1,(hf b hb).2.2.2.2.2⟩) (λb u _ _ hc e _=>k b u hc e) (λb u _ _ hc e _=>⟨u.slots,k b u hc e⟩)
  (λ_ _ _ _ n=>n) (λb u hc e=>⟨u,k b u hc e⟩) (λ_ _ e=>e) (λ_ _ _ e=>e) (λb ps e=>⟨#[],by rw[e];simp⟩) (λm hm=>?_) (λb u e=>?_) I.bare
 .obtain⟨o,es,ep,ho,r⟩:=hm;exact⟨o,es,ep,k _ o (λz=>(hf _ z).2.1 rfl) ho,r⟩
 .refine(I.hok b u e).stay (λc v hc q=>k c v ?_ q) (λ_ q=>q) λ_ _ q=>q;rcases hc with z|z
  .rw[z];exact nch b u e
  .exact nch c _ z
end
def SIt(tp:Bool)(h:Heap)(it l:Addr)(k:Nat):Prop:=match tp with|true=>h.IsTupleIter it l k|false=>h.IsListIter it l k
def SCn(tp:Bool)(h:Heap)(l:Addr)(xs:Array Value):Prop:=match tp with|true=>h.IsTuple l xs|false=>h.IsList l xs
def SQ(tp:Bool)(K:qk)(H:Hp)(a:Addr)(xs:List V):Prop:=match tp with|true=>SqT K H a xs|false=>SqL K H a xs
def SIt.obj(x:SIt tp h it l k):∃o,h.get? it=some o/\∀v,o.data≠.cell v:=by
 cases tp<;>(obtain⟨o,e,c,d⟩:=x;exact⟨o,e,λv z=>by rw[d]at z;cases z⟩)
def SIt.keep(x:SIt tp h it l k)(q:∀o,h.get? it=some o->h'.get? it=some o):SIt tp h' it l k:=by
 cases tp<;>(obtain⟨o,e,r⟩:=x;exact⟨o,q o e,r⟩)
def SCn.lt(x:SCn tp h l xs):l<h.objs.size:=by
 cases tp<;>(obtain⟨o,e,_⟩:=x;exact YAh e)
def zjj(tp:Bool)(hh:A.handled=none)(it l:Addr)(hne:l≠it)(xs:Array Value) :
  Draws P w A it [it,l] xs.size (λi v=>xs[i]?=some v) (λi h=>SIt tp h it l i/\SCn tp h l xs):=by
 cases tp
 .exact Draws.list hh it l hne xs
 .exact zkH hh it l hne xs
section
variable{X:Cx}{pins:List (Addr×Obj)}{Z:St}{H:Hp}{s:Shared}{tp:Bool}{a:Addr}{xs ys:List V}
def Inv.sq(I:Inv X pins Z H s)(h:SQ tp X.K H a xs):∃its:List Value,Vals xs its/\SCn tp s.heap a its.toArray/\xs.length<=sizeLine:=by
 cases tp
 .obtain⟨its,r,p,z⟩:=I.list h;exact⟨its,r,p.isList,z⟩
 .exact I.tuple h
def Inv.sq_inj(I:Inv X pins Z H s)(h:SQ tp X.K H a xs)(h':SQ tp X.K H a ys):xs=ys:=by
 cases tp
 .exact I.list_inj h h'
 .exact I.tuple_inj h h'
end
def zsU(n l m:Nat)(h1:l<n)(h2:m<n):ZAp (n+4) (n+2) (n+3) n (n+1) [n,l] [n+1,m]:=by
 have e:∀{p q:Nat},p≠q->∀{r:Nat},p≠r->p∉[q,r]:=λ{p q} h {r} h' z=>by
  rcases YAv.mp z with z|z
  .exact h z
  .exact h' (YAw.mp z)
 have r:∀{p q:Nat},p<q\/q<p->(p:Addr)≠q:=λh=>h.elim YAs λh=>(YAs h).symm;exact⟨r (by omega),r (by omega),r (by omega),r (by omega),r (by omega),r (by omega),r (by omega),r (by omega),r (by omega),r (by omega),e (r (by omega)) (r (by omega)),e (r (by omega)) (r (by omega)),e (r (by omega)) (r (by omega)),e (r (by omega)) (r (by omega)),e (r (by omega)) (r (by omega)),e (r (by omega)) (r (by omega))⟩
theorem zeK:∀(more:List (Key×V))(kvs:List (Key×V)),(∀k∈more.map (·.1),k∉kvs.map (·.1))->(more.map (·.1)).Nodup->zfP kvs more=kvs++more
 |[],kvs,_,_=>by unfold zfP;simp
 |x::more,kvs,h,hn=>by
  rw[YAm,YAP]at hn;have hx:valV kvs x.1=none:=by
   cases e:valV kvs x.1 with
   |none=>rfl
   |some v=>exact absurd (zsi e) (h x.1 (by simp))
  show zfP (putK kvs x.1 x.2) more=_;rw[zp7 _ hx,zeK more _ (λk hk q=>?_) hn.2,YCg]
  .rfl
  .rw[YAC]at q;rcases YAG.mp q with q|q
   .exact h k (by rw[YAm];exact YAj _ hk) q
   .have:k=x.1:=by simpa using q
    exact hn.1 (this▸hk)
section
variable{X:Cx}{pins:List (Addr×Obj)}{Z:St}{H:Hp}{s:Shared}
def Inv.freeze(I:Inv X pins Z H s)(hd:H d=some (.dK kvs))(ho:s.heap.get? d=some o):Inv X pins Z (upd H d (.frz o (.dK kvs))) s:=by
 have nd:∀b u,H b=some u->(∀q,u≠.dK q)->b≠d:=λb u e n z=>by rw[z,hd]at e;cases e;exact n _ rfl
 refine I.step (g':=s.gens) (d':=s.drawn) (t':=s.toks) (h':=s.heap) (ch:=[]) (λ_ z=>nomatch z) (λb u _ _ _ e _=>e) (λb u _ _ _ e _=>⟨u.slots,e⟩)
  (λb u _ e n=>by rw[upd_ne (λz=>by rw[z,hd]at n;cases n)];exact n) (λb u _ e=>⟨u,e⟩) (λb xs e=>by rw[upd_ne (nd b _ e (λq z=>by cases z))];exact e) (λb u xs e=>by rw[upd_ne (nd b _ e (λq z=>by cases z))];exact e)
  (λb ps e=>⟨#[],by rw[upd_ne (nd b _ e (λq z=>by cases z)),e];simp⟩) (λm hm=>hm) (λb u e=>?_) I.bare
 have st:∀c w,H c=some w->ObjOk X.prog X.w (upd H d (.frz o (.dK kvs))) s.heap c w:=λc w q=>
  (I.hok c w q).stay (λ_ _ _ z=>z) (λc' q'=>by rw[upd_ne (nd c' _ q' (λq z=>by cases z))];exact q') λc' xs q'=>by rw[upd_ne (nd c' _ q' (λq z=>by cases z))];exact q'
 by_cases hb:b=d
 .subst hb;rw[zah]at e;cases e;exact⟨ho,st b _ hd⟩
 .rw[upd_ne hb]at e;exact st b u e
end
theorem zju{α β:Type}{F:α->β->Prop}:∀{l₁:List α}{l₂:List β},Paired F l₁ l₂->∀{i:Nat}{a:α}{b:β},l₁[i]?=some a->l₂[i]?=some b->F a b
 |_,_,.nil,i,a,b,h,_=>by simp at h
 |_,_,.cons r t,0,a,b,h1,h2=>by simp at h1 h2;subst h1 h2;exact r
 |_,_,.cons r t,i+1,a,b,h1,h2=>zju t (by simpa using h1) (by simpa using h2)
def ztJ(h:zkP k u=true):RelV (kV k) u:=by
 rcases za7 h with⟨i,t,rfl,rfl⟩|⟨x,t,rfl,rfl⟩
 .exact⟨t,rfl⟩
 .exact⟨t,rfl⟩
def zhV:splitId "dict.__len__"=some ("dict","__len__"):=by decide +kernel
end L2
namespace HT
open PySem PySem.Spec PyProof.Rows
section
variable{prog:Program}{w:World}{A:Around}{E:Value->Shared->Prop}{s:Shared}
def getItem_tuple_whole{t sl:Addr}{items:Array Value}{vl vu:Value}{lo hi:Option Int}{Q:Value->Shared->Prop}(ht:IsTup s.heap t items)(hs:s.heap.IsSliceOf sl vl vu .none)(pl:IsPart vl lo)(pu:IsPart vu hi)
  (hw:sIx items.size 0 lo=0/\sIx items.size items.size hi=items.size)
  (h:Q (.ref t) s):wpAny (model prog w) A (getItem (.ref t) (.ref sl)) Q E s:=by
 obtain⟨os,hos,hcs,hds⟩:=id hs;have hTs:s.TypeIs (.ref sl) "slice":=⟨os,hos,hcs⟩;unfold getItem
 try with_reducible refine YAW ?_
 first|refine YAa (YAd ?_)|skip
 refine YAa (wpAny_sequenceKey ht.typeIs (by decide) ?_);refine YAa (YAH (name:=Str.ofString "__getitem__") ht.typeIs YAQ
  (YA2 YAQ ht.typeIs entry_tuple_getitem ?_ (args_tuple_getitem _ _)))
 show wpAny _ _ (Builtin.Tuple.tupleItemsOf (.ref t) >>= _) _ _ s;refine YAa (tupleItemsOf_ ht ?_);refine YAa (YCI hTs ?_);rw[if_pos (by decide)];refine YAa (zdE hs pl pu ?_);have hyes:((((sIx items.size 0 lo:Nat):Int)==0&&(1:Int)==1&&(sIx items.size items.size hi-sIx items.size 0 lo)==items.size)=true):=by
  rw[hw.1,hw.2];simp
 show wpAny _ _ (if (((sIx items.size 0 lo:Nat):Int)==0&&(1:Int)==1&&(sIx items.size items.size hi-sIx items.size 0 lo)==items.size)=true then _ else _) _ _ s;rw[if_pos hyes];unfold Builtin.Tuple.tupleIsExact;refine YAa (YAa (YCI ht.typeIs (YAd ?_)));rw[if_pos (by decide)];refine YAa (YCe ?_);exact YAd ⟨_,rfl,YAd h⟩
end
end HT
namespace L2
open PySem PySem.Spec PyProof.Rows
section
variable{prog:Program}{w:World}{A:Around}{E:Value->Shared->Prop}{s:Shared}
theorem zjr(hne:t≠it):∀(n i:Nat)(s:Shared)(Q:List Value->Shared->Prop),s.heap.IsListIter it t i->s.heap.IsList t items->i+n<=items.size ->
  (∀h',h'.IsListIter it t (i+n)->Heap.SameBut it s.heap h'->Q ((items.toList.drop i).take n) {s with heap:=h'})->wpAny (model prog w) A (draw (.ref it) n) Q E s
 |0,i,s,Q,hit,_,_,hQ=>by
  show wpAny _ _ (pure []) Q E s;exact YAd (by simpa using hQ s.heap hit (Heap.SameBut.refl ..))
 |n+1,i,s,Q,hit,ht,hle,hQ=>by
  have hlt:i<items.size:=by omega
  show wpAny _ _ (pyNext (.ref it) >>= _) Q E s;refine YAa (wpAny_pyNext_list_item hit ht (x:=items[i]) (by simp[hlt]) λh₁ hit₁ hs₁=>?_);refine YAa (YAW (zjr hne n (i+1) _ _ hit₁ (ht.extBut hs₁.extBut hne) (by omega) λh₂ hit₂ hs₂=>YAd ?_));have hd:items.toList.drop i=items[i]::items.toList.drop (i+1):=by simp[YBE,hlt]
  have:=hQ h₂ (by rw[show i+(n+1)=i+1+n by omega];exact hit₂) (hs₁.trans hs₂)
  rw[hd,List.take_succ_cons]at this;exact this
def zfZ(hh:A.handled=none)(ht:s.heap.IsList t items)
  (hQ:∀h',Heap.ExtBut s.heap.objs.size s.heap h'->Q items.toList {s with heap:=h'}):wpAny (model prog w) A (unpackItems (.ref t) items.size none) Q E s:=by
 have hlt:t≠s.heap.objs.size:=by obtain⟨o,ho,_⟩:=ht;exact YAs (YAh ho)
 unfold unpackItems;refine YAa ?_
 .unfold notIterableAtAll;refine YAa (YC6 ht.typeIs slot_list_iter.lookup ?_);refine YAd ?_;simp only[YBA,YCk];refine YAa (YAW (YBU ht ?_));have ht0:=ht.push {cls:=.type "list_iterator",data:=.fields #[.ref t,.int 0 0]};refine YAa (YAW (zjr hlt items.size 0 _ _ ⟨_,YAn _ rfl,rfl,rfl⟩ ht0 (by omega) λh₁ hit₁ hs₁=>?_));have hall:List.take items.size (List.drop 0 items.toList)=items.toList:=by
   rw[List.drop_zero];exact YCc (by simp)
  rw[hall];rw[if_neg (by simp)];have ht₁:h₁.IsList t items:=ht0.extBut hs₁.extBut hlt;refine YAa (YAW (wpAny_pyNext_list_end hh hit₁ ht₁ (by simp) λh₂ he₂=>?_));simp only[Option.isSome_none,YBA,YCk];refine YAd (hQ h₂ λb o hb e=>he₂ b o hb (hs₁.extBut b o hb (YAc _ e)))
def zfv{x1}(hh:A.handled=none)(ht:s.heap.IsList t items)
  (hn:(assignEach elts env).length=items.size) (hstar:(assignEach elts env).findIdx? (·.1)=none)
  (h:∀h',Heap.ExtBut s.heap.objs.size s.heap h'->wpAny (model prog w) A (assignInOrder ((assignEach elts env).map (·.2)) items.toList) Q E {s with heap:=h'}) :
  wpAny (model prog w) A (assign (.Tuple elts x1 pos) env (.ref t)) Q E s:=by
 rw[assign_Tuple];refine YAa (YCy ?_);unfold unpack;rw[hn,hstar];exact YAa (YAW (zfZ hh ht h))
end
def gSeq(K:qk)(n:Nat)(t:TGs):TG:=λv Z H Q=>∃a xs,v=.ref a/\(SqT K H a xs\/SqL K H a xs)/\xs.length=n/\t xs Z H Q
def zcU(hc:X.calm=true)(h:PGs X es t)
  (hn:(assignEach es X.env).length=n:=by rfl) (hst:(assignEach es X.env).findIdx? (·.1)=none:=by rfl):PG X (.Tuple es k pos) (gSeq X.K n t):=by
 intro pins s Z H v u Q I r hw;obtain⟨a,xs,e1,hq,hl,hw⟩:=hw;rcases hq with hq|hq
 .exact ztW hc h hn hst pins s Z H v u Q I r ⟨a,xs,e1,hq,hl,hw⟩
 .subst e1;cases r;obtain⟨its,rv,ht,hz⟩:=I.list hq;refine zfv (I.ok.hd hc) ht.isList (by simp[hn,<-hl,rv.length]) hst λh' hx=>?_;have I1:Inv X pins Z H {s with heap:=h'}:=I.kept (t':=s.toks) λb o e=>hx b o (YAs (YAh e)) e;exact h pins _ Z H xs _ Q I1 (by simpa using rv) hw
def ztC{K:qk}{n:Nat}{t:TGs}(h:zhe t):zh6 (gSeq K n t):=λv Z H Q Q' f ⟨a,xs,e,s,l,q⟩=>⟨a,xs,e,s,l,h _ _ _ _ _ f q⟩
def zte{K:qk}{sub:List (Option Nat)}{n:Nat}{t:TGs}(h:zjq sub t):zj2 sub (gSeq K n t):=λv Z H Q ⟨a,xs,e,s,l,q⟩=>⟨a,xs,e,s,l,h _ _ _ _ q⟩
section
variable{P:Program}{w:World}{A:Around}{E:Value->Shared->Prop}{s:Shared}{z a b i j:Addr}{f g:List Addr}{n m k:Nat}{F1 F2:Nat->Value->Prop}{S1 qg:Nat->Heap->Prop}
def zik(qf:ZAp z a b i j f g)(D1:Draws P w A i f n F1 S1)(D2:Draws P w A j g m F2 qg)(hz:IsZip s.heap z a b .none)(ha:IsPair s.heap a (.ref i) (.ref j))(hb:IsPair s.heap b u v)
  (s1:S1 m s.heap) (s2:qg m s.heap) (k1:m<n)
  (q:∀h' tk e,(∀c o,c≠z->c≠b->c≠i->c≠j->s.heap.get? c=some o->h'.get? c=some o)->(∃o,h'.get? e=some o/\o.cls=.type "StopIteration")->E (.ref e) {s with heap:=h',toks:=tk}) :
  wpAny (model P w) A (Builtin.«zip.__next__» ⟨[.ref z],[]⟩) Q E s:=by
 show wpAny _ _ (field (.ref z) 2 >>= _) _ _ _;refine YAa (YAF hz rfl (x:=.bool false) rfl ?_);show wpAny _ _ (field (.ref z) 3 >>= _) _ _ _;refine YAa (YAF hz rfl (x:=.ref a) rfl (YAa (YBg ha rfl ?_)));show wpAny _ _ (Builtin.SmallTypes.ownedTupleIsFree (.ref z) >>= _) _ _ _;refine YAa ?_;unfold Builtin.SmallTypes.ownedTupleIsFree;refine YAa (YAF hz rfl (x:=.none) rfl (YAd ?_));simp only[YCL];refine YAa (YCe (YAa (YAF hz rfl (x:=.ref b) rfl (YAa (YBl hz (by simp) λh1 z1 e1=>?_)))))
 replace z1:IsZip h1 z a b .ellipsis:=z1
 refine YAa ?_;simp only[YC0,YC7,YCE,YDc];refine YAa (YAa (YCz ?_));show wpAny _ _ (Builtin.SmallTypes.nextOf (.ref i) >>= _) _ _ _;have t1:S1 m h1:=D1.frame _ _ _ s1 (zb9 e1 qf.zf);have t2:qg m h1:=D2.frame _ _ _ s2 (zb9 e1 qf.zg);refine YAa (D1.item m _ _ _ k1 t1 λx h2 tk2 px u1 e2=>YAd ?_);have b2:IsPair h2 b u v:=e2.extBut _ _ qf.bi (e1.extBut _ _ qf.bz hb);refine YAa (YBg b2 rfl (YAa (YCv b2 λh3 b3 e3=>?_)))
 replace b3:IsPair h3 b x v:=b3
 refine YAa (YDf (YAd ?_));refine YAa (YAa (YCz ?_));show wpAny _ _ (Builtin.SmallTypes.nextOf (.ref j) >>= _) _ _ _;have t3:qg m h3:=D2.frame _ _ _ (D2.frame _ _ _ t2 (zb9 e2 qf.ig)) (zb9 e3 qf.bg);refine YAa (D2.done _ _ _ t3 λh4 e e4 he=>?_);obtain⟨oe,ho,hc⟩:=he;have z3:IsZip h3 z a b .ellipsis:=e3.extBut _ _ qf.bz.symm (e2.extBut _ _ qf.iz.symm z1);have z4:IsZip h4 z a b .ellipsis:=e4 _ _ qf.jz.symm z3;have ez:e≠z:=λx=>by subst x;rw[z4]at ho;cases ho;simp at hc
 refine YBl z4 (by simp) λh5 _ e5=>q h5 tk2 e (λc o c1 c2 c3 c4 x=>e5.extBut _ _ c1 (e4 _ _ c4 (e3.extBut _ _ c2 (e2.extBut _ _ c3 (e1.extBut _ _ c1 x))))) ⟨oe,e5.extBut _ _ ez ho,hc⟩
def zf1(qf:ZAp z a b i j f g)(D1:Draws P w A.in1 i f n F1 S1)(D2:Draws P w A.in1 j g m F2 qg)(hz:IsZip s.heap z a b .none)(ha:IsPair s.heap a (.ref i) (.ref j))(hb:IsPair s.heap b u v)(s1:S1 m s.heap)(s2:qg m s.heap)(k1:m<n)
  (q:∀h' tk,(∀c o,c≠z->c≠b->c≠i->c≠j->s.heap.get? c=some o->h'.get? c=some o)->Q none {s with heap:=h',toks:=tk}):wpAny (model P w) A (pyNext (.ref z)) Q E s:=by
 have hT:s.TypeIs (.ref z) "zip":=⟨_,hz,rfl⟩;unfold pyNext;refine YAa (YBJ (YAH (name:=Str.ofString "__next__") hT YBR (YA2 YBR hT YC1 (zik qf D1 D2 hz ha hb s1 s2 k1 λh' tk e hk he=>?_) (YCT _))));obtain⟨o,ho,hc⟩:=he;exact YAa (YBV (T:="StopIteration") (b:=true) ⟨o,ho,hc⟩ YCM (YAd (q _ _ hk)))
end
section
variable{X:Cx}
def zuG(K:qk):R2:=λx y H Q=>∃a b xs ys,x=.ref a/\y=.ref b/\SqT K H a xs/\SqT K H b ys/\xs.length+ys.length<=sizeLine /\
 (xs=[]->Q (.ref b) H)/\(xs≠[]->ys=[]->Q (.ref a) H)/\(∀p,H p=none->Q (.ref p) (upd H p (.tup (xs++ys))))
def zsz:OpR X (binaryOp .Add) (zuG X.K):=by
 intro pins s Z H x y v u Q I rx ry h;obtain⟨a,b,xs,ys,rfl,rfl,ha,hb,hz,q1,q2,q3⟩:=h;by_cases hx:xs=[]
 .subst hx;cases rx;cases ry;obtain⟨its,r1,p1,_⟩:=I.tuple ha;obtain⟨its2,r2,p2,_⟩:=I.tuple hb;obtain⟨⟨cls,dd,data,sl⟩,ho,hc,n,hd⟩:=id p1;obtain⟨⟨cls2,dd2,data2,sl2⟩,ho2,hc2,n2,hd2⟩:=id p2;simp only at hc hd hc2 hd2;subst hc hd hc2 hd2;have hi:its=[]:=r1.nil_iff.mpr rfl;exact concat_meets ⟨_,ho,rfl⟩ ⟨_,ho2,rfl⟩ YCZ seq_tuple_add YCa YB2 (YBZ _ _)
   (tuple_addW0 a b its.toArray its2.toArray n n2 dd dd2 sl sl2 (by simp[hi])) ⟨ho,ho2,⟨.ref b,H,I,rfl,q1 rfl⟩⟩
 .exact zrz pins s Z H (.ref a) (.ref b) v u Q I rx ry ⟨a,b,xs,ys,rfl,rfl,ha,hb,hx,hz,q2 hx,λ_ p hp=>q3 p hp⟩
def rSl3(K:qk):V->Option Int->Option Int->Hp->VK->Prop:=λx lo hi H Q=>∃a xs,x=.ref a/\SqT K H a xs/\(cutV xs lo hi=xs->Q (.ref a) H)/\∀p,H p=none->Q (.ref p) (upd H p (.tup (cutV xs lo hi)))
def zrI:SlR X (rSl3 X.K):=by
 intro pins s Z H x v vl vu lo hi sl Q I rx hs pl pu h;obtain⟨a,xs,rfl,hx,q1,q2⟩:=h;by_cases hw:HT.sIx xs.length 0 lo=0/\HT.sIx xs.length xs.length hi=xs.length
 .cases rx;obtain⟨its,r,ht,hz⟩:=I.tuple hx;have hlen:its.toArray.size=xs.length:=by rw[YAq];exact r.length.symm
  refine⟨"tuple",_,YAQ.lookup,ht.typeIs,?_⟩;refine HT.getItem_tuple_whole ht hs pl pu (by rw[hlen];exact hw) ?_;refine⟨.ref a,H,I,rfl,q1 ?_⟩;unfold cutV;rw[hw.1,hw.2];simp
 .exact ztZ pins s Z H (.ref a) v vl vu lo hi sl Q I rx hs pl pu ⟨a,xs,rfl,hx,hw,q2⟩
end
end L2
namespace Fd
open PySem L2
inductive D where
 |non|bl (b:Bool)|int (i:Int)|str (x:Str)|tup (xs:List D)|lst (n:Bool) (xs:List D)|box|dct (n:Bool) (ks:List Str) (xs:List D)|obj (a:Addr)|fdc (ks:List Str) (xs:List D)
def kvD(ks:List Str)(vs:List V):List (Key×V):=(ks.zip vs).map λp=>(Sum.inr p.1,p.2)
structure Bk where
 K:qk
 β:Addr
 H0:Hp
 G0:Hp
 P:Prop
mutual
def Rep(c:Bk)(G:Hp):D->V->Prop
 |.non,v=>v=.non
 |.bl b,v=>v=.bl b
 |.int i,v=>v=.int i
 |.str x,v=>v=.str x
 |.tup xs,v=>∃a vs,v=.ref a/\SqT c.K G a vs/\Reps c G xs vs
 |.lst n xs,v=>∃a vs,v=.ref a/\G a=some (.lst vs)/\(n=true->c.H0 a=none)/\Reps c G xs vs
 |.box,v=>v=.ref c.β
 |.dct n ks xs,v=>∃a vs,v=.ref a/\G a=some (.dK (kvD ks vs))/\(n=true->c.H0 a=none)/\ks.length=vs.length/\Reps c G xs vs
 |.fdc ks xs,v=>∃a vs o,v=.ref a/\G a=some (.frz o (.dK (kvD ks vs)))/\ks.length=vs.length/\Reps c G xs vs
 |.obj a,v=>v=.ref a
def Reps(c:Bk)(G:Hp):List D->List V->Prop
 |[],vs=>vs=[]
 |x::xs,vs=>∃v ws,vs=v::ws/\Rep c G x v/\Reps c G xs ws
end
def zbc(e:Same H H')(h:SqT K H a xs):SqT K H' a xs:=by
 rcases h with h|h
 .rcases h with h|⟨o,h⟩
  .exact .inl (.inl (e _ _ h))
  .exact .inl (.inr ⟨o,e _ _ h⟩)
 .exact .inr h
mutual
theorem Rep.mono(e:Same G G'):∀{d:D}{v:V},Rep c G d v->Rep c G' d v
 |.non,_,h=>h
 |.bl _,_,h=>h
 |.int _,_,h=>h
 |.str _,_,h=>h
 |.box,_,h=>h
 |.obj _,_,h=>h
 |.dct n ks xs,_,⟨a,vs,h1,h2,h4,h5,h3⟩=>⟨a,vs,h1,e _ _ h2,h4,h5,Reps.mono e h3⟩
 |.fdc ks xs,_,⟨a,vs,o,h1,h2,h5,h3⟩=>⟨a,vs,o,h1,e _ _ h2,h5,Reps.mono e h3⟩
 |.tup xs,_,⟨a,vs,h1,h2,h3⟩=>⟨a,vs,h1,zbc e h2,Reps.mono e h3⟩
 |.lst n xs,_,⟨a,vs,h1,h2,h4,h3⟩=>⟨a,vs,h1,e _ _ h2,h4,Reps.mono e h3⟩
theorem Reps.mono(e:Same G G'):∀{ds:List D}{vs:List V},Reps c G ds vs->Reps c G' ds vs
 |[],_,h=>h
 |_::_,_,⟨v,ws,h1,h2,h3⟩=>⟨v,ws,h1,Rep.mono e h2,Reps.mono e h3⟩
end
def D.old:D->D
 |.non=>.non
 |.bl b=>.bl b
 |.int i=>.int i
 |.str x=>.str x
 |.box=>.box
 |.obj a=>.obj a
 |.dct _ ks xs=>.dct false ks (xs.map D.old)
 |.fdc ks xs=>.fdc ks (xs.map D.old)
 |.tup xs=>.tup (xs.map D.old)
 |.lst _ xs=>.lst false (xs.map D.old)
mutual
/-- handed on to another call -/
theorem Rep.hand(hk:c.K=c'.K)(hb:c.β=c'.β):∀{d:D}{v:V},Rep c G d v->Rep c' G d.old v
 |.non,_,h=>by unfold D.old;exact h
 |.bl _,_,h=>by unfold D.old;exact h
 |.int _,_,h=>by unfold D.old;exact h
 |.str _,_,h=>by unfold D.old;exact h
 |.box,_,h=>by unfold D.old;show _=V.ref c'.β;rw[<-hb];exact h
 |.obj _,_,h=>by unfold D.old;exact h
 |.dct n ks xs,_,⟨a,vs,h1,h2,h4,h5,h3⟩=>by unfold D.old;exact⟨a,vs,h1,h2,(λz=>by cases z),h5,Reps.hand hk hb h3⟩
 |.fdc ks xs,_,⟨a,vs,o,h1,h2,h5,h3⟩=>by unfold D.old;exact⟨a,vs,o,h1,h2,h5,Reps.hand hk hb h3⟩
 |.tup xs,_,⟨a,vs,h1,h2,h3⟩=>by unfold D.old;exact⟨a,vs,h1,hk▸h2,Reps.hand hk hb h3⟩
 |.lst n xs,_,⟨a,vs,h1,h2,h4,h3⟩=>by unfold D.old;exact⟨a,vs,h1,h2,(λz=>by cases z),Reps.hand hk hb h3⟩
theorem Reps.hand(hk:c.K=c'.K)(hb:c.β=c'.β):∀{ds:List D}{vs:List V},Reps c G ds vs->Reps c' G (ds.map D.old) vs
 |[],_,h=>h
 |_::_,_,⟨v,ws,h1,h2,h3⟩=>⟨v,ws,h1,Rep.hand hk hb h2,Reps.hand hk hb h3⟩
end
mutual
/-- and back: what is newer than the inner call is newer than the outer one -/
theorem Rep.back(hk:c'.K=c.K)(hb:c'.β=c.β)(hn:∀a,c'.H0 a=none->c.H0 a=none):∀{d:D}{v:V},Rep c' G d v->Rep c G d v
 |.non,_,h=>h
 |.bl _,_,h=>h
 |.int _,_,h=>h
 |.str _,_,h=>h
 |.box,_,h=>by show _=V.ref c.β;rw[<-hb];exact h
 |.obj _,_,h=>h
 |.dct n ks xs,_,⟨a,vs,h1,h2,h4,h5,h3⟩=>⟨a,vs,h1,h2,λz=>hn a (h4 z),h5,Reps.back hk hb hn h3⟩
 |.fdc ks xs,_,⟨a,vs,o,h1,h2,h5,h3⟩=>⟨a,vs,o,h1,h2,h5,Reps.back hk hb hn h3⟩
 |.tup xs,_,⟨a,vs,h1,h2,h3⟩=>⟨a,vs,h1,hk▸h2,Reps.back hk hb hn h3⟩
 |.lst n xs,_,⟨a,vs,h1,h2,h4,h3⟩=>⟨a,vs,h1,h2,λz=>hn a (h4 z),Reps.back hk hb hn h3⟩
theorem Reps.back(hk:c'.K=c.K)(hb:c'.β=c.β)(hn:∀a,c'.H0 a=none->c.H0 a=none):∀{ds:List D}{vs:List V},Reps c' G ds vs->Reps c G ds vs
 |[],_,h=>h
 |_::_,_,⟨v,ws,h1,h2,h3⟩=>⟨v,ws,h1,Rep.back hk hb hn h2,Reps.back hk hb hn h3⟩
end
theorem Reps.length :∀{ds:List D}{vs:List V},Reps c G ds vs->ds.length=vs.length
 |[],_,h=>by cases h;rfl
 |_::_,_,⟨v,ws,h1,_,h3⟩=>by subst h1;simp[Reps.length h3]
theorem Reps.get :∀{ds:List D}{vs:List V}{i:Nat}{d:D},Reps c G ds vs->ds[i]?=some d->∃v,vs[i]?=some v/\Rep c G d v
 |[],_,_,_,_,e=>by simp at e
 |_::_,_,0,_,⟨v,ws,h1,h2,_⟩,e=>by subst h1;simp at e;subst e;exact⟨v,rfl,h2⟩
 |_::_,_,i+1,d,⟨v,ws,h1,_,h3⟩,e=>by subst h1;exact Reps.get (i:=i) h3 (by simpa using e)
theorem Reps.append :∀{ds es:List D}{vs ws:List V},Reps c G ds vs->Reps c G es ws->Reps c G (ds++es) (vs++ws)
 |[],_,_,_,h,k=>by cases h;exact k
 |_::_,_,_,_,⟨v,us,h1,h2,h3⟩,k=>by subst h1;exact⟨v,us++_,rfl,h2,Reps.append h3 k⟩
def Reps.one(h:Rep c G d v):Reps c G [d] [v]:=⟨v,[],rfl,h,rfl⟩
theorem Reps.set(h:Rep c G d v):∀{ds:List D}{vs:List V}(i:Nat),Reps c G ds vs->Reps c G (ds.set i d) (vs.set i v)
 |[],_,_,k=>by cases k;rfl
 |_::_,_,0,⟨u,us,h1,h2,h3⟩=>by subst h1;exact⟨v,us,rfl,h,h3⟩
 |_::_,_,i+1,⟨u,us,h1,h2,h3⟩=>by subst h1;exact⟨u,us.set i v,rfl,h2,Reps.set h i h3⟩
theorem Reps.take :∀{ds:List D}{vs:List V}(i:Nat),Reps c G ds vs->Reps c G (ds.take i) (vs.take i)
 |[],_,_,k=>by cases k;simp[Reps]
 |_::_,_,0,_=>by simp[Reps]
 |_::_,_,i+1,⟨u,us,h1,h2,h3⟩=>by subst h1;exact⟨u,us.take i,rfl,h2,Reps.take i h3⟩
theorem Reps.drop :∀{ds:List D}{vs:List V}(i:Nat),Reps c G ds vs->Reps c G (ds.drop i) (vs.drop i)
 |[],_,_,k=>by cases k;simp[Reps]
 |_::_,_,0,k=>k
 |_::_,_,i+1,⟨u,us,h1,h2,h3⟩=>by subst h1;exact Reps.drop i h3
theorem reps_bools :∀{ns:List Bool}{vs:List V},Reps c G (ns.map D.bl) vs↔vs=ns.map V.bl
 |[],_=>Iff.rfl
 |n::ns,vs=>by
  constructor
  .rintro⟨v,ws,h1,h2,h3⟩;rw[h1,reps_bools.mp h3]
   have:v=V.bl n:=h2
   rw[this];rfl
  .rintro rfl;exact⟨V.bl n,ns.map V.bl,rfl,rfl,reps_bools.mpr rfl⟩
def boxO(cc:Addr)(p r d:Int):HO:=.lst [.ref cc,.int p,.int r,.int d]
structure BoxD(β:Addr)(H G:Hp):Prop where
 ex:∃cc p r d,∃ns:List Int,H β=some (boxO cc p r d)/\0<=p/\0<=r/\0<=d/\d<2147483629/\G cc=some (.lst (ns.map V.int))/\ns.length<=63
 still:G β=none
def BoxD.at(b:BoxD β H G):∃o,H β=some o:=by
 obtain⟨cc,p,r,d,ns,h,_⟩:=b.ex;exact⟨_,h⟩
def ze1:HO->Prop
 |.tup _=>True
 |.frz _ _=>True
 |_=>False
structure Stp(β:Addr)(H G H' G':Hp):Prop where
 gg:Same G G'
 gh:Same G' H'
 fr:∀a o,a≠β->H a=some o->H' a=some o
 nw:∀a,G' a≠none->G a≠none\/H a=none\/∃o,H a=some o/\ze1 o
 bx:BoxD β H' G'
 b0:H β≠none
 bc:∀cc p r d,H β=some (boxO cc p r d)->∃p r d,H' β=some (boxO cc p r d)
theorem Stp.refl(gh:Same G H)(b:BoxD β H G):Stp β H G H G:=
 ⟨Same.refl _,gh,λ_ _ _ e=>e,λ_ e=>.inl e,b,λz=>by(obtain⟨o,h⟩:=b.at;rw[z]at h;cases h),λ_ p r d h=>⟨p,r,d,h⟩⟩
def Stp.free(s:Stp β H G H' G')(h:H' a=none):H a=none:=by
 cases e:H a with
 |none=>rfl
 |some o=>
  by_cases z:a=β
  .obtain⟨o',h'⟩:=s.bx.at;rw[z,h']at h;cases h
  .rw[s.fr a o z e]at h;cases h
theorem Stp.trans(s:Stp β H G H1 G1)(t:Stp β H1 G1 H2 G2):Stp β H G H2 G2:=
 ⟨s.gg.trans t.gg,t.gh,λa o n e=>t.fr a o n (s.fr a o n e),λa e=>(t.nw a e).elim (s.nw a) λz=>z.elim (λz=>.inr (.inl (s.free z))) λ⟨o,ho,st⟩=>by
  cases e:H a with
  |none=>exact .inr (.inl rfl)
  |some o'=>
   have nb:a≠β:=λz=>by
    obtain⟨cc,p,r,d,ns,h,_⟩:=s.bx.ex;rw[z,h]at ho;cases ho;exact st
   have:=s.fr a o' nb e
   rw[ho]at this;cases this;exact .inr (.inr ⟨o,rfl,st⟩),t.bx,s.b0,λcc p r d h=>by
  obtain⟨p1,r1,d1,h1⟩:=s.bc cc p r d h;exact t.bc cc p1 r1 d1 h1⟩
def BoxD.new(b:BoxD β H G)(hl:H l=none):BoxD β (upd H l o) G:=by
 obtain⟨cc,p,r,d,ns,h,q⟩:=b.ex;exact⟨⟨cc,p,r,d,ns,by rw[upd_ne (zau h hl)];exact h,q⟩,b.still⟩
def zp5(gh:Same G H)(hl:H l=none):Same G (upd H l o):=λa u e=>by
 rw[upd_ne (zau (gh a u e) hl)];exact gh a u e
def Stp.own(gh:Same G H)(b:BoxD β H G)(hl:H l=none):Stp β H G (upd H l o) G:=
 ⟨Same.refl _,zp5 gh hl,λa u _ e=>by rw[upd_ne (zau e hl)];exact e,λ_ e=>.inl e,b.new hl,λz=>by(obtain⟨o,h⟩:=b.at;rw[z]at h;cases h),λcc p r d h=>⟨p,r,d,by rw[upd_ne (zau h hl)];exact h⟩⟩
def zap(gh:Same G H)(hl:H l=none):G l=none:=gh.free hl
theorem Stp.still(s:Stp β H G H' G')(h':H' l=some o)(h0:H l=none)(hb:l≠β)(hg:G' l=none):Stp β H G H' (upd G' l o):=
 ⟨s.gg.trans λa u e=>by rw[upd_ne (zau e hg)];exact e,
 λa u e=>by
  by_cases z:a=l
  .subst z;rw[zah]at e;rw[h'];exact e
  .rw[upd_ne z]at e;exact s.gh a u e,
 s.fr,λa e=>by
  by_cases z:a=l
  .subst z;exact .inr (.inl h0)
  .rw[upd_ne z]at e;exact s.nw a e,
 ⟨by
   obtain⟨cc,p,r,d,ns,h,p1,p2,p3,p4,hc,q⟩:=s.bx.ex;exact⟨cc,p,r,d,ns,h,p1,p2,p3,p4,by rw[upd_ne (zau hc hg)];exact hc,q⟩,by rw[upd_ne (YAK hb)];exact s.bx.still⟩,s.b0,s.bc⟩
def Stp.new(gh:Same G H)(b:BoxD β H G)(hl:H l=none):Stp β H G (upd H l o) (upd G l o):=by
 have hb:l≠β:=λz=>by obtain⟨o,h⟩:=b.at;rw[<-z,hl]at h;cases h
 exact(Stp.own gh b hl).still zah hl hb (zap gh hl)
def zb0(hg:G l=none):Same G (upd G l o):=λa u e=>by rw[upd_ne (zau e hg)];exact e
inductive Sl where
 |un|val (d:D)|own (xs:List D)|dic (ks:List Str) (xs:List D)
abbrev Env:=List Sl
noncomputable def SlOk(c:Bk)(H G:Hp):Sl->Option (Option V)->Prop
 |.un,_=>True
 |.val d,o=>∃v,o=some (some v)/\Rep c G d v
 |.own xs,o=>∃a vs,o=some (some (.ref a))/\H a=some (.lst vs)/\G a=none/\c.H0 a=none/\a≠c.β/\Reps c G xs vs
 |.dic ks xs,o=>∃a vs,o=some (some (.ref a))/\H a=some (.dK (kvD ks vs))/\G a=none/\c.H0 a=none/\a≠c.β/\Reps c G xs vs/\ks.length=vs.length
structure Rel(c:Bk)(S:Env)(Z:St)(H G:Hp):Prop where
 len:S.length=Z.length
 stp:Stp c.β c.H0 c.G0 H G
 slot:∀(i:Nat) s,S[i]?=some s->SlOk c H G s Z[i]?
 dis:∀(i j:Nat) a xs ys,S[i]?=some (.own xs)->S[j]?=some (.own ys)->Z[i]?=some (some (.ref a))->Z[j]?=some (some (.ref a))->i=j
 kn:c.P
theorem Rel.gh(r:Rel c S Z H G):Same G H:=r.stp.gh
theorem Rel.bx(r:Rel c S Z H G):BoxD c.β H G:=r.stp.bx
theorem Rel.refl(r:Rel c S Z H G):Stp c.β H G H G:=Stp.refl r.gh r.bx
def SlOk.step(t:Stp c.β H G H' G'):∀{s:Sl}{o:Option (Option V)},SlOk c H G s o->SlOk c H' G' s o
 |.un,_,_=>trivial
 |.val d,_,⟨v,h1,h2⟩=>⟨v,h1,h2.mono t.gg⟩
 |.own xs,_,⟨a,vs,h1,h2,h3,h4,h5,h6⟩=>⟨a,vs,h1,t.fr a _ h5 h2,(by
   cases e:G' a with
   |none=>rfl
   |some o=>
    rcases t.nw a (by rw[e];simp)with z|z|⟨o',z,st⟩
    .exact absurd h3 z
    .rw[h2]at z;cases z
    .rw[h2]at z;cases z;exact st.elim),h4,h5,h6.mono t.gg⟩
 |.dic ks xs,_,⟨a,vs,h1,h2,h3,h4,h5,h6,h7⟩=>⟨a,vs,h1,t.fr a _ h5 h2,(by
   cases e:G' a with
   |none=>rfl
   |some o=>
    rcases t.nw a (by rw[e];simp)with z|z|⟨o',z,st⟩
    .exact absurd h3 z
    .rw[h2]at z;cases z
    .rw[h2]at z;cases z;exact st.elim),h4,h5,h6.mono t.gg,h7⟩
theorem Rel.step(r:Rel c S Z H G)(t:Stp c.β H G H' G'):Rel c S Z H' G':=
 ⟨r.len,r.stp.trans t,λi s e=>(r.slot i s e).step t,r.dis,r.kn⟩
def Rel.put(r:Rel c S Z H G)(h:Rep c G d v):Rel c (S.set i (.val d)) (Z.set i (some v)) H G:=by
 refine⟨by simp[r.len],r.stp,λj s e=>?_,λj k a xs ys e1 e2 e3 e4=>?_,r.kn⟩
 .by_cases z:i=j
  .subst z;have hi:i<S.length:=by have:=(YAe.mp e).1;simpa using this
   rw[YAi hi]at e;cases e;exact⟨v,by rw[YAi (by rw[<-r.len];exact hi)],h⟩
  .rw[YAl z]at e ⊢;exact r.slot j s e
 .have nj:i≠j:=λz=>by
   subst z;have hi:i<S.length:=by have:=(YAe.mp e1).1;simpa using this
   rw[YAi hi]at e1;cases e1
  have nk:i≠k:=λz=>by
   subst z;have hi:i<S.length:=by have:=(YAe.mp e2).1;simpa using this
   rw[YAi hi]at e2;cases e2
  rw[YAl nj]at e1 e3;rw[YAl nk]at e2 e4;exact r.dis j k a xs ys e1 e2 e3 e4
def Rel.putOwn(r:Rel c S Z H G)(hl:H l=some (.lst vs))(hg:G l=none)(h0:c.H0 l=none)(hb:l≠c.β)(h:Reps c G xs vs)
  (hn:∀(j:Nat) ys,S[j]?=some (.own ys)->Z[j]?≠some (some (.ref l))):Rel c (S.set i (.own xs)) (Z.set i (some (.ref l))) H G:=by
 refine⟨by simp[r.len],r.stp,λj s e=>?_,λj k a xs' ys e1 e2 e3 e4=>?_,r.kn⟩
 .by_cases z:i=j
  .subst z;have hi:i<S.length:=by have:=(YAe.mp e).1;simpa using this
   rw[YAi hi]at e;cases e;exact⟨l,vs,by rw[YAi (by rw[<-r.len];exact hi)],hl,hg,h0,hb,h⟩
  .rw[YAl z]at e ⊢;exact r.slot j s e
 .by_cases zj:i=j
  .by_cases zk:i=k
   .exact zj.symm.trans zk
   .subst zj;have hi:i<S.length:=by have:=(YAe.mp e1).1;simpa using this
    rw[YAi (by rw[<-r.len];exact hi)]at e3;cases e3;rw[YAl zk]at e2 e4;exact absurd e4 (hn k ys e2)
  .by_cases zk:i=k
   .subst zk;have hi:i<S.length:=by have:=(YAe.mp e2).1;simpa using this
    rw[YAi (by rw[<-r.len];exact hi)]at e4;cases e4;rw[YAl zj]at e1 e3;exact absurd e3 (hn j xs' e1)
   .rw[YAl zj]at e1 e3;rw[YAl zk]at e2 e4;exact r.dis j k a xs' ys e1 e2 e3 e4
def Rel.write(r:Rel c S Z H G)(hi:S[i]?=some (.own xs))(hs:Z[i]?=some (some (.ref l)))(h:Reps c G ys ws) :
  Rel c (S.set i (.own ys)) Z (upd H l (.lst ws)) G:=by
 obtain⟨a,vs,h1,h2,h3,h4,h5,h6⟩:=r.slot i _ hi;rw[hs]at h1;cases h1;have hil:i<S.length:=(YAe.mp hi).1;refine⟨by simp[r.len],⟨r.stp.gg,λb u e=>?_,λb u n e=>?_,r.stp.nw,?_,r.stp.b0,λcc p q d e=>by
  obtain⟨p',q',d',e'⟩:=r.stp.bc cc p q d e;exact⟨p',q',d',by rw[upd_ne (YAK h5)];exact e'⟩⟩,λj s e=>?_,λj k b xs' ys' e1 e2 e3 e4=>?_,r.kn⟩
 .rw[upd_ne (λz=>by rw[z,h3]at e;cases e)];exact r.gh b u e
 .rw[upd_ne (λz=>by rw[z,h4]at e;cases e)];exact r.stp.fr b u n e
 .obtain⟨cc,p,q,d,ns,e,z⟩:=r.bx.ex;exact⟨⟨cc,p,q,d,ns,by rw[upd_ne (YAK h5)];exact e,z⟩,r.bx.still⟩
 .by_cases z:i=j
  .subst z;rw[YAi hil]at e;cases e;exact⟨l,ws,hs,zah,h3,h4,h5,h⟩
  .rw[YAl z]at e;have q:=r.slot j s e;cases s with
   |un=>trivial
   |val d=>exact q
   |own zs=>
    obtain⟨b,us,g1,g2,g3⟩:=q;have nb:b≠l:=λy=>z (r.dis i j l xs zs hi e hs (by rw[g1,y]));exact⟨b,us,g1,by rw[upd_ne nb];exact g2,g3⟩
   |dic ks zs=>
    obtain⟨b,us,g1,g2,g3⟩:=q;have nb:b≠l:=λy=>by rw[y,h2]at g2;cases g2
    exact⟨b,us,g1,by rw[upd_ne nb];exact g2,g3⟩
 .have f:∀(m:Nat) zs,(S.set i (.own ys))[m]?=some (.own zs)->∃zs',S[m]?=some (.own zs'):=λm zs e=>by
   by_cases z:i=m
   .exact⟨xs,z▸hi⟩
   .rw[YAl z]at e;exact⟨zs,e⟩
  obtain⟨_,f1⟩:=f j _ e1;obtain⟨_,f2⟩:=f k _ e2;exact r.dis j k b _ _ f1 f2 e3 e4
def Rel.freeze(r:Rel c S Z H G)(hi:S[i]?=some (.own xs)):∃G',Same G G'/\Rel c (S.set i (.val (.lst true xs))) Z H G':=by
 obtain⟨a,vs,h1,h2,h3,h4,h5,h6⟩:=r.slot i _ hi;have hil:i<S.length:=(YAe.mp hi).1;have sg:Same G (upd G a (.lst vs)):=zb0 h3;refine⟨upd G a (.lst vs),sg,by simp[r.len],r.stp.still h2 h4 h5 h3,λj s e=>?_,λj k b xs' ys' e1 e2 e3 e4=>?_,r.kn⟩
 .by_cases z:i=j
  .subst z;rw[YAi hil]at e;cases e;exact⟨.ref a,h1,a,vs,rfl,zah,λ_=>h4,h6.mono sg⟩
  .rw[YAl z]at e;have q:=r.slot j s e;cases s with
   |un=>trivial
   |val d=>obtain⟨v,g1,g2⟩:=q;exact⟨v,g1,g2.mono sg⟩
   |own zs=>
    obtain⟨b,us,g1,g2,g3,g4,g5,g6⟩:=q;have nb:b≠a:=λy=>z (r.dis i j a xs zs hi e h1 (by rw[g1,y]));exact⟨b,us,g1,g2,by rw[upd_ne nb];exact g3,g4,g5,g6.mono sg⟩
   |dic ks zs=>
    obtain⟨b,us,g1,g2,g3,g4,g5,g6,g7⟩:=q;have nb:b≠a:=λy=>by rw[y,h2]at g2;cases g2
    exact⟨b,us,g1,g2,by rw[upd_ne nb];exact g3,g4,g5,g6.mono sg,g7⟩
 .have f:∀(m:Nat) zs,(S.set i (.val (.lst true xs)))[m]?=some (.own zs)->S[m]?=some (.own zs):=λm zs e=>by
   by_cases z:i=m
   .subst z;rw[YAi hil]at e;cases e
   .rw[YAl z]at e;exact e
  exact r.dis j k b _ _ (f j _ e1) (f k _ e2) e3 e4
abbrev WE:=Env->(D->Prop)->Prop
abbrev WL:=Env->(List D->Prop)->Prop
abbrev WT:=Env->(Bool->Prop)->Prop
def zbO(W:WE):Prop:=∀ S Q Q',(∀d,Q d->Q' d)->W S Q->W S Q'
def zfy(W:WL):Prop:=∀ S Q Q',(∀d,Q d->Q' d)->W S Q->W S Q'
def zg8(W:WT):Prop:=∀ S Q Q',(∀d,Q d->Q' d)->W S Q->W S Q'
def tD(c:Bk)(W:WE):TE:=λZ H Q=>∃ S G,Rel c S Z H G/\W S λd=>∀v H' G',Stp c.β H G H' G'->Rep c G' d v->Q v H'
def tDs(c:Bk)(W:WL):TA:=λZ H Q=>∃ S G,Rel c S Z H G/\W S λds=>∀vs H' G',Stp c.β H G H' G'->Reps c G' ds vs->Q vs H'
def tDf(c:Bk)(W:WL):TE:=λZ H Q=>∃ S G,Rel c S Z H G/\W S λds=>∀l vs H' G',Stp c.β H G H' G'->H' l=some (.lst vs)->G' l=none->H l=none->Reps c G' ds vs->Q (.ref l) H'
def tDt(c:Bk)(W:WT):TT:=λZ H Q=>∃ S G,Rel c S Z H G/\W S λb=>∀H' G',Stp c.β H G H' G'->Q b H'
structure DE(X:Cx)(c:Bk)(e:Expr)(W:WE):Prop where
 mono:zbO W
 pe:PE X e (tD c W)
structure DF(X:Cx)(c:Bk)(e:Expr)(W:WL):Prop where
 mono:zfy W
 pe:PE X e (tDf c W)
structure DA(X:Cx)(c:Bk)(es:List Expr)(W:WL):Prop where
 mono:zfy W
 pa:PA X es (tDs c W)
structure DT(X:Cx)(c:Bk)(e:Expr)(W:WT):Prop where
 mono:zg8 W
 pt:PT X e (tDt c W)
section
variable{X:Cx}
def zas(h:PE X e t)(k:∀ Z H Q,t' Z H Q->t Z H Q):PE X e t':=λpins s Z H Q I q=>h pins s Z H Q I (k Z H Q q)
def zfN(h:PT X e t)(k:∀ Z H Q,t' Z H Q->t Z H Q):PT X e t':=λpins s Z H Q I q=>h pins s Z H Q I (k Z H Q q)
def zq4(h:PA X e t)(k:∀ Z H Q,t' Z H Q->t Z H Q):PA X e t':=λpos pins s Z H Q I q=>h pos pins s Z H Q I (k Z H Q q)
def Rel.new0(r:Rel c S Z H G)(h:H l=none):c.H0 l=none:=r.stp.free h
def Rel.neβ(r:Rel c S Z H G)(h:H l=none):l≠c.β:=λz=>by
 obtain⟨o,e⟩:=r.bx.at;rw[<-z,h]at e;cases e
@[reducible] def valW(W:WL):WE:=λS Q=>W S λxs=>Q (.lst true xs)
def DF.de(h:DF X c e W):DE X c e (valW W)where
 mono:=λS Q Q' k q=>h.mono S _ _ (λxs z=>k _ z) q
 pe:=zas h.pe λZ H Q ⟨S,G,r,q⟩=>⟨S,G,r,h.mono S _ _ (λxs z l vs H' G' t hl hg h0 hv=>
  z (.ref l) H' (upd G' l (.lst vs)) (t.still hl h0 (r.neβ h0) hg) ⟨l,vs,rfl,zah,λ_=>r.new0 h0,hv.mono (zb0 hg)⟩) q⟩
def vW(i:Nat):WE:=λS Q=>match S[i]? with|some (.val d)=>Q d|_=>False
@[reducible] def kW(d:D):WE:=λ_ Q=>Q d
def dv(i:Nat)(hN:X.N[i]?=some x:=by rfl)(hv:Vis X.env.scope x:=by first|exact Or.inl rfl|exact Or.inr (Or.inl rfl)|exact Or.inr (Or.inr rfl))
  (hd:(x==("__debug__":Str))=false:=by decide) (hcd:(x==("__classdict__":Str))=false:=by decide):DE X c (.Name x pos) (vW i)where
 mono:=λS Q Q' k q=>by
  unfold vW at q ⊢;split at q
  .exact k _ q
  .exact q.elim
 pe:=zas (zbw hN hv hd hcd) λZ H Q ⟨S,G,r,q⟩=>by
  unfold vW at q;split at q
  .rename_i d e
   obtain⟨v,h1,h2⟩:=r.slot i _ e;exact⟨v,h1,q v H G r.refl h2⟩
  .exact q.elim
def zms(d:D):zbO (kW d):=λ_ _ _ k q=>k _ q
def zae:DE X c (.Constant (.int i) j pos) (kW (.int i)):=⟨zms _,zas za5 λZ H Q ⟨S,G,r,q⟩=>q _ H G r.refl rfl⟩
def zoJ:DE X c (.Constant (.bool i) j pos) (kW (.bl i)):=⟨zms _,zas zvi λZ H Q ⟨S,G,r,q⟩=>q _ H G r.refl rfl⟩
def zgK:DE X c (.Constant .none j pos) (kW .non):=⟨zms _,zas ztm λZ H Q ⟨S,G,r,q⟩=>q _ H G r.refl rfl⟩
def zad:DE X c (.Constant (.str i) j pos) (kW (.str i)):=⟨zms _,zas zqW λZ H Q ⟨S,G,r,q⟩=>q _ H G r.refl rfl⟩
abbrev F2:=D->D->(D->Prop)->Prop
def zbi(f:F2):Prop:=∀x y Q Q',(∀d,Q d->Q' d)->f x y Q->f x y Q'
@[reducible] def binW(f:F2)(A B:WE):WE:=λS Q=>A S λx=>B S λy=>f x y Q
def OpD(c:Bk)(f:F2)(r:R2):Prop:=∀(H G:Hp)(x y:D)(u v:V)(Q:VK),Same G H->BoxD c.β H G->(∀a,H a=none->c.H0 a=none)->Rep c G x u->Rep c G y v ->
 f x y (λd=>∀v H' G',Stp c.β H G H' G'->Rep c G' d v->Q v H')->r u v H Q
def zf8(fm:zbi f)(mA:zbO A)(mB:zbO B)(hr:OpD c f r)(Z:St)(H:Hp)(Q:VK)(h:tD c (binW f A B) Z H Q):tOp r (tD c A) (tD c B) Z H Q:=by
 obtain⟨S,G,R,q⟩:=h;refine⟨S,G,R,mA S _ _ (λx q1 u H1 G1 t1 e1=>⟨S,G1,R.step t1,mB S _ _ (λy q2 v H2 G2 t2 e2=>?_) q1⟩) q⟩;refine hr H2 G2 x y u v Q t2.gh t2.bx (λa z=>R.new0 (t1.free (t2.free z))) (e1.mono t2.gg) e2 (fm x y _ _ (λd z w H3 G3 t3 e3=>z w H3 G3 ((t1.trans t2).trans t3) e3) q2)
def zeg(fm:zbi f)(mA:zbO A)(mB:zbO B):zbO (binW f A B):=λS Q Q' k q=>mA S _ _ (λx q1=>mB S _ _ (λy q2=>fm x y _ _ k q2) q1) q
def zmJ(fm:zbi f)(ho:OpR X (binaryOp op) r)(hr:OpD c f r)(hA:DE X c a A)(hB:DE X c b B):DE X c (.BinOp a op b pos) (binW f A B):=
 ⟨zeg fm hA.mono hB.mono,zas (zdO ho hA.pe hB.pe) λZ H Q h=>zf8 fm hA.mono hB.mono hr Z H Q h⟩
def zrx(fm:zbi f)(ho:OpR X (compareOp op) r)(hr:OpD c f r)(hA:DE X c a A)(hB:DE X c b B)(hm:behindInMarks op b=false):DE X c (.Compare a [op] [b] pos) (binW f A B):=
 ⟨zeg fm hA.mono hB.mono,zas (zrg ho hA.pe hB.pe hm) λZ H Q h=>zf8 fm hA.mono hB.mono hr Z H Q h⟩
def blW(A:WE):WT:=λS Q=>A S λd=>match d with|.bl b=>Q b|_=>False
def ziH(m:zbO A):zg8 (blW A):=λS Q Q' k q=>m S _ _ (λd z=>by
 cases d<;>first|exact k _ z|exact z) q
def zm6(m:zbO A)(Z:St)(H:Hp)(Q:Bool->Hp->Prop)(h:tDt c (blW A) Z H Q):zst (tD c A) Z H Q:=by
 obtain⟨S,G,R,q⟩:=h;refine⟨S,G,R,m S _ _ (λd z v H1 G1 t e=>?_) q⟩;cases d with
 |bl b=>exact⟨b,e,z H1 G1 t⟩
 |_=>exact z.elim
def zgg(fm:zbi f)(ho:OpR X (compareOp op) r)(hr:OpD c f r)(hA:DE X c a A)(hB:DE X c b B)(hm:behindInMarks op b=false):DT X c (.Compare a [op] [b] pos) (blW (binW f A B)):=
 ⟨ziH (zeg fm hA.mono hB.mono),zfN (ziC ho hA.pe hB.pe hm) λZ H Q h=>by
  obtain⟨S,G,R,q⟩:=zm6 (zeg fm hA.mono hB.mono) Z H Q h;exact zf8 fm hA.mono hB.mono hr Z H _ ⟨S,G,R,q⟩⟩
def addD:F2
 |.int i,.int j,Q=>Q (.int (i+j))
 |.str a,.str b,Q=>a.length+b.length<=100000/\Q (.str (a++b))
 |.lst _ xs,.lst _ ys,Q=>xs.length+ys.length<=100000/\Q (.lst true (xs++ys))
 |.tup xs,.tup ys,Q=>xs.length+ys.length<=100000/\Q (.tup (xs++ys))
 |_,_,_=>False
def subD:F2
 |.int i,.int j,Q=>Q (.int (i-j))
 |_,_,_=>False
def mulD:F2
 |.int i,.int j,Q=>CMul i j/\Q (.int (i*j))
 |.lst _ xs,.int k,Q=>(0<=k/\k<=1000/\xs.length<=1000)/\Q (.lst true (List.replicate k.toNat xs).flatten)
 |_,_,_=>False
def modD:F2
 |.int i,.int j,Q=>0<j/\Q (.int (i % j))
 |_,_,_=>False
def powD:F2
 |.int i,.int j,Q=>CPow i j/\Q (.int (i^j.toNat))
 |_,_,_=>False
def small5(h:n<=100000):n<=sizeLine:=YAx h (by rw[YAX];decide)
def zvE:zbi addD:=λx y Q Q' k q=>by
 cases x<;>cases y<;>first|exact k _ q|exact⟨q.1,k _ q.2⟩|exact q
def zva:zbi subD:=λx y Q Q' k q=>by
 cases x<;>cases y<;>first|exact k _ q|exact q
def zuN:zbi mulD:=λx y Q Q' k q=>by
 cases x<;>cases y<;>first|exact⟨q.1,k _ q.2⟩|exact q
def zvS:zbi modD:=λx y Q Q' k q=>by
 cases x<;>cases y<;>first|exact⟨q.1,k _ q.2⟩|exact q
def zvr:zbi powD:=λx y Q Q' k q=>by
 cases x<;>cases y<;>first|exact⟨q.1,k _ q.2⟩|exact q
def zt0(K:qk):R2:=λx y H Q=>(rI0 (λi j=>.int (i+j)) x y H Q\/(∃i j,x=.str i/\y=.str j/\i.length+j.length<=sizeLine/\Q (.str (i++j)) H))\/(rCat x y H Q\/zuG K x y H Q)
def zrp{c:Bk}(hK:c.K=X.K):OpR X (binaryOp .Add) (zt0 c.K):=by rw[hK];exact(op_add.or zmL).or (op_cat.or zsz)
def zul:OpD c addD (zt0 c.K):=by
 intro H G x y u v Q gh bx h0 rx ry q;cases x with
 |int i=>cases y with
  |int j=>cases rx;cases ry;exact .inl (.inl ⟨i,j,rfl,rfl,q _ H G (Stp.refl gh bx) rfl⟩)
  |_=>exact q.elim
 |str i=>cases y with
  |str j=>cases rx;cases ry;exact .inl (.inr ⟨i,j,rfl,rfl,small5 q.1,q.2 _ H G (Stp.refl gh bx) rfl⟩)
  |_=>exact q.elim
 |lst n xs=>cases y with
  |lst m ys=>
   obtain⟨a,vs,rfl,ha,_,rv⟩:=rx;obtain⟨b,ws,rfl,hb,_,rw'⟩:=ry;refine .inr (.inl ⟨a,b,vs,ws,rfl,rfl,gh _ _ ha,gh _ _ hb,?_,λp hp=>?_⟩)
   .rw[<-rv.length,<-rw'.length];exact small5 q.1
   .have hg:=zap gh hp;exact q.2 (.ref p) _ _ (Stp.new gh bx hp) ⟨p,vs++ws,rfl,zah,λ_=>h0 p hp,(rv.append rw').mono (zb0 hg)⟩
  |_=>exact q.elim
 |tup xs=>cases y with
  |tup ys=>
   obtain⟨a,vs,rfl,ha,rv⟩:=rx;obtain⟨b,ws,rfl,hb,rw'⟩:=ry;refine .inr (.inr ⟨a,b,vs,ws,rfl,rfl,zbc gh ha,zbc gh hb,?_,λe=>?_,λ_ e=>?_,λp hp=>?_⟩)
   .rw[<-rv.length,<-rw'.length];exact small5 q.1
   .subst e
    have:xs=[]:=by have:=rv.length;simpa using this
    subst this;exact q.2 (.ref b) H G (Stp.refl gh bx) ⟨b,ws,rfl,hb,rw'⟩
   .subst e
    have:ys=[]:=by have:=rw'.length;simpa using this
    subst this;exact q.2 (.ref a) H G (Stp.refl gh bx) ⟨a,vs,rfl,ha,by simpa using rv⟩
   .have hg:=zap gh hp;exact q.2 (.ref p) _ _ (Stp.new gh bx hp) ⟨p,vs++ws,rfl,SqT.of zah,(rv.append rw').mono (zb0 hg)⟩
  |_=>exact q.elim
 |_=>exact q.elim
def zaU(hA:DE X c a A)(hB:DE X c b B)(hK:c.K=X.K:=by rfl):DE X c (.BinOp a .Add b pos) (binW addD A B):=zmJ zvE (zrp hK) zul hA hB
def ztf:OpD c subD (rI0 λi j=>.int (i-j)):=by
 intro H G x y u v Q gh bx h0 rx ry q;cases x with
 |int i=>cases y with
  |int j=>cases rx;cases ry;exact⟨i,j,rfl,rfl,q _ H G (Stp.refl gh bx) rfl⟩
  |_=>exact q.elim
 |_=>exact q.elim
def zj6(hA:DE X c a A)(hB:DE X c b B):DE X c (.BinOp a .Sub b pos) (binW subD A B):=zmJ zva zsQ ztf hA hB
def ztB:R2:=λx y H Q=>rI CMul (λi j=>.int (i*j)) x y H Q\/rRep x y H Q
def zqB:OpD c mulD ztB:=by
 intro H G x y u v Q gh bx h0 rx ry q;cases x with
 |int i=>cases y with
  |int j=>cases rx;cases ry;exact .inl ⟨i,j,rfl,rfl,q.1,q.2 _ H G (Stp.refl gh bx) rfl⟩
  |_=>exact q.elim
 |lst n xs=>cases y with
  |int k=>
   obtain⟨a,vs,rfl,ha,_,rv⟩:=rx;cases ry;obtain⟨⟨k0,k1,hz⟩,q⟩:=q;refine .inr ⟨a,k,vs,rfl,rfl,gh _ _ ha,by omega,by omega,?_,λp hp=>?_⟩
   .rw[<-rv.length,YAX];have h1:k.toNat<=1000:=by omega
    have:=YCN hz h1
    omega
   .have hg:=zap gh hp
    have:∀m:Nat,Reps c G (List.replicate m xs).flatten (List.replicate m vs).flatten:=λm=>by
     induction m with
     |zero=>rfl
     |succ m ih=>rw[YA8,YA8,YBr,YBr];exact rv.append ih
    exact q (.ref p) _ _ (Stp.new gh bx hp) ⟨p,_,rfl,zah,λ_=>h0 p hp,(this _).mono (zb0 hg)⟩
  |_=>exact q.elim
 |_=>exact q.elim
def zr5(hA:DE X c a A)(hB:DE X c b B):DE X c (.BinOp a .Mult b pos) (binW mulD A B):=zmJ zuN (op_mul.or zqL) zqB hA hB
def zug:OpD c modD (rI (λ_ j=>0<j) λi j=>.int (i % j)):=by
 intro H G x y u v Q gh bx h0 rx ry q;cases x with
 |int i=>cases y with
  |int j=>cases rx;cases ry;exact⟨i,j,rfl,rfl,q.1,q.2 _ H G (Stp.refl gh bx) rfl⟩
  |_=>exact q.elim
 |_=>exact q.elim
def zp4(hA:DE X c a A)(hB:DE X c b B):DE X c (.BinOp a .Mod b pos) (binW modD A B):=zmJ zvS zhf zug hA hB
def zum:OpD c powD (rI CPow λi j=>.int (i^j.toNat)):=by
 intro H G x y u v Q gh bx h0 rx ry q;cases x with
 |int i=>cases y with
  |int j=>cases rx;cases ry;exact⟨i,j,rfl,rfl,q.1,q.2 _ H G (Stp.refl gh bx) rfl⟩
  |_=>exact q.elim
 |_=>exact q.elim
def zuv(hA:DE X c a A)(hB:DE X c b B):DE X c (.BinOp a .Pow b pos) (binW powD A B):=zmJ zvr znL zum hA hB
def negD:D->(D->Prop)->Prop
 |.int i,Q=>Q (.int (-i))
 |_,_=>False
@[reducible] def unW(f:D->(D->Prop)->Prop)(A:WE):WE:=λS Q=>A S λx=>f x Q
def zjM(hA:DE X c a A):DE X c (.UnaryOp .USub a pos) (unW negD A)where
 mono:=λS Q Q' k q=>hA.mono S _ _ (λx z=>by cases x<;>first|exact k _ z|exact z) q
 pe:=zas (zv7 zsM hA.pe) λZ H Q ⟨S,G,r,q⟩=>⟨S,G,r,hA.mono S _ _ (λx z v H' G' t e=>by
  cases x with
  |int i=>exact⟨i,e,z _ H' G' t rfl⟩
  |_=>exact z.elim) q⟩
def cmpD(p:Int->Int->Bool):F2
 |.int i,.int j,Q=>Q (.bl (p i j))
 |_,_,_=>False
def zfn(p:Int->Int->Bool):zbi (cmpD p):=λx y Q Q' k q=>by
 cases x<;>cases y<;>first|exact k _ q|exact q
def zgX(p:Int->Int->Bool):OpD c (cmpD p) (rI0 λi j=>.bl (p i j)):=by
 intro H G x y u v Q gh bx h0 rx ry q;cases x with
 |int i=>cases y with
  |int j=>cases rx;cases ry;exact⟨i,j,rfl,rfl,q _ H G (Stp.refl gh bx) rfl⟩
  |_=>exact q.elim
 |_=>exact q.elim
@[reducible] def ltD:F2:=cmpD λi j=>decide (i<j)
@[reducible] def leD:F2:=cmpD λi j=>decide (i<=j)
@[reducible] def gtD:F2:=cmpD λi j=>decide (j<i)
@[reducible] def geD:F2:=cmpD λi j=>decide (j<=i)
def t_lt(hA:DE X c a A)(hB:DE X c b B):DT X c (.Compare a [.Lt] [b] pos) (blW (binW ltD A B)):=zgg (zfn _) zs2 (zgX _) hA hB (zev _)
def t_gt(hA:DE X c a A)(hB:DE X c b B):DT X c (.Compare a [.Gt] [b] pos) (blW (binW gtD A B)):=zgg (zfn _) zsO (zgX _) hA hB (zev _)
def t_ge(hA:DE X c a A)(hB:DE X c b B):DT X c (.Compare a [.GtE] [b] pos) (blW (binW geD A B)):=zgg (zfn _) zth (zgX _) hA hB (zev _)
def isN:D->Bool
 |.non=>true
 |_=>false
@[reducible] def isNW(A:WE):WE:=λS Q=>A S λx=>Q (.bl (isN x))
@[reducible] def zfV(A:WE):WE:=λS Q=>A S λx=>Q (.bl (!isN x))
def zkW(h:Rep c G d v):decide (v=V.non)=isN d:=by
 cases d with
 |non=>have:v=V.non:=h;subst this;rfl
 |bl b=>have:v=V.bl b:=h;subst this;rfl
 |int b=>have:v=V.int b:=h;subst this;rfl
 |str b=>have:v=V.str b:=h;subst this;rfl
 |box=>have:v=V.ref c.β:=h;subst this;rfl
 |obj b=>have:v=V.ref b:=h;subst this;rfl
 |dct n ks xs=>obtain⟨a,vs,rfl,_⟩:=h;rfl
 |fdc ks xs=>obtain⟨a,vs,o,rfl,_⟩:=h;rfl
 |tup xs=>obtain⟨a,vs,rfl,_⟩:=h;rfl
 |lst n xs=>obtain⟨a,vs,rfl,_⟩:=h;rfl
def zl4(m:zbO A):zbO (isNW A):=λS Q Q' k q=>m S _ _ (λx z=>k _ z) q
def znJ(m:zbO A):zbO (zfV A):=λS Q Q' k q=>m S _ _ (λx z=>k _ z) q
def ztY(hA:DE X c a A):DE X c (.Compare a [.Is] [.Constant .none j pos'] pos) (isNW A):=
 ⟨zl4 hA.mono,zas (ztu (zqJ hA.pe)) λZ H Q ⟨S,G,r,q⟩=>⟨S,G,r,hA.mono S _ _ (λx z v H' G' t e=>by show Q (V.bl (decide (v=V.non))) H';rw[zkW e];exact z _ H' G' t rfl) q⟩⟩
def zqi(hA:DE X c a A):DT X c (.Compare a [.Is] [.Constant .none j pos'] pos) (blW (isNW A)):=
 ⟨ziH (zl4 hA.mono),zfN (zlZ (zqJ hA.pe)) λZ H Q ⟨S,G,r,q⟩=>⟨S,G,r,hA.mono S _ _ (λx z v H' G' t e=>⟨_,rfl,by rw[zkW e];exact z H' G' t⟩) q⟩⟩
def znr(hA:DE X c a A):DT X c (.Compare a [.IsNot] [.Constant .none j pos'] pos) (blW (zfV A)):=
 ⟨ziH (znJ hA.mono),zfN (zlZ (zrn hA.pe)) λZ H Q ⟨S,G,r,q⟩=>⟨S,G,r,hA.mono S _ _ (λx z v H' G' t e=>⟨_,rfl,by rw[zkW e];exact z H' G' t⟩) q⟩⟩
end
mutual
def toPy:D->PyData
 |.non=>.none
 |.bl b=>.bool b
 |.int i=>.int i
 |.str x=>.str x
 |.box=>.none
 |.obj _=>.none
 |.dct _ _ _=>.none
 |.fdc _ _=>.none
 |.tup xs=>.tuple (zdK xs)
 |.lst _ xs=>.list (zdK xs)
def zdK:List D->List PyData
 |[]=>[]
 |x::xs=>toPy x::zdK xs
end
mutual
def layD:D->Bool
 |.non=>true
 |.bl _=>true
 |.int _=>true
 |.str x=>PyData.canLay0 (.str x)
 |.box=>false
 |.obj _=>false
 |.dct _ _ _=>false
 |.fdc _ _=>false
 |.tup xs=>zdP xs
 |.lst _ xs=>zdP xs
def zdP:List D->Bool
 |[]=>true
 |x::xs=>layD x&&zdP xs
end
mutual
theorem zc8:∀d:D,layD d=true->(toPy d).canLay0=true
 |.non,_=>by unfold toPy PyData.canLay0;rfl
 |.bl _,_=>by unfold toPy PyData.canLay0;rfl
 |.int _,_=>by unfold toPy PyData.canLay0;rfl
 |.str _,h=>by unfold toPy;unfold layD at h;exact h
 |.tup xs,h=>by unfold toPy PyData.canLay0;unfold layD at h;exact zcR xs h
 |.lst _ xs,h=>by unfold toPy PyData.canLay0;unfold layD at h;exact zcR xs h
theorem zcR:∀ds:List D,zdP ds=true->PyData.canLayAll0 (zdK ds)=true
 |[],_=>by unfold zdK PyData.canLayAll0;rfl
 |x::xs,h=>by
  unfold zdK PyData.canLayAll0;unfold zdP at h
  have:=(YAA _ _▸h:layD x=true/\zdP xs=true)
  rw[zc8 x this.1,zcR xs this.2];rfl
end
theorem zgc:∀xs:List D,zdK xs=xs.map toPy
 |[]=>rfl
 |x::xs=>by unfold zdK;rw[zgc xs];rfl
section
variable{X:Cx}
mutual
theorem Rep.reads(hK:c.K=X.K)(I:Inv X pins Z H s)(gh:Same G H):∀(d:D){v:V}{u:Value},Rep c G d v->RelV v u->layD d=true->∃as,Reads s.heap u (toPy d) as
 |.non,v,u,h,r,_=>by have:v=V.non:=h;subst this;cases r;exact⟨_,.none⟩
 |.bl b,v,u,h,r,_=>by have:v=V.bl b:=h;subst this;cases r;exact⟨_,.bool b⟩
 |.int i,v,u,h,r,_=>by have:v=V.int i:=h;subst this;obtain⟨t,rfl⟩:=r;exact⟨_,.int i t⟩
 |.str i,v,u,h,r,_=>by have:v=V.str i:=h;subst this;obtain⟨t,rfl⟩:=r;exact⟨_,.str i t⟩
 |.box,v,u,h,r,l=>by cases l
 |.obj _,v,u,h,r,l=>by cases l
 |.dct _ _ _,v,u,h,r,l=>by cases l
 |.fdc _ _,v,u,h,r,l=>by cases l
 |.tup xs,v,u,⟨a,vs,h1,h2,h3⟩,r,l=>by
  subst h1;cases r;obtain⟨its,rv,p,_⟩:=I.tuple (hK▸zbc gh h2);obtain⟨as,q⟩:=Reps.reads hK I gh xs h3 rv l;obtain⟨o,ho,hc,n,hd⟩:=p;unfold toPy;exact⟨_,.tuple ho hc hd (by simpa using q)⟩
 |.lst _ xs,v,u,⟨a,vs,h1,h2,_,h3⟩,r,l=>by
  subst h1;cases r;obtain⟨_,its,n,rv,ho⟩:=I.hok a _ (gh _ _ h2);obtain⟨as,q⟩:=Reps.reads hK I gh xs h3 rv l;unfold toPy;exact⟨_,.list ho rfl rfl (by simpa using q)⟩
theorem Reps.reads(hK:c.K=X.K)(I:Inv X pins Z H s)(gh:Same G H):∀(ds:List D){vs:List V}{us:List Value},Reps c G ds vs->Vals vs us->zdP ds=true->∃as,ReadsAll s.heap us (zdK ds) as
 |[],vs,us,h,r,_=>by have:vs=[]:=h;subst this;cases r;exact⟨_,.nil⟩
 |x::xs,vs,us,⟨v,ws,h1,h2,h3⟩,r,l=>by
  subst h1;cases r with
  |cons r1 r2=>
   unfold zdP at l;have l':=(YAA _ _▸l:layD x=true/\zdP xs=true);obtain⟨as,q1⟩:=Rep.reads hK I gh x h2 r1 l'.1;obtain⟨bs,q2⟩:=Reps.reads hK I gh xs h3 r2 l'.2;exact⟨_,.cons q1 q2⟩
end
def eqB(x y:D):Bool:=PyData.eqv (toPy x) (toPy y)
def eqOk(x y:D):Prop:=layD x=true/\layD y=true/\min (toPy x).depth (toPy y).depth<=50
@[reducible] def eqD:F2:=λx y Q=>eqOk x y/\Q (.bl (eqB x y))
@[reducible] def neD:F2:=λx y Q=>eqOk x y/\Q (.bl (!eqB x y))
def rEqD(c:Bk)(neg:Bool):R2:=λu v H Q=>∃G x y,Same G H/\Rep c G x u/\Rep c G y v/\eqOk x y/\Q (.bl (if neg then !eqB x y else eqB x y)) H
def zqF(hK:c.K=X.K)(hu:X.A.units+64<cLine):OpR X (compareOp .Eq) (rEqD c false):=by
 intro pins s Z H u v a b Q I ra rb ⟨G,x,y,gh,hx,hy,⟨lx,ly,ld⟩,q⟩;obtain⟨as,qa⟩:=hx.reads hK I gh x ra lx;obtain⟨bs,qb⟩:=hy.reads hK I gh y rb ly;exact SeqAt.compareEq_reads qa qb (zc8 x lx) (zc8 y ly) (by omega) ⟨.bl _,H,I,rfl,q⟩
def zqt(hK:c.K=X.K)(hu:X.A.units+64<cLine):OpR X (compareOp .NotEq) (rEqD c true):=by
 intro pins s Z H u v a b Q I ra rb ⟨G,x,y,gh,hx,hy,⟨lx,ly,ld⟩,q⟩;obtain⟨as,qa⟩:=hx.reads hK I gh x ra lx;obtain⟨bs,qb⟩:=hy.reads hK I gh y rb ly;exact SeqAt.compareNe_reads qa qb (zc8 x lx) (zc8 y ly) (by omega) ⟨.bl _,H,I,rfl,q⟩
def m_eq:zbi eqD:=λx y Q Q' k q=>⟨q.1,k _ q.2⟩
def m_ne:zbi neD:=λx y Q Q' k q=>⟨q.1,k _ q.2⟩
def ztr:OpD c eqD (rEqD c false):=λH G x y u v Q gh bx h0 rx ry q=>⟨G,x,y,gh,rx,ry,q.1,q.2 _ H G (Stp.refl gh bx) rfl⟩
def ztj:OpD c neD (rEqD c true):=λH G x y u v Q gh bx h0 rx ry q=>⟨G,x,y,gh,rx,ry,q.1,q.2 _ H G (Stp.refl gh bx) rfl⟩
def inOk(x:D)(ys:List D):Prop:=layD x=true/\zdP ys=true/\min (PyData.depthAll (zdK ys)) (toPy x).depth<=50
def inB(x:D)(ys:List D):Bool:=(zdK ys).any λy=>PyData.eqv y (toPy x)
def inD(neg:Bool):F2
 |x,.lst _ ys,Q=>inOk x ys/\Q (.bl (if neg then !inB x ys else inB x ys))
 |x,.tup ys,Q=>inOk x ys/\Q (.bl (if neg then !inB x ys else inB x ys))
 |_,_,_=>False
def rInD(c:Bk)(neg:Bool):R2:=λu v H Q=>∃G x y,Same G H/\Rep c G x u/\Rep c G y v/\inD neg x y λd=>∃b,d=.bl b/\Q (.bl b) H
def ztp(hK:c.K=X.K)(hu:X.A.units+64<cLine):OpR X (compareOp .In) (rInD c false):=by
 intro pins s Z H u v a b Q I ra rb ⟨G,x,y,gh,hx,hy,q⟩;cases y with
 |lst n ys=>
  obtain⟨⟨lx,ly,ld⟩,_,e,q⟩:=q;cases e;obtain⟨as,qa⟩:=hx.reads hK I gh x ra lx;obtain⟨bs,qb⟩:=hy.reads hK I gh (.lst n ys) rb (by unfold layD;exact ly);unfold toPy at qb;exact SeqAt.in_list_reads qb qa (zcR ys ly) (zc8 x lx) (by omega) ⟨.bl _,H,I,rfl,q⟩
 |tup ys=>
  obtain⟨⟨lx,ly,ld⟩,_,e,q⟩:=q;cases e;obtain⟨as,qa⟩:=hx.reads hK I gh x ra lx;obtain⟨bs,qb⟩:=hy.reads hK I gh (.tup ys) rb (by unfold layD;exact ly);unfold toPy at qb;exact SeqAt.in_tuple_reads qb qa (zcR ys ly) (zc8 x lx) (by omega) ⟨.bl _,H,I,rfl,q⟩
 |_=>exact q.elim
def zn4(hK:c.K=X.K)(hu:X.A.units+64<cLine):OpR X (compareOp .NotIn) (rInD c true):=by
 intro pins s Z H u v a b Q I ra rb ⟨G,x,y,gh,hx,hy,q⟩;cases y with
 |lst n ys=>
  obtain⟨⟨lx,ly,ld⟩,_,e,q⟩:=q;cases e;obtain⟨as,qa⟩:=hx.reads hK I gh x ra lx;obtain⟨bs,qb⟩:=hy.reads hK I gh (.lst n ys) rb (by unfold layD;exact ly);unfold toPy at qb;exact SeqAt.notIn_list_reads qb qa (zcR ys ly) (zc8 x lx) (by omega) ⟨.bl _,H,I,rfl,q⟩
 |tup ys=>
  obtain⟨⟨lx,ly,ld⟩,_,e,q⟩:=q;cases e;obtain⟨as,qa⟩:=hx.reads hK I gh x ra lx;obtain⟨bs,qb⟩:=hy.reads hK I gh (.tup ys) rb (by unfold layD;exact ly);unfold toPy at qb;exact SeqAt.notIn_tuple_reads qb qa (zcR ys ly) (zc8 x lx) (by omega) ⟨.bl _,H,I,rfl,q⟩
 |_=>exact q.elim
def m_in(neg:Bool):zbi (inD neg):=λx y Q Q' k q=>by
 cases y<;>first|exact⟨q.1,k _ q.2⟩|exact q
def zu8(neg:Bool):OpD c (inD neg) (rInD c neg):=λH G x y u v Q gh bx h0 rx ry q=>⟨G,x,y,gh,rx,ry,by
 cases y with
 |lst n ys=>exact⟨q.1,_,rfl,q.2 _ H G (Stp.refl gh bx) rfl⟩
 |tup ys=>exact⟨q.1,_,rfl,q.2 _ H G (Stp.refl gh bx) rfl⟩
 |_=>exact q.elim⟩
section
variable{c:Bk}{a b:Expr}{A B:WE}{pos:Pos}
def d_eq(hA:DE X c a A)(hB:DE X c b B)(hK:c.K=X.K:=by rfl)(hu:X.A.units+64<cLine:=by decreasing_trivial):DE X c (.Compare a [.Eq] [b] pos) (binW eqD A B):=zrx m_eq (zqF hK hu) ztr hA hB (zev _)
def d_ne(hA:DE X c a A)(hB:DE X c b B)(hK:c.K=X.K:=by rfl)(hu:X.A.units+64<cLine:=by decreasing_trivial):DE X c (.Compare a [.NotEq] [b] pos) (binW neD A B):=zrx m_ne (zqt hK hu) ztj hA hB (zev _)
def t_eq(hA:DE X c a A)(hB:DE X c b B)(hK:c.K=X.K:=by rfl)(hu:X.A.units+64<cLine:=by decreasing_trivial):DT X c (.Compare a [.Eq] [b] pos) (blW (binW eqD A B)):=zgg m_eq (zqF hK hu) ztr hA hB (zev _)
def t_ne(hA:DE X c a A)(hB:DE X c b B)(hK:c.K=X.K:=by rfl)(hu:X.A.units+64<cLine:=by decreasing_trivial):DT X c (.Compare a [.NotEq] [b] pos) (blW (binW neD A B)):=zgg m_ne (zqt hK hu) ztj hA hB (zev _)
def truB:D->Option Bool
 |.non=>some false
 |.bl b=>some b
 |.int i=>some (i != 0)
 |.lst _ xs=>some (!xs.isEmpty)
 |.tup xs=>some (!xs.isEmpty)
 |_=>none
def truD(d:D)(Q:Bool->Prop):Prop:=match truB d with|some b=>Q b|none=>False
@[reducible] def truW(A:WE):WT:=λS Q=>A S λd=>truD d Q
def zj7(gh:Same G H)(h:Rep c G d v)(e:truB d=some k):TruV c.K v H k:=by
 cases d with
 |non=>cases h;cases e;rfl
 |bl b=>cases h;cases e;rfl
 |int i=>cases h;cases e;rfl
 |lst n xs=>
  obtain⟨a,vs,rfl,h1,_,h2⟩:=h;cases e;refine .inl ⟨vs,.inl (.inl (gh _ _ h1)),?_⟩
  have:=h2.length
  cases xs<;>cases vs<;>first|rfl|simp at this
 |tup xs=>
  obtain⟨a,vs,rfl,h1,h2⟩:=h;cases e;refine .inr (.inl ⟨vs,zbc gh h1,?_⟩)
  have:=h2.length
  cases xs<;>cases vs<;>first|rfl|simp at this
 |str x=>cases e
 |box=>cases e
 |obj a=>cases e
 |dct n ks xs=>cases e
 |fdc ks xs=>cases e
def zgj(d:D)(k:∀b,Q b->Q' b)(q:truD d Q):truD d Q':=by
 unfold truD at q ⊢;split at q
 .exact k _ q
 .exact q.elim
def zfU(hA:DE X c a A)(he:∀whole,isTrue a X.env whole=(do let v <-whole;standAt a.pos;holding [v] (truthy v)):=by intro _;rfl)(hK:c.K=X.K:=by rfl):DT X c a (truW A)where
 mono:=λS Q Q' k q=>hA.mono S _ _ (λd z=>zgj d k z) q
 pt:=zfN (zlm hA.pe he) λZ H Q ⟨S,G,r,q⟩=>⟨S,G,r,hA.mono S _ _ (λd z v H' G' t e=>by
  unfold truD at z;split at z
  .rename_i k hk
   exact⟨k,hK▸zj7 t.gh e hk,z H' G' t⟩
  .exact z.elim) q⟩
@[reducible] def notT(A:WT):WT:=λS Q=>A S λb=>Q (!b)
def ziY{A:WT}(hA:DT X c a A):DT X c (.UnaryOp .Not a pos) (notT A)where
 mono:=λS Q Q' k q=>hA.mono S _ _ (λd z=>k _ z) q
 pt:=zfN (zqD hA.pt) λZ H Q ⟨S,G,r,q⟩=>⟨S,G,r,q⟩
@[reducible] def orT(A B:WT):WT:=λS Q=>A S λb=>if b=true then Q true else B S Q
structure DW(X:Cx)(c:Bk)(e:Expr)(W:WT):Prop where
 mono:zg8 W
 pw:PW X e (tDt c W)
def DW.dt(h:DW X c a W):DT X c a W:=⟨h.mono,h.pw.pt⟩
def ztg(h:PW X e t)(k:∀ Z H Q,t' Z H Q->t Z H Q):PW X e t':=λwh pins s Z H Q I q=>h wh pins s Z H Q I (k Z H Q q)
def zh7{A:WT}(hA:DT X c a A):DW X c (.BoolOp .Or [a] pos) A:=⟨hA.mono,zuS hA.pt⟩
def w_or{A B:WT}{rest:List Expr}(hA:DT X c a A)(hB:DW X c (.BoolOp .Or (b::rest) pos) B):DW X c (.BoolOp .Or (a::b::rest) pos) (orT A B)where
 mono:=λS Q Q' k q=>hA.mono S _ _ (λd z=>by
  cases d
  .exact hB.mono S _ _ k z
  .exact k _ z) q
 pw:=ztg (zvT hA.pt hB.pw) λZ H Q ⟨S,G,r,q⟩=>⟨S,G,r,hA.mono S _ _ (λd z H' G' t=>by
  cases d
  .exact⟨S,G',r.step t,hB.mono S _ _ (λb' z' H2 G2 t2=>z' H2 G2 (t.trans t2)) z⟩
  .exact z H' G' t) q⟩
def blD(d:D)(Q:Bool->Prop):Prop:=match d with|.bl b=>Q b|_=>False
def zhU(d:D)(k:∀b,Q b->Q' b)(q:blD d Q):blD d Q':=by
 cases d<;>first|exact k _ q|exact q
@[reducible] def andW(A B:WE):WE:=λS Q=>A S λx=>blD x λk=>if k=true then B S Q else Q (.bl false)
@[reducible] def notW(A:WE):WE:=λS Q=>A S λx=>blD x λk=>Q (.bl (!k))
def zkY(hA:DE X c a A):DE X c (.BoolOp op [a] pos) A:=⟨hA.mono,zus hA.pe⟩
def zmO{rest:List Expr}(hA:DE X c a A)(hB:DE X c (.BoolOp .And (b::rest) pos) B):DE X c (.BoolOp .And (a::b::rest) pos) (andW A B)where
 mono:=λS Q Q' k q=>hA.mono S _ _ (λd z=>zhU d (λb z=>by
  cases b
  .exact k _ z
  .exact hB.mono S _ _ k z) z) q
 pe:=zas (zt3 hA.pe hB.pe) λZ H Q ⟨S,G,r,q⟩=>⟨S,G,r,hA.mono S _ _ (λd z v H' G' t e=>by
  cases d with
  |bl k=>
   refine⟨k,e,?_⟩;cases k
   .exact z _ H' G' t rfl
   .exact⟨S,G',r.step t,hB.mono S _ _ (λb' z' v2 H2 G2 t2=>z' v2 H2 G2 (t.trans t2)) z⟩
  |_=>exact z.elim) q⟩
def zuk(hA:DE X c a A):DE X c (.UnaryOp .Not a pos) (notW A)where
 mono:=λS Q Q' k q=>hA.mono S _ _ (λd z=>zhU d (λb z=>k _ z) z) q
 pe:=zas (zt9 hA.pe) λZ H Q ⟨S,G,r,q⟩=>⟨S,G,r,hA.mono S _ _ (λd z v H' G' t e=>by
  cases d with
  |bl k=>exact⟨k,e,z _ H' G' t rfl⟩
  |_=>exact z.elim) q⟩
@[reducible] def zd9(f g:F2)(A B C:WE):WE:=λS Q=>A S λx=>B S λy=>f x y λz=>blD z λk=>if k=true then C S λw=>g y w Q else Q (.bl false)
end
end
section
variable{X:Cx}{c:Bk}{a b e:Expr}{A B:WE}{pos p:Pos}{es:List Expr}
@[reducible] def nilA:WL:=λ_ Q=>Q []
@[reducible] def zaa(A:WE)(R:WL):WL:=λS Q=>A S λd=>R S λds=>Q (d::ds)
def zag:DA X c [] nilA:=⟨λ_ _ _ k q=>k _ q,zq4 zbf λZ H Q ⟨S,G,r,q⟩=>q [] H G r.refl rfl⟩
def zab(hA:DE X c e A)(hR:DA X c es R)(hs:starEach (e::es) X.env=(false,eval e X.env)::starEach es X.env:=by rfl):DA X c (e::es) (zaa A R)where
 mono:=λS Q Q' k q=>hA.mono S _ _ (λd z=>hR.mono S _ _ (λds y=>k _ y) z) q
 pa:=zq4 (zaC hA.pe hR.pa hs) λZ H Q ⟨S,G,r,q⟩=>⟨S,G,r,hA.mono S _ _ (λd z v H1 G1 t1 e1=>⟨S,G1,r.step t1,hR.mono S _ _ (λds y vs H2 G2 t2 e2=>
  y (v::vs) H2 G2 (t1.trans t2) ⟨v,vs,rfl,e1.mono t2.gg,e2⟩) z⟩) q⟩
@[reducible] def tupW(R:WL):WE:=λS Q=>R S λds=>ds.length<=100000/\Q (.tup ds)
def zbX(hR:DA X c es R):DE X c (.Tuple es x1 pos) (tupW R)where
 mono:=λS Q Q' k q=>hR.mono S _ _ (λds z=>⟨z.1,k _ z.2⟩) q
 pe:=zas (ztz hR.pa) λZ H Q ⟨S,G,r,q⟩=>⟨S,G,r,hR.mono S _ _ (λds z vs H' G' t e=>⟨by rw[<-e.length];exact small5 z.1,λp hp=>
  z.2 (.ref p) _ _ (t.trans (Stp.new t.gh t.bx hp)) ⟨p,vs,rfl,SqT.of zah,e.mono (zb0 (zap t.gh hp))⟩⟩) q⟩
@[reducible] def lstW(R:WL):WL:=λS Q=>R S λds=>ds.length<=100000/\Q ds
def zba(hR:DA X c es R):DF X c (.List es pos) (lstW R)where
 mono:=λS Q Q' k q=>hR.mono S _ _ (λds z=>⟨z.1,k _ z.2⟩) q
 pe:=zas (zqz hR.pa) λZ H Q ⟨S,G,r,q⟩=>⟨S,G,r,hR.mono S _ _ (λds z vs H' G' t e=>⟨by rw[<-e.length];exact small5 z.1,λp hp=>
  z.2 p vs _ _ (t.trans (Stp.own t.gh t.bx hp)) zah (zap t.gh hp) (t.free hp) e⟩) q⟩
def zkh(h:Reps c G ds vs)(e:atI ds i=some d):∃v,atI vs i=some v/\Rep c G d v:=by
 unfold atI at e ⊢;rw[h.length]at e;cases z:ixN vs.length i with
 |none=>rw[z]at e;cases e
 |some j=>rw[z]at e;exact h.get e
def itD(xs:List D)(y:D)(Q:D->Prop):Prop:=match y with|.int i=>(match atI xs i with|some d=>Q d|none=>False)|_=>False
def ixD:F2
 |.lst _ xs,y,Q=>itD xs y Q
 |.tup xs,y,Q=>itD xs y Q
 |_,_,_=>False
def zlf(k:∀d,Q d->Q' d)(q:itD xs y Q):itD xs y Q':=by
 cases y with
 |int i=>
  unfold itD at q ⊢;simp only at q ⊢;split at q
  .exact k _ q
  .exact q.elim
 |_=>exact q
def m_ix:zbi ixD:=λx y Q Q' k q=>by
 cases x<;>first|exact zlf k q|exact q
def zv0:OpD c ixD (rIx c.K):=by
 intro H G x y u v Q gh bx h0 rx ry q;cases x with
 |lst n xs=>
  obtain⟨a,vs,rfl,ha,_,rv⟩:=rx;cases y with
  |int i=>
   cases ry;have q:(match atI xs i with|some d=>_|none=>False):=q;split at q
   .rename_i d e
    obtain⟨w,e',rw'⟩:=zkh rv e;exact .inl ⟨a,vs,i,w,rfl,rfl,SqL.of (gh _ _ ha),e',q w H G (Stp.refl gh bx) rw'⟩
   .exact q.elim
  |_=>exact q.elim
 |tup xs=>
  obtain⟨a,vs,rfl,ha,rv⟩:=rx;cases y with
  |int i=>
   cases ry;have q:(match atI xs i with|some d=>_|none=>False):=q;split at q
   .rename_i d e
    obtain⟨w,e',rw'⟩:=zkh rv e;exact .inr (.inl ⟨a,vs,i,w,rfl,rfl,zbc gh ha,e',q w H G (Stp.refl gh bx) rw'⟩)
   .exact q.elim
  |_=>exact q.elim
 |_=>exact q.elim
def cutD{α:Type}(xs:List α)(lo hi:Option Int):List α:=(xs.drop (HT.sIx xs.length 0 lo)).take (HT.sIx xs.length xs.length hi-HT.sIx xs.length 0 lo)
def Reps.cut(h:Reps c G ds vs)(lo hi:Option Int):Reps c G (cutD ds lo hi) (cutV vs lo hi):=by
 unfold cutD cutV;rw[h.length];exact(h.drop _).take _
abbrev WO:=Env->(Option Int->Prop)->Prop
structure DO(X:Cx)(c:Bk)(e:Option Expr)(W:WO):Prop where
 mono:∀ S Q Q',(∀d,Q d->Q' d)->W S Q->W S Q'
 po:PO X e λZ H Q=>∃ S G,Rel c S Z H G/\W S λo=>∀H' G',Stp c.β H G H' G'->Q o H'
@[reducible] def noO:WO:=λ_ Q=>Q none
def zdI(A:WE):WO:=λS Q=>A S λd=>match d with|.int i=>Q (some i)|_=>False
def ze7:DO X c none noO:=⟨λ_ _ _ k q=>k _ q,λpins s Z H Q I ⟨S,G,r,q⟩=>zoF pins s Z H Q I (q H G r.refl)⟩
def zfd(hA:DE X c a A):DO X c (some a) (zdI A)where
 mono:=λS Q Q' k q=>hA.mono S _ _ (λd z=>by cases d<;>first|exact k _ z|exact z) q
 po:=λpins s Z H Q I ⟨S,G,r,q⟩=>znq hA.pe pins s Z H Q I ⟨S,G,r,hA.mono S _ _ (λd z v H' G' t e=>by
  cases d with
  |int i=>exact⟨i,e,z H' G' t⟩
  |_=>exact z.elim) q⟩
def slD(x:D)(lo hi:Option Int)(Q:D->Prop):Prop:=match x with
 |.lst _ xs=>Q (.lst true (cutD xs lo hi))
 |.tup xs=>Q (.tup (cutD xs lo hi))
 |_=>False
def zfm(fm:zbi f)(gm:zbi g)(mA:zbO A)(mB:zbO B)(mC:zbO C):zbO (zd9 f g A B C):=λS Q Q' k q=>mA S _ _ (λx q1=>mB S _ _ (λy q2=>fm x y _ _ (λz q3=>zhU z (λb q4=>by
 cases b
 .exact k _ q4
 .exact mC S _ _ (λw q5=>gm y w _ _ k q5) q4) q3) q2) q1) q
def zhx(fm:zbi f)(gm:zbi g)(mA:zbO A)(mB:zbO B)(mC:zbO C)(hr:OpD c f r)(hr':OpD c g r')(Z:St)(H:Hp)(Q:VK)(h:tD c (zd9 f g A B C) Z H Q):zn9 r r' (tD c A) (tD c B) (tD c C) Z H Q:=by
 obtain⟨S,G,R,q⟩:=h;refine⟨S,G,R,mA S _ _ (λx q1 u H1 G1 t1 e1=>⟨S,G1,R.step t1,mB S _ _ (λy q2 v H2 G2 t2 e2=>?_) q1⟩) q⟩;refine hr H2 G2 x y u v _ t2.gh t2.bx (λa z=>R.new0 (t1.free (t2.free z))) (e1.mono t2.gg) e2 (fm x y _ _ (λz q3 w H3 G3 t3 e3=>?_) q2);cases z with
 |bl k=>
  refine⟨k,e3,?_⟩;cases k
  .exact q3 _ H3 G3 ((t1.trans t2).trans t3) rfl
  .refine⟨S,G3,((R.step t1).step t2).step t3,mC S _ _ (λw' q5 v' H4 G4 t4 e4=>?_) q3⟩;exact hr' H4 G4 y w' v v' Q t4.gh t4.bx (λa z=>R.new0 (t1.free (t2.free (t3.free (t4.free z))))) ((e2.mono t3.gg).mono t4.gg) e4 (gm y w' _ _ (λd z w2 H5 G5 t5 e5=>z w2 H5 G5 ((((t1.trans t2).trans t3).trans t4).trans t5) e5) q5)
 |_=>exact q3.elim
end
end Fd
namespace Fd
open PySem L2
section
variable{X:Cx}{c:Bk}{a b e:Expr}{A B:WE}{pos p p':Pos}{es:List Expr}
abbrev FL:=List D->(D->Prop)->Prop
def zdF(f:FL):Prop:=∀ds Q Q',(∀d,Q d->Q' d)->f ds Q->f ds Q'
@[reducible] def cbW(f:FL)(R:WL):WE:=λS Q=>R S λds=>f ds Q
def zgn(c:Bk)(f:FL)(r:List V->Hp->VK->Prop):Prop:=∀(H G:Hp)(ds:List D)(vs:List V)(Q:VK),Same G H->BoxD c.β H G->(∀a,H a=none->c.H0 a=none)->Reps c G ds vs ->
 f ds (λd=>∀v H' G',Stp c.β H G H' G'->Rep c G' d v->Q v H')->r vs H Q
def zok(fm:zdF f)(mR:zfy R)(hr:zgn c f r)(Z:St)(H:Hp)(Q:VK)(h:tD c (cbW f R) Z H Q):tCB r (tDs c R) Z H Q:=by
 obtain⟨S,G,r',q⟩:=h;exact⟨S,G,r',mR S _ _ (λds z vs H' G' t e=>hr H' G' ds vs Q t.gh t.bx (λa z=>r'.new0 (t.free z)) e (fm ds _ _ (λd y v H2 G2 t2 e2=>y v H2 G2 (t.trans t2) e2) z)) q⟩
def zhX{f:FL}{R:WL}{r:List V->Hp->VK->Prop}{id:String}{x:Str}(fm:zdF f)(hc:CallR X (.builtin id) r)(hr:zgn c f r)(hm:X.mg x=none)(hv:bootBuiltins x=some (.builtin id))(hR:DA X c (e::es) R)(hg:Gl X x:=by rfl)(hn:x≠"__name__":=by decide)(hdb:(x==("__debug__":Str))=false:=by decide)
  (he:starEach (e::es) X.env=(false,eval e X.env)::starEach es X.env:=by rfl) (hpl:(backTo pos (starEach es X.env)).any (·.1)=false:=by rfl):DE X c (.Call (.Name x p) (e::es) [] pos) (cbW f R):=
 ⟨λS Q Q' k q=>hR.mono S _ _ (λds z=>fm ds _ _ k z) q,zas (zeX hc hg hm hv hR.pa hn hdb he hpl) (zok fm hR.mono hr)⟩
def zln(fm:zdF f)(hc:CallR X (.type T) r)(hr:zgn c f r)(hm:X.mg x=none)(hv:bootBuiltins x=some (.type T))(hR:DA X c (e::es) R)(hg:Gl X x:=by rfl)(hn:x≠"__name__":=by decide)(hdb:(x==("__debug__":Str))=false:=by decide)
  (he:starEach (e::es) X.env=(false,eval e X.env)::starEach es X.env:=by rfl) (hpl:(backTo pos (starEach es X.env)).any (·.1)=false:=by rfl):DE X c (.Call (.Name x p) (e::es) [] pos) (cbW f R):=
 ⟨λS Q Q' k q=>hR.mono S _ _ (λds z=>fm ds _ _ k z) q,zas (zck hc hg hm hv hR.pa hn hdb he hpl) (zok fm hR.mono hr)⟩
def zgy(h:Reps c G [d] vs):∃v,vs=[v]/\Rep c G d v:=by
 obtain⟨v,ws,rfl,h1,h2⟩:=h;cases h2;exact⟨v,rfl,h1⟩
def zv6(h:Reps c G [d,f] vs):∃v w,vs=[v,w]/\Rep c G d v/\Rep c G f w:=by
 obtain⟨v,ws,rfl,h1,w,ws',rfl,h2,h3⟩:=h;cases h3;exact⟨v,w,rfl,h1,h2⟩
def lenF:FL
 |[.lst _ xs],Q=>Q (.int xs.length)
 |[.tup xs],Q=>Q (.int xs.length)
 |_,_=>False
def zvO:zdF lenF:=λds Q Q' k q=>by
 unfold lenF at q ⊢;split at q<;>first|exact k _ q|exact q.elim
def zue:zgn c lenF (λxs H Q=>∃p ys,xs=[.ref p]/\(SqL c.K H p ys\/SqT c.K H p ys)/\Q (.int ys.length) H):=by
 intro H G ds vs Q gh bx h0 rv q;unfold lenF at q;split at q
 .obtain⟨v,rfl,a,ws,rfl,ha,_,hw⟩:=zgy rv;exact⟨a,ws,rfl,.inl (SqL.of (gh _ _ ha)),by rw[<-hw.length];exact q _ H G (Stp.refl gh bx) rfl⟩
 .obtain⟨v,rfl,a,ws,rfl,ha,hw⟩:=zgy rv;exact⟨a,ws,rfl,.inr (zbc gh ha),by rw[<-hw.length];exact q _ H G (Stp.refl gh bx) rfl⟩
 .exact q.elim
def seqD(d:D)(Q:List D->Prop):Prop:=match d with|.lst _ xs=>Q xs|.tup xs=>Q xs|_=>False
def zgd(k:∀xs,Q xs->Q' xs)(q:seqD d Q):seqD d Q':=by
 cases d<;>first|exact k _ q|exact q
@[reducible] def zmA(A:WE):WL:=λS Q=>A S λd=>seqD d Q
def zlM(hA:DE X c e A)(hg:Gl X "list":=by rfl)(he:starEach [e] X.env=(false,eval e X.env)::starEach [] X.env:=by rfl)(hK:c.K=X.K:=by rfl)(hm:X.mg "list"=none:=by decreasing_trivial):DF X c (.Call (.Name "list" p) [e] [] pos) (zmA A)where
 mono:=λS Q Q' k q=>hA.mono S _ _ (λd z=>zgd k z) q
 pe:=zas (zck zdV hg hm YBt (zaC hA.pe zbf he) (by decide) (by decide) he rfl) λZ H Q ⟨S,G,r,q⟩=>⟨S,G,r,hA.mono S _ _ (λd z v H' G' t e=>by
  cases d with
  |lst n xs=>
   obtain⟨a,vs,rfl,ha,_,rv⟩:=e;exact⟨a,vs,rfl,.inl (SqL.of (t.gh _ _ ha)),λl hl=>z l vs _ _ (t.trans (Stp.own t.gh t.bx hl)) zah (zap t.gh hl) (t.free hl) rv⟩
  |tup xs=>
   obtain⟨a,vs,rfl,ha,rv⟩:=e;exact⟨a,vs,rfl,.inr (hK▸zbc t.gh ha),λl hl=>z l vs _ _ (t.trans (Stp.own t.gh t.bx hl)) zah (zap t.gh hl) (t.free hl) rv⟩
  |_=>exact z.elim) q⟩
def addL(A B:WE):WL:=λS Q=>A S λx=>B S λy=>match x,y with|.lst _ xs,.lst _ ys=>xs.length+ys.length<=100000/\Q (xs++ys)|_,_=>False
def zvb(hA:DE X c a A)(hB:DE X c b B):DF X c (.BinOp a .Add b pos) (addL A B)where
 mono:=λS Q Q' k q=>hA.mono S _ _ (λx z=>hB.mono S _ _ (λy w=>by cases x<;>cases y<;>first|exact⟨w.1,k _ w.2⟩|exact w) z) q
 pe:=zas (zdO op_cat hA.pe hB.pe) λZ H Q ⟨S,G,r,q⟩=>⟨S,G,r,hA.mono S _ _ (λx z u H1 G1 t1 e1=>⟨S,G1,r.step t1,hB.mono S _ _ (λy w v H2 G2 t2 e2=>by
  cases x with
  |lst n xs=>cases y with
   |lst m ys=>
    obtain⟨l,vs,rfl,ha,_,rv⟩:=e1.mono t2.gg;obtain⟨l2,ws,rfl,hb,_,rw'⟩:=e2;refine⟨l,l2,vs,ws,rfl,rfl,t2.gh _ _ ha,t2.gh _ _ hb,?_,λp hp=>?_⟩
    .rw[<-rv.length,<-rw'.length];exact small5 w.1
    .exact w.2 p _ _ _ ((t1.trans t2).trans (Stp.own t2.gh t2.bx hp)) zah (zap t2.gh hp) ((t1.trans t2).free hp) (rv.append rw')
   |_=>exact w.elim
  |_=>exact w.elim) z⟩) q⟩
def zgp:FL
 |[.lst _ xs],Q=>Q (.tup xs)
 |[.tup xs],Q=>Q (.tup xs)
 |_,_=>False
def zr7:zdF zgp:=λds Q Q' k q=>by
 unfold zgp at q ⊢;split at q<;>first|exact k _ q|exact q.elim
def zpq:zgn c zgp (λxs H Q=>∃p ys,xs=[.ref p]/\((SqL c.K H p ys/\∀l,H l=none->Q (.ref l) (upd H l (.tup ys)))\/(SqT c.K H p ys/\Q (.ref p) H))):=by
 intro H G ds vs Q gh bx h0 rv q;unfold zgp at q;split at q
 .obtain⟨v,rfl,a,ws,rfl,ha,_,hw⟩:=zgy rv;exact⟨a,ws,rfl,.inl ⟨SqL.of (gh _ _ ha),λl hl=>q (.ref l) _ _ (Stp.new gh bx hl) ⟨l,ws,rfl,SqT.of zah,hw.mono (zb0 (zap gh hl))⟩⟩⟩
 .obtain⟨v,rfl,a,ws,rfl,ha,hw⟩:=zgy rv;exact⟨a,ws,rfl,.inr ⟨zbc gh ha,q (.ref a) H G (Stp.refl gh bx) ⟨a,ws,rfl,ha,hw⟩⟩⟩
 .exact q.elim
def zry(hR:DA X c [e] R)(hg:Gl X "tuple":=by rfl)(he:starEach [e] X.env=(false,eval e X.env)::starEach [] X.env:=by rfl)(hK:c.K=X.K:=by rfl)(hm:X.mg "tuple"=none:=by decreasing_trivial):DE X c (.Call (.Name "tuple" p) [e] [] pos) (cbW zgp R):=
 zln zr7 zhG (hK▸zpq) hm PyProof.Rows.boot_tuple hR hg (by decide) (by decide) he rfl
def intF:FL
 |[.int i],Q=>Q (.int i)
 |[.bl k],Q=>Q (.int (if k then 1 else 0))
 |_,_=>False
def zvX:zdF intF:=λds Q Q' k q=>by
 unfold intF at q ⊢;split at q<;>first|exact k _ q|exact q.elim
def zs6:zgn c intF (λxs H Q=>(∃i,xs=[.int i]/\Q (.int i) H)\/∃k,xs=[.bl k]/\Q (.int (if k then 1 else 0)) H):=by
 intro H G ds vs Q gh bx h0 rv q;unfold intF at q;split at q
 .obtain⟨v,rfl,h⟩:=zgy rv;cases h;exact .inl ⟨_,rfl,q _ H G (Stp.refl gh bx) rfl⟩
 .obtain⟨v,rfl,h⟩:=zgy rv;cases h;exact .inr ⟨_,rfl,q _ H G (Stp.refl gh bx) rfl⟩
 .exact q.elim
def allF:FL
 |[.lst _ xs],Q=>∃bs:List Bool,xs=bs.map D.bl/\Q (.bl (bs.all id))
 |_,_=>False
def anyF:FL
 |[.lst _ xs],Q=>∃bs:List Bool,xs=bs.map D.bl/\Q (.bl (bs.any id))
 |_,_=>False
def zvB:zdF allF:=λds Q Q' k q=>by
 unfold allF at q ⊢;split at q
 .obtain⟨bs,e,q⟩:=q;exact⟨bs,e,k _ q⟩
 .exact q.elim
def zvh:zdF anyF:=λds Q Q' k q=>by
 unfold anyF at q ⊢;split at q
 .obtain⟨bs,e,q⟩:=q;exact⟨bs,e,k _ q⟩
 .exact q.elim
def zuf:zgn c allF (λvs H Q=>∃(p:Addr)(bs:List Bool),vs=[.ref p]/\SqL c.K H p (bs.map V.bl)/\Q (.bl (bs.all id)) H):=by
 intro H G ds vs Q gh bx h0 rv q;unfold allF at q;split at q
 .obtain⟨bs,rfl,q⟩:=q;obtain⟨v,rfl,a,ws,rfl,ha,_,hw⟩:=zgy rv;rw[reps_bools.mp hw]at ha;exact⟨a,bs,rfl,SqL.of (gh _ _ ha),q _ H G (Stp.refl gh bx) rfl⟩
 .exact q.elim
def zub:zgn c anyF (λvs H Q=>∃(p:Addr)(bs:List Bool),vs=[.ref p]/\SqL c.K H p (bs.map V.bl)/\Q (.bl (bs.any id)) H):=by
 intro H G ds vs Q gh bx h0 rv q;unfold anyF at q;split at q
 .obtain⟨bs,rfl,q⟩:=q;obtain⟨v,rfl,a,ws,rfl,ha,_,hw⟩:=zgy rv;rw[reps_bools.mp hw]at ha;exact⟨a,bs,rfl,SqL.of (gh _ _ ha),q _ H G (Stp.refl gh bx) rfl⟩
 .exact q.elim
def zrL(hR:DA X c [e] R)(hg:Gl X "all":=by rfl)(he:starEach [e] X.env=(false,eval e X.env)::starEach [] X.env:=by rfl)(hK:c.K=X.K:=by rfl)(hcalm:X.calm=true:=by rfl)(hm:X.mg "all"=none:=by decreasing_trivial):DE X c (.Call (.Name "all" p) [e] [] pos) (cbW allF R):=
 zhX zvB (zm1 hcalm) (hK▸zuf) hm PyProof.Rows.boot_all hR hg (by decide) (by decide) he rfl
def zvu(hR:DA X c [e] R)(hg:Gl X "any":=by rfl)(he:starEach [e] X.env=(false,eval e X.env)::starEach [] X.env:=by rfl)(hK:c.K=X.K:=by rfl)(hcalm:X.calm=true:=by rfl)(hm:X.mg "any"=none:=by decreasing_trivial):DE X c (.Call (.Name "any" p) [e] [] pos) (cbW anyF R):=
 zhX zvh (zou hcalm) (hK▸zub) hm PyProof.Rows.boot_any hR hg (by decide) (by decide) he rfl
def isiB(T:String):D->Option Bool
 |.non=>some false
 |.bl _=>some (T=="bool" || T=="int")
 |.int _=>some (T=="int")
 |.str _=>some (T=="str")
 |.tup _=>some (T=="tuple")
 |.lst _ _=>some (T=="list")
 |.box=>none
 |.obj _=>none
 |.dct _ _ _=>none
 |.fdc _ _=>none
def isiW(T:String)(A:WE):WE:=λS Q=>A S λd=>match isiB T d with|some b=>Q (.bl b)|none=>False
def zrS(hT:T="list" \/ T="tuple" \/ T="int" \/ T="bool" \/ T="str")(gh:Same G H)(h:Rep c G d v)(e:isiB T d=some k):IsI c.K H v T k:=by
 cases d with
 |non=>cases h;rcases hT with rfl|rfl|rfl|rfl|rfl<;>cases e<;>constructor
 |bl b=>cases h;rcases hT with rfl|rfl|rfl|rfl|rfl<;>cases e<;>constructor
 |int b=>cases h;rcases hT with rfl|rfl|rfl|rfl|rfl<;>cases e<;>constructor
 |str b=>cases h;rcases hT with rfl|rfl|rfl|rfl|rfl<;>cases e<;>constructor
 |tup xs=>
  obtain⟨a,vs,rfl,h1,_⟩:=h;have q:=zbc gh h1;rcases hT with rfl|rfl|rfl|rfl|rfl<;>cases e
  .exact .tuple_list _ _ q
  .exact .tuple_tuple _ _ q
  .exact .tuple_int _ _ q
  .exact .tuple_bool _ _ q
  .exact .tuple_str _ _ q
 |lst n xs=>
  obtain⟨a,vs,rfl,h1,_⟩:=h;have q:SqL c.K H a vs:=SqL.of (gh _ _ h1);rcases hT with rfl|rfl|rfl|rfl|rfl<;>cases e
  .exact .list_list _ _ q
  .exact .list_tuple _ _ q
  .exact .list_int _ _ q
  .exact .list_bool _ _ q
  .exact .list_str _ _ q
 |box=>cases e
 |obj a=>cases e
 |dct n ks xs=>cases e
 |fdc ks xs=>cases e
def zfI(hA:DE X c e A)(hg:Gl X "isinstance":=by rfl)(hg2:Gl X x:=by rfl)(hn:x≠"__name__":=by decide)(hd:(x==("__debug__":Str))=false:=by decide)(he:starEach [e,.Name x p'] X.env=(false,eval e X.env)::starEach [.Name x p'] X.env:=by rfl)(hK:c.K=X.K:=by rfl)(hT:T="list" \/ T="tuple" \/ T="int" \/ T="bool" \/ T="str":=by decreasing_trivial)(hm:X.mg "isinstance"=none:=by decreasing_trivial)(hm2:X.mg x=none:=by decreasing_trivial)(hbt:bootBuiltins x=some (.type T):=by decreasing_trivial) :
  DE X c (.Call (.Name "isinstance" p) [e,.Name x p'] [] pos) (isiW T A)where
 mono:=λS Q Q' k q=>hA.mono S _ _ (λd z=>by
  revert z;cases isiB T d with
  |none=>exact id
  |some b=>exact k _) q
 pe:=zas (zeX zo5 hg hm PyProof.Rows.boot_isinstance (zaC hA.pe (zaC (znt (v:=.ty T) hg2 hm2 hbt rfl hn hd) zbf) he) (by decide) (by decide) he rfl) λZ H Q ⟨S,G,r,q⟩=>⟨S,G,r,hA.mono S _ _ (λd z v H' G' t e=>by
  revert z;cases hk:isiB T d with
  |none=>exact False.elim
  |some b=>exact λz=>⟨v,T,b,rfl,hK▸zrS hT t.gh e hk,z _ H' G' t rfl⟩) q⟩
abbrev Fn:=List D->(D->Prop)->Prop
def up(F:Fn):Fn:=λds Q=>∃P:D->Prop,F ds P/\∀d,P d->Q d
def zbY(F:Fn):zdF (up F):=λds Q Q' k ⟨P,h1,h2⟩=>⟨P,h1,λd z=>k d (h2 d z)⟩
def spD(K:qk)(n:Nat)(F:Fn):Sp:=λvs H Q _=>∃ β G ds,Same G H/\BoxD β H G/\Reps ⟨K,β,λ_=>none,G,True⟩ G ds vs/\vs.length=n/\up F ds λd=>∀v H' G',Stp β H G H' G'->Rep ⟨K,β,H,G,True⟩ G' d v->Q v H'
structure Cal(P:Program)(w:World)(K:qk)(mg:Str->Option Value)(base:Heap)(x:Str)(k:Nat)(ps:List Str)(sp:Sp):Prop where
 ex:∃f fd,FnOk P w K mg base CX0 k f fd ps sp/\mg x=some (.ref f)/\PySem.W.keepIn K (.ref f)=true/\Binds K fd ps []
def Cal.of(F:Fun K x qual st f fd)(G:FnOk P w K mg base CX0 k f fd ps sp)(hm:mg x=some (.ref f))(hb:Binds K fd ps []):Cal P w K mg base x k ps sp:=
 ⟨f,fd,G,hm,F.kp,hb⟩
@[reducible] def zal(n:Nat)(F:Fn)(R:WL):WE:=λS Q=>R S λds=>ds.length=n/\up F ds Q
def zan(C:Cal X.prog X.w X.K X.mg X.base x k ps (spD X.K n F))(hR:DA X c (e::es) R)(hg:Gl X x:=by rfl)
  (hdb:(x==("__debug__":Str))=false:=by decide) (he:starEach (e::es) X.env=(false,eval e X.env)::starEach es X.env:=by rfl) (hpl:(backTo pos (starEach es X.env)).any (·.1)=false:=by rfl) (hK:c.K=X.K:=by rfl) (hr:Room k X.A:=by decreasing_trivial) :
  DE X c (.Call (.Name x p) (e::es) [] pos) (zal n F R)where
 mono:=λS Q Q' k q=>hR.mono S _ _ (λds z=>⟨z.1,zbY F ds _ _ k z.2⟩) q
 pe:=by
  obtain⟨f,fd,FO,hm,hk,hb⟩:=C.ex;refine zas (zdU FO hr hg hm hk hb .nil zko hR.pa hdb he hpl) λZ H Q ⟨S,G,r,q⟩=>⟨S,G,r,hR.mono S _ _ (λds z vs H' G' t e=>?_) q⟩;show spD X.K n F (vs++[]) H' Q E0;rw[YA1];exact⟨c.β,G',ds,t.gh,t.bx,Reps.back (c':=c) (c:=⟨X.K,c.β,λ_=>none,G',True⟩) hK rfl (λ_ _=>rfl) e,by rw[<-e.length];exact z.1,
   zbY F ds _ _ (λd z v H2 G2 t2 e2=>z v H2 G2 (t.trans t2) (Rep.back (c':=⟨X.K,c.β,H',G',True⟩) (c:=c) hK.symm rfl (λa h=>r.new0 (t.free h)) e2)) z.2⟩
end
mutual
inductive Tg where
 |nm (i:Nat)
 |tp (n:Nat) (ts:Tgs)
inductive Tgs where
 |nil
 |cons (t:Tg) (ts:Tgs)
end
mutual
def gOf(K:qk):Tg->TG
 |.nm i=>zjR i
 |.tp n ts=>gSeq K n (gsOf K ts)
def gsOf(K:qk):Tgs->TGs
 |.nil=>gNil
 |.cons t ts=>zp0 (gOf K t) (gsOf K ts)
end
mutual
def gD:Tg->D->Env->(Env->Prop)->Prop
 |.nm i,d,S,Q=>Q (S.set i (.val d))
 |.tp n ts,.tup ds,S,Q=>ds.length=n/\gDs ts ds S Q
 |.tp n ts,.lst _ ds,S,Q=>ds.length=n/\gDs ts ds S Q
 |.tp _ _,_,_,_=>False
def gDs:Tgs->List D->Env->(Env->Prop)->Prop
 |.nil,[],S,Q=>Q S
 |.cons t ts,d::ds,S,Q=>gD t d S λS'=>gDs ts ds S' Q
 |_,_,_,_=>False
end
mutual
theorem zb8:∀(t:Tg)(d:D)(S:Env){Q Q':Env->Prop},(∀ S,Q S->Q' S)->gD t d S Q->gD t d S Q'
 |.nm i,d,S,Q,Q',k,q=>by unfold gD at q ⊢;exact k _ q
 |.tp n ts,.tup ds,S,Q,Q',k,q=>by unfold gD at q ⊢;exact⟨q.1,zh8 ts ds S k q.2⟩
 |.tp _ _,.non,_,_,_,_,q=>by unfold gD at q;exact q.elim
 |.tp _ _,.bl _,_,_,_,_,q=>by unfold gD at q;exact q.elim
 |.tp _ _,.int _,_,_,_,_,q=>by unfold gD at q;exact q.elim
 |.tp _ _,.str _,_,_,_,_,q=>by unfold gD at q;exact q.elim
 |.tp n ts,.lst _ ds,S,Q,Q',k,q=>by unfold gD at q ⊢;exact⟨q.1,zh8 ts ds S k q.2⟩
 |.tp _ _,.box,_,_,_,_,q=>by unfold gD at q;exact q.elim
 |.tp _ _,.obj _,_,_,_,_,q=>by unfold gD at q;exact q.elim
 |.tp _ _,.dct _ _ _,_,_,_,_,q=>by unfold gD at q;exact q.elim
 |.tp _ _,.fdc _ _,_,_,_,_,q=>by unfold gD at q;exact q.elim
theorem zh8:∀(ts:Tgs)(ds:List D)(S:Env){Q Q':Env->Prop},(∀ S,Q S->Q' S)->gDs ts ds S Q->gDs ts ds S Q'
 |.nil,[],S,Q,Q',k,q=>by unfold gDs at q ⊢;exact k _ q
 |.cons t ts,d::ds,S,Q,Q',k,q=>by unfold gDs at q ⊢;exact zb8 t d S (λS' z=>zh8 ts ds S' k z) q
 |.nil,_::_,_,_,_,_,q=>by unfold gDs at q;exact q.elim
 |.cons _ _,[],_,_,_,_,q=>by unfold gDs at q;exact q.elim
end
mutual
theorem zfj :∀(t:Tg)(d:D)(v:V)(S:Env)(Z:St){Q:St->Hp->Prop},Rel c S Z H G->Rep c G d v->gD t d S (λS'=>∀ Z',Rel c S' Z' H G->Q Z' H)->gOf c.K t v Z H Q
 |.nm i,d,v,S,Z,Q,r,e,q=>by unfold gD at q;unfold gOf;exact q _ (r.put e)
 |.tp n ts,.tup ds,v,S,Z,Q,r,e,q=>by
  unfold gD at q;unfold gOf;obtain⟨a,vs,rfl,ha,hv⟩:=e;exact⟨a,vs,rfl,.inl (zbc r.gh ha),by rw[<-hv.length];exact q.1,zh9 ts ds vs S Z r hv q.2⟩
 |.tp _ _,.non,_,_,_,_,_,_,q=>by unfold gD at q;exact q.elim
 |.tp _ _,.bl _,_,_,_,_,_,_,q=>by unfold gD at q;exact q.elim
 |.tp _ _,.int _,_,_,_,_,_,_,q=>by unfold gD at q;exact q.elim
 |.tp _ _,.str _,_,_,_,_,_,_,q=>by unfold gD at q;exact q.elim
 |.tp n ts,.lst m ds,v,S,Z,Q,r,e,q=>by
  unfold gD at q;unfold gOf;obtain⟨a,vs,rfl,ha,_,hv⟩:=e;exact⟨a,vs,rfl,.inr (SqL.of (r.gh _ _ ha)),by rw[<-hv.length];exact q.1,zh9 ts ds vs S Z r hv q.2⟩
 |.tp _ _,.box,_,_,_,_,_,_,q=>by unfold gD at q;exact q.elim
 |.tp _ _,.obj _,_,_,_,_,_,_,q=>by unfold gD at q;exact q.elim
 |.tp _ _,.dct _ _ _,_,_,_,_,_,_,q=>by unfold gD at q;exact q.elim
 |.tp _ _,.fdc _ _,_,_,_,_,_,_,q=>by unfold gD at q;exact q.elim
theorem zh9 :∀(ts:Tgs)(ds:List D)(vs:List V)(S:Env)(Z:St){Q:St->Hp->Prop},Rel c S Z H G->Reps c G ds vs->gDs ts ds S (λS'=>∀ Z',Rel c S' Z' H G->Q Z' H)->gsOf c.K ts vs Z H Q
 |.nil,[],vs,S,Z,Q,r,e,q=>by unfold gDs at q;unfold gsOf;exact⟨e,q _ r⟩
 |.cons t ts,d::ds,vs,S,Z,Q,r,e,q=>by
  unfold gDs at q;unfold gsOf;obtain⟨v,ws,rfl,e1,e2⟩:=e;exact⟨v,ws,rfl,zfj t d v S Z r e1 (zb8 t d S (λS' z Z' r'=>zh9 ts ds ws S' Z' r' e2 z) q)⟩
 |.nil,_::_,_,_,_,_,_,_,q=>by unfold gDs at q;exact q.elim
 |.cons _ _,[],_,_,_,_,_,_,q=>by unfold gDs at q;exact q.elim
end
structure En where
 nx:Env->Prop
 rt:D->Prop
 bk:Env->Prop
 ct:Env->Prop
abbrev WS:=En->Env->Prop
structure En.Le(E E':En):Prop where
 nx:∀ S,E.nx S->E'.nx S
 rt:∀d,E.rt d->E'.rt d
 bk:∀ S,E.bk S->E'.bk S
 ct:∀ S,E.ct S->E'.ct S
def zoH(W:WS):Prop:=∀E E' S,En.Le E E'->W E S->W E' S
noncomputable def ends(c:Bk)(G:Hp)(Ds:Ends):En where
 nx:=λS=>∀ Z H' G',Rel c S Z H' G'->Same G G'->Ds.nx Z H'
 rt:=λd=>∀v H' G',Stp c.β c.H0 c.G0 H' G'->Rep c G' d v->Ds.rt v H'
 bk:=λS=>∀ Z H' G',Rel c S Z H' G'->Same G G'->Ds.bk Z H'
 ct:=λS=>∀ Z H' G',Rel c S Z H' G'->Same G G'->Ds.ct Z H'
def zgA(s:Same G G1):En.Le (ends c G Ds) (ends c G1 Ds):=
 ⟨λS h Z H' G' r s'=>h Z H' G' r (s.trans s'),λd h=>h,λS h Z H' G' r s'=>h Z H' G' r (s.trans s'),λS h Z H' G' r s'=>h Z H' G' r (s.trans s')⟩
def tDS(c:Bk)(W:WS):TS:=λDs Z H=>∃ S G,Rel c S Z H G/\W (ends c G Ds) S
structure DS(X:Cx)(c:Bk)(st:Stmt)(W:WS):Prop where
 mono:zoH W
 ps:PS X st (tDS c W)
structure DSs(X:Cx)(c:Bk)(sts:List Stmt)(W:WS):Prop where
 mono:zoH W
 pss:PSs X sts (tDS c W)
section
variable{X:Cx}{c:Bk}{st:Stmt}{rest:List Stmt}{pos p p':Pos}{e:Expr}
def zbj(h:PS X st t)(k:∀D Z H,t' D Z H->t D Z H):PS X st t':=λpins s Z H D I q=>h pins s Z H D I (k D Z H q)
def zfu(h:PSs X rest t)(k:∀D Z H,t' D Z H->t D Z H):PSs X rest t':=λpins s Z H D I q=>h pins s Z H D I (k D Z H q)
@[reducible] def nilS:WS:=λE S=>E.nx S
@[reducible] def seqW(A B:WS):WS:=λE S=>A {E with nx:=B E} S
def za4:DSs X c [] nilS:=⟨λE E' S l q=>l.nx _ q,zfu zgL λD Z H ⟨S,G,r,q⟩=>q Z H G r (Same.refl _)⟩
def zai(h1:DS X c st A)(h2:DSs X c rest B):DSs X c (st::rest) (seqW A B)where
 mono:=λE E' S l q=>h1.mono {E with nx:=B E} _ S ⟨λS' z=>h2.mono _ _ S' l z,l.rt,l.bk,l.ct⟩ q
 pss:=zfu (zaY h1.ps h2.pss) λD Z H ⟨S,G,r,q⟩=>⟨S,G,r,h1.mono {ends c G D with nx:=B (ends c G D)} _ S ⟨λS' z Z' H' G' r' s'=>⟨S',G',r',h2.mono _ _ S' (zgA s') z⟩,λd z=>z,λS' z=>z,λS' z=>z⟩ q⟩
def zam(h1:DS X c st A):DSs X c [st] A:=⟨h1.mono,zd1 h1.ps⟩
def frz(i:Nat)(S:Env):Env:=match S[i]? with|some (.own xs)=>S.set i (.val (.lst true xs))|_=>S
@[reducible] def frzW(i:Nat)(A:WS):WS:=λE S=>A E (frz i S)
def zoU(r:Rel c S Z H G)(i:Nat):∃G',Same G G'/\Rel c (frz i S) Z H G':=by
 unfold frz;split
 .rename_i xs e;exact r.freeze e
 .exact⟨G,Same.refl _,r⟩
def zo9(i:Nat)(h:DS X c st A):DS X c st (frzW i A)where
 mono:=λE E' S l q=>h.mono E E' _ l q
 ps:=zbj h.ps λD Z H ⟨S,G,r,q⟩=>by
  obtain⟨G',s',r'⟩:=zoU r i;exact⟨frz i S,G',r',h.mono _ _ _ (zgA s') q⟩
@[reducible] def ifS(C:WT)(A B:WS):WS:=λE S=>C S λb=>if b=true then A E S else B E S
def s_if(hC:DT X c e C)(hA:DSs X c a A)(hB:DSs X c b B):DS X c (.If e a b pos) (ifS C A B)where
 mono:=λE E' S l q=>hC.mono S _ _ (λb z=>by
  cases b
  .exact hB.mono _ _ S l z
  .exact hA.mono _ _ S l z) q
 ps:=zbj (zmI hC.pt hA.pss hB.pss) λD Z H ⟨S,G,r,q⟩=>⟨S,G,r,hC.mono S _ _ (λb z H' G' t=>by
  cases b
  .exact⟨S,G',r.step t,hB.mono _ _ S (zgA t.gg) z⟩
  .exact⟨S,G',r.step t,hA.mono _ _ S (zgA t.gg) z⟩) q⟩
@[reducible] def retW(A:WE):WS:=λE S=>A S E.rt
def zat(hA:DE X c e A):DS X c (.Return (some e) pos) (retW A)where
 mono:=λE E' S l q=>hA.mono S _ _ l.rt q
 ps:=zbj (zfM hA.pe) λD Z H ⟨S,G,r,q⟩=>⟨S,G,r,hA.mono S _ _ (λd z v H' G' t e=>z v H' G' (r.stp.trans t) e) q⟩
@[reducible] def zme(A:WE):WS:=λE S=>A S λ_=>E.nx S
def zl9(hA:DE X c e A)(hs:swapsWith e none pos.line X.env=pure false:=by rfl):DS X c (.Expr e pos) (zme A)where
 mono:=λE E' S l q=>hA.mono S _ _ (λd z=>l.nx _ z) q
 ps:=zbj (zj9 hA.pe hs) λD Z H ⟨S,G,r,q⟩=>⟨S,G,r,hA.mono S _ _ (λd z v H' G' t e=>z Z H' G' (r.step t) t.gg) q⟩
@[reducible] def asgW(t:Tg)(A:WE):WS:=λE S=>A S λd=>gD t d S E.nx
def zli(mA:zbO A)(D:Ends)(Z:St)(H:Hp)(h:tDS c (asgW t A) D Z H):tAsg (tD c A) (gOf c.K t) D Z H:=by
 obtain⟨S,G,r,q⟩:=h;exact⟨S,G,r,mA S _ _ (λd z v H' G' t1 e1=>zfj t d v S Z (r.step t1) e1 (zb8 t d S (λS' y Z' r'=>y Z' H' G' r' t1.gg) z)) q⟩
def ziE(mA:zbO A):zoH (asgW t A):=λE E' S l q=>mA S _ _ (λd z=>zb8 t d S l.nx z) q
def gn(i:Nat)(hi:X.N[i]?=some x:=by rfl)(hx:Loc X.env.scope x:=by first|exact Or.inl rfl|exact Or.inr rfl)(hf:X.fn x=true\/X.env.scope.names.lookup x=some .local:=by first|exact .inl rfl|exact .inr rfl|assumption)(hN:X.N.Nodup:=by decreasing_trivial):PG X (.Name x p) (zjR i):=zsB hN hi hx hf
def ndB:List Str->Bool
 |[]=>true
 |x::l=>!l.elem x&&ndB l
theorem ndB_of:∀{l:List Str},ndB l=true->l.Nodup
 |[],_=>YDd
 |x::l,h=>by
  unfold ndB at h
  have:=YCw.mp h
  refine YAP.mpr ⟨λm=>?_,ndB_of this.2⟩;rw[List.elem_iff.mpr m]at this;exact absurd this.1 (by decide)
def zaZ(i:Nat)(hA:DE X c e A)(hi:X.N[i]?=some x:=by rfl)(hx:Loc X.env.scope x:=by first|exact Or.inl rfl|exact Or.inr rfl)(hs:swapsWith e (some (.Name x p)) pos.line X.env=pure false:=by rfl)(hf:X.fn x=true\/X.env.scope.names.lookup x=some .local:=by first|exact .inl rfl|exact .inr rfl|assumption)(hN:X.N.Nodup:=by decreasing_trivial):DS X c (.Assign [.Name x p] e pos) (asgW (.nm i) A):=
 ⟨ziE hA.mono,zbj (zdG hN hi hx hA.pe hs hf) λD Z H h=>zli (t:=.nm i) hA.mono D Z H h⟩
def zhz(t:Tg)(hA:DE X c e A)(hg:PG X tg (gOf c.K t))(hs:swapsWithSole [tg] e pos.line X.env=pure false:=by rfl)(hw:swappedStores [tg] e X.env=pure none:=by rfl)
  (h1:(assignEach [tg] X.env).map (·.2)=[assign tg X.env]:=by rfl):DS X c (.Assign [tg] e pos) (asgW t A):=
 ⟨ziE hA.mono,zbj (zhl hA.pe hg hs hw h1) λD Z H h=>zli hA.mono D Z H h⟩
@[reducible] def ownW(i:Nat)(F:WL):WS:=λE S=>F S λxs=>E.nx (S.set i (.own xs))
def zlU(mF:zfy F):zoH (ownW i F):=λE E' S l q=>mF S _ _ (λd z=>l.nx _ z) q
def zlG(mF:zfy F)(D:Ends)(Z:St)(H:Hp)(h:tDS c (ownW i F) D Z H):tAsg (tDf c F) (zjR i) D Z H:=by
 obtain⟨S,G,r,q⟩:=h;refine⟨S,G,r,mF S _ _ (λxs z l vs H' G' t hl hg h0 hv=>?_) q⟩;refine z _ H' G' ((r.step t).putOwn hl hg (r.new0 h0) (r.neβ h0) hv λj ys e1 e2=>?_) t.gg;obtain⟨a,vs',f1,f2,_⟩:=r.slot j _ e1;rw[e2]at f1;cases f1;rw[h0]at f2;cases f2
def zp6(i:Nat)(hF:DF X c e F)(hi:X.N[i]?=some x:=by rfl)(hx:Loc X.env.scope x:=by first|exact Or.inl rfl|exact Or.inr rfl)(hs:swapsWith e (some (.Name x p)) pos.line X.env=pure false:=by rfl)(hf:X.fn x=true\/X.env.scope.names.lookup x=some .local:=by first|exact .inl rfl|exact .inr rfl|assumption)(hN:X.N.Nodup:=by decreasing_trivial):DS X c (.Assign [.Name x p] e pos) (ownW i F):=
 ⟨zlU hF.mono,zbj (zdG hN hi hx hF.pe hs hf) λD Z H h=>zlG hF.mono D Z H h⟩
@[reducible] def parW(i j:Nat)(A B:WE):WS:=λE S=>A S λx=>B S λy=>E.nx ((S.set i (.val x)).set j (.val y))
def zu9(i j:Nat){kt k2 pt2}(hA:DE X c a A)(hB:DE X c b B)(hij:i≠j:=by decide)(hi:X.N[i]?=some x:=by rfl)(hj:X.N[j]?=some y:=by rfl)(hx:X.env.scope.names.lookup x=some .local:=by rfl)(hy:X.env.scope.names.lookup y=some .local:=by rfl)(hsa:starEach [a,b] X.env=(false,eval a X.env)::starEach [b] X.env:=by rfl)(hsb:starEach [b] X.env=(false,eval b X.env)::starEach [] X.env:=by rfl)(hw:swappedStores [.Tuple [.Name x px,.Name y py] kt pt] (.Tuple [a,b] k2 pt2) X.env=pure (some [x,y]):=by rfl)(hs:swapsWithSole [.Tuple [.Name x px,.Name y py] kt pt] (.Tuple [a,b] k2 pt2) pos.line X.env=pure false:=by rfl)(hc:X.calm=true:=by rfl)(hN:X.N.Nodup:=by decreasing_trivial) :
  DS X c (.Assign [.Tuple [.Name x px,.Name y py] kt pt] (.Tuple [a,b] k2 pt2) pos) (parW i j A B)where
 mono:=λE E' S l q=>hA.mono S _ _ (λd z=>hB.mono S _ _ (λd' z'=>l.nx _ z') z) q
 ps:=zbj (zun hc hN hi hj hij hx hy (zaC hA.pe (zaC hB.pe zbf hsb) hsa) hw hs) λD Z H ⟨S,G,r,q⟩=>⟨S,G,r,hA.mono S _ _ (λd z v H1 G1 t1 e1=>⟨S,G1,r.step t1,hB.mono S _ _ (λd' z' w H2 G2 t2 e2=>
  ⟨v,w,rfl,z' _ H2 G2 ((((r.step t1).step t2).put (e1.mono t2.gg)).put e2) (t1.gg.trans t2.gg)⟩) z⟩) q⟩
def appW(i:Nat)(A:WE):WS:=λE S=>match S[i]? with
 |some (.own xs)=>A S λd=>xs.length<100000/\E.nx (S.set i (.own (xs++[d])))
 |_=>False
def zrc(i:Nat)(hA:DE X c e A)(hN:X.N[i]?=some x:=by rfl)(hv:Vis X.env.scope x:=by first|exact Or.inl rfl|exact Or.inr (Or.inl rfl)|exact Or.inr (Or.inr rfl))
  (hd:(x==("__debug__":Str))=false:=by decide) (hcd:(x==("__classdict__":Str))=false:=by decide)
  (hbase:attributeBase (.Name x p) "append" X.env (eval (.Name x p) X.env)=eval (.Name x p) X.env:=by rfl)
  (hfew:((backTo cpos (starEach [e] X.env)).all (λx=>!x.1)&&(backToKw cpos (keywordEach [] X.env)).all (λx=>x.1.isSome)
   && decide (([e]:List Expr).length+([]:List Keyword).length+(if ([]:List Keyword).isEmpty then 0 else 1)<30))=true:=by rfl)
  (hline:(apos.endLine==cpos.line)=true:=by rfl) (hs:starEach [e] X.env=(false,eval e X.env)::starEach [] X.env:=by rfl)
  (hsw:swapsWith (.Call (.Attribute (.Name x p) "append" apos) [e] [] cpos) none pos.line X.env=pure false:=by rfl):DS X c (.Expr (.Call (.Attribute (.Name x p) "append" apos) [e] [] cpos) pos) (appW i A)where
 mono:=λE E' S l q=>by
  unfold appW at q ⊢;split at q
  .exact hA.mono S _ _ (λd z=>⟨z.1,l.nx _ z.2⟩) q
  .exact q.elim
 ps:=zbj (zj9 (zpk YB7 PySem.F.slot_list_append PySem.F.type_list_append zgJ (zbw hN hv hd hcd) (zaC hA.pe zbf hs) hbase hfew hline hs rfl) hsw) λD Z H ⟨S,G,r,q⟩=>by
  unfold appW at q;split at q
  .rename_i xs ek
   obtain⟨a,vs,h1,h2,h3,h4,h5,h6⟩:=r.slot i _ ek;refine⟨.ref a,h1,.inl ⟨rfl,vs,SqL.of h2⟩,S,G,r,hA.mono S _ _ (λd z w H' G' t e=>?_) q⟩;refine⟨a,vs,w,rfl,rfl,t.fr a _ h5 h2,?_,?_⟩
   .rw[<-h6.length];exact YAr z.1 (small5 (YAo _))
   .exact z.2 _ _ G' ((r.step t).write ek h1 ((h6.mono t.gg).append (.one e))) t.gg
  .exact q.elim
def ixS(xs:List D)(k:D)(Q:Nat->Prop):Prop:=match k with|.int j=>(match ixN xs.length j with|some m=>Q m|none=>False)|_=>False
def zqc(f:∀m,Q m->Q' m)(q:ixS xs k Q):ixS xs k Q':=by
 unfold ixS at q ⊢;split at q
 .split at q
  .exact f _ q
  .exact q.elim
 .exact q.elim
def putW(i:Nat)(I A:WE):WS:=λE S=>match S[i]? with
 |some (.own xs)=>A S λd=>I S λk=>ixS xs k λm=>E.nx (S.set i (.own (xs.set m d)))
 |_=>False
def zvM(i:Nat)(hA:DE X c e A)(hI:DE X c ie I)(hN:X.N[i]?=some x:=by rfl)(hv:Vis X.env.scope x:=by first|exact Or.inl rfl|exact Or.inr (Or.inl rfl)|exact Or.inr (Or.inr rfl))
  (hd:(x==("__debug__":Str))=false:=by decide) (hcd:(x==("__classdict__":Str))=false:=by decide)
  (ha:∀v,assign (.Subscript (.Name x p) ie tpos) X.env v=(do
   let ov <-holding [v] (eval (.Name x p) X.env)
   let iv <-holding [v,ov] (eval ie X.env)
   standAt tpos
   holding [v,ov,iv] (setItem ov iv v)
   release [v,ov,iv] []):=by intro _;rfl) (hs:swapsWithSole [.Subscript (.Name x p) ie tpos] e pos.line X.env=pure false:=by rfl) (hw:swappedStores [.Subscript (.Name x p) ie tpos] e X.env=pure none:=by rfl)
  (h1:(assignEach [.Subscript (.Name x p) ie tpos] X.env).map (·.2)=[assign (.Subscript (.Name x p) ie tpos) X.env]:=by rfl):DS X c (.Assign [.Subscript (.Name x p) ie tpos] e pos) (putW i I A)where
 mono:=λE E' S l q=>by
  unfold putW at q ⊢;split at q
  .exact hA.mono S _ _ (λd z=>hI.mono S _ _ (λk y=>zqc (λm=>l.nx _) y) z) q
  .exact q.elim
 ps:=zbj (zhl hA.pe (zlc (zbw hN hv hd hcd) hI.pe zfa ha) hs hw h1) λD Z H ⟨S,G,r,q⟩=>by
  unfold putW at q;split at q
  .rename_i xs ek
   refine⟨S,G,r,hA.mono S _ _ (λd z v H1 G1 t1 e1=>?_) q⟩;obtain⟨a,vs,h1,h2,h3,h4,h5,h6⟩:=(r.step t1).slot i _ ek;refine⟨.ref a,h1,S,G1,r.step t1,hI.mono S _ _ (λk y w H2 G2 t2 e2=>?_) z⟩;unfold ixS at y;split at y
   .rename_i j
    split at y
    .rename_i m em
     refine⟨a,vs,j,m,rfl,e2,t2.fr a _ h5 h2,by rw[<-h6.length];exact em,?_⟩;exact y Z _ G2 (((r.step t1).step t2).write ek h1 (Reps.set (e1.mono t2.gg) m (h6.mono t2.gg))) (t1.gg.trans t2.gg)
    .exact y.elim
   .exact y.elim
  .exact q.elim
def intD(d:D)(Q:Int->Prop):Prop:=match d with|.int j=>Q j|_=>False
def znU(f:∀m,Q m->Q' m)(q:intD d Q):intD d Q':=by
 cases d<;>first|exact f _ q|exact q
end
def ItOk(c:Bk)(J:It)(xs:List D)(G:Hp):Prop:=∀(i:Nat)(H2 G2:Hp),Same G G2->Same G2 H2->BoxD c.β H2 G2->(∀a,H2 a=none->c.H0 a=none) ->
 (i=xs.length->J.stop i H2)/\∀d,xs[i]?=some d->J.go i H2/\∀x H3,J.yld i H2 x H3->∃G3,Stp c.β H2 G2 H3 G3/\Rep c G3 d x
def tDI(c:Bk)(I:WL):TI:=λZ H R=>∃ S G,Rel c S Z H G/\I S λxs=>∀J H' G',Stp c.β H G H' G'->ItOk c J xs G'->R J H'
structure DI(X:Cx)(c:Bk)(tg iter:Expr)(I:WL):Prop where
 mono:zfy I
 pi:PI X tg iter (tDI c I)
section
variable{X:Cx}{c:Bk}{tg e a b:Expr}{A B:WE}{pos p:Pos}
def zlL(h:PI X tg e wi)(k:∀ Z H R,wi' Z H R->wi Z H R):PI X tg e wi':=λpins s Z H R I q=>h pins s Z H R I (k Z H R q)
def zrq(hl:G l=some (.lst vs))(h:Reps c G xs vs):ItOk c (Itl c.K l) xs G:=by
 intro i H2 G2 s1 s2 bx h0;have q:SqL c.K H2 l vs:=SqL.of (s2 _ _ (s1 _ _ hl));refine⟨λe=>⟨vs,q,by rw[e,h.length];exact YAo _⟩,λd e=>?_⟩;obtain⟨v,e1,e2⟩:=h.get e;refine⟨⟨vs,v,q,e1⟩,λx H3 y=>?_⟩;obtain⟨rfl,y⟩:=y
 have:=y vs q
 rw[e1]at this;cases this;exact⟨G2,Stp.refl s2 bx,e2.mono s1⟩
def zs7(hl:SqT c.K G l vs)(h:Reps c G xs vs):ItOk c (Itt c.K l) xs G:=by
 intro i H2 G2 s1 s2 bx h0;have q:SqT c.K H2 l vs:=zbc (s1.trans s2) hl;refine⟨λe=>⟨vs,q,by rw[e,h.length];exact YAo _⟩,λd e=>?_⟩;obtain⟨v,e1,e2⟩:=h.get e;refine⟨⟨vs,v,q,e1⟩,λx H3 y=>?_⟩;obtain⟨rfl,y⟩:=y
 have:=y vs q
 rw[e1]at this;cases this;exact⟨G2,Stp.refl s2 bx,e2.mono s1⟩
def rngL(m:Int)(n:Nat):List D:=(List.range n).map λ(k:Nat)=>D.int (m+(k:Int))
def it_rng(m:Int)(n:Nat):ItOk c (Itr m n) (rngL m n) G:=by
 intro i H2 G2 s1 s2 bx h0;refine⟨λe=>by show n<=i;unfold rngL at e;simp at e;omega,λd e=>?_⟩;unfold rngL at e;rw[YAu]at e;have hi:i<n:=by
  by_cases h:i<n
  .exact h
  .rw[List.getElem?_eq_none (by simp;omega)]at e;cases e
 rw[List.getElem?_range hi]at e;cases e;exact⟨hi,λx H3 ⟨y1,y2⟩=>⟨G2,by rw[y1];exact Stp.refl s2 bx,y2⟩⟩
def zeU(A:WE):WL:=λS Q=>A S λd=>match d with|.int n=>(-(2^62)<=n/\n<2^62)/\Q (rngL 0 n.toNat)|_=>False
def zgU(hA:DE X c a A)(hg:Gl X "range":=by rfl)(hs:starEach [a] X.env=[(false,eval a X.env)]:=by rfl)(hm:X.mg "range"=none:=by decreasing_trivial):DI X c tg (.Call (.Name "range" p) [a] [] pos) (zeU A)where
 mono:=λS Q Q' k q=>hA.mono S _ _ (λd z=>by cases d<;>first|exact⟨z.1,k _ z.2⟩|exact z) q
 pi:=zlL (zm7 hg hm (zaC hA.pe zbf hs) hs) λZ H R ⟨S,G,r,q⟩=>⟨S,G,r,hA.mono S _ _ (λd z v H' G' t e=>by
  cases d with
  |int n=>exact⟨n,by cases e;rfl,z.1.1,z.1.2,z.2 _ H' G' t (it_rng 0 _)⟩
  |_=>exact z.elim) q⟩
def zipL:List D->List D->List D
 |x::xs,y::ys=>.tup [x,y]::zipL xs ys
 |_,_=>[]
theorem zlP:∀{xs ys:List D}{i:Nat}{d:D},(zipL xs ys)[i]?=some d->∃x y,xs[i]?=some x/\ys[i]?=some y/\d=.tup [x,y]
 |x::xs,y::ys,0,d,e=>by simp[zipL]at e;exact⟨x,y,rfl,rfl,e.symm⟩
 |x::xs,y::ys,i+1,d,e=>by simp[zipL]at e;simpa using zlP e
 |[],_,_,_,e=>by simp[zipL]at e
 |_::_,[],_,_,e=>by simp[zipL]at e
theorem zlu:∀(xs ys:List D),(zipL xs ys).length=min xs.length ys.length
 |[],_=>by simp[zipL]
 |_::_,[]=>by simp[zipL]
 |x::xs,y::ys=>by simp[zipL,zlu xs ys]
end
def ze9(t:Tg)(B:WS)(E:En):List D->Env->Prop
 |[],S=>E.nx S
 |x::xs,S=>gD t x S λS'=>B {nx:=ze9 t B E xs,ct:=ze9 t B E xs,bk:=E.nx,rt:=E.rt} S'
@[reducible] def forW(I:WL)(t:Tg)(B:WS):WS:=λE S=>I S λxs=>ze9 t B E xs S
theorem zgb(mB:zoH B)(l:En.Le E E'):∀(xs:List D)(S:Env),ze9 t B E xs S->ze9 t B E' xs S
 |[],S,q=>l.nx S q
 |x::xs,S,q=>zb8 t x S (λS' z=>mB {nx:=ze9 t B E xs,ct:=ze9 t B E xs,bk:=E.nx,rt:=E.rt} _ S' ⟨zgb mB l xs,l.rt,l.nx,zgb mB l xs⟩ z) q
section
variable{X:Cx}{c:Bk}{tg iter e:Expr}{body:List Stmt}{pos p:Pos}
def ztM(t:Tg)(hI:DI X c tg iter I)(hg:PG X tg (gOf c.K t))(hB:DSs X c body B)(hp:PassesOwn (model X.prog X.w) X.A X.env X.xe:=by exact PassesOwn.never)(hc:X.calm=true:=by rfl)(hs:∀x,foldedSetIterable iter X.env x=pure x:=by intro _;rfl) :
  DS X c (.For tg iter body [] pos) (forW I t B)where
 mono:=λE E' S l q=>hI.mono S _ _ (λxs z=>zgb hB.mono l xs S z) q
 ps:=zbj (zqY hp hc hI.pi hg hB.pss hs) λD Z H ⟨S,G,r,q⟩=>⟨S,G,r,hI.mono S _ _ (λxs z J H1 G1 t1 it=>by
  refine⟨λi m Z H=>m=xs.length-i/\i<=xs.length/\∃ S' G',Rel c S' Z H G'/\Same G1 G'/\ze9 t B (ends c G D) (xs.drop i) S',⟨xs.length,rfl,YBI _,S,G1,r.step t1,Same.refl _,z⟩,?_⟩;rintro i m Z' H' ⟨rfl,hi,S',G',r',s',q'⟩;have ok:=it i H' G' s' r'.gh r'.bx (λa z=>r'.new0 z);by_cases hlt:i<xs.length
  .refine .inr ?_;have ed:xs.drop i=xs[i]::xs.drop (i+1):=YBE hlt;rw[ed]at q';obtain⟨go,yl⟩:=ok.2 xs[i] (YAf hlt);refine⟨go,λZ H=>∃ S' G',Rel c S' Z H G'/\Same G1 G'/\ze9 t B (ends c G D) (xs.drop (i+1)) S',λZ2 H2 h=>⟨xs.length-(i+1),by omega,rfl,by omega,h⟩,λx H3 y=>?_⟩;obtain⟨G3,t3,e3⟩:=yl x H3 y;refine zfj t xs[i] x S' Z' (r'.step t3) e3 (zb8 t xs[i] S' (λS2 z2 Z2 r2=>?_) q');refine⟨S2,G3,r2,hB.mono {nx:=ze9 t B (ends c G D) (xs.drop (i+1)),ct:=ze9 t B (ends c G D) (xs.drop (i+1)),bk:=(ends c G D).nx,rt:=(ends c G D).rt} _ S2 ⟨λS3 z3 Z3 H4 G4 r4 s4=>⟨S3,G4,r4,(s'.trans t3.gg).trans s4,z3⟩,λd z=>z,λS3 z3 Z3 H4 G4 r4 s4=>z3 Z3 H4 G4 r4 (((t1.gg.trans s').trans t3.gg).trans s4),λS3 z3 Z3 H4 G4 r4 s4=>⟨S3,G4,r4,(s'.trans t3.gg).trans s4,z3⟩⟩ z2⟩
  .have e:i=xs.length:=by omega
   subst e;rw[YC2]at q';exact .inl ⟨ok.1 rfl,q' Z' H' G' r' (t1.gg.trans s')⟩) q⟩
def zaI(n:Nat)(ds:List D):Env:=ds.map (λd=>Sl.val d.old)++List.replicate (n-ds.length) .un
def fnW(n:Nat)(B:WS):Fn:=λds Q=>B {nx:=λ_=>Q .non,rt:=Q,bk:=λ_=>False,ct:=λ_=>False} (zaI n ds)
def zdh(gh:Same G H)(bx:BoxD β H G)(h:Reps ⟨K,β,λ_=>none,G,True⟩ G ds vs):Rel ⟨K,β,H,G,True⟩ (zaI N.length ds) (L2.zdq N vs) H G:=by
 have noOwn:∀(i:Nat) xs,(zaI N.length ds)[i]?≠some (.own xs):=λi xs e=>by
  unfold zaI at e;by_cases hi:i<ds.length
  .rw[YA6 (by simpa using hi),YAu,YAf hi]at e;cases e
  .rw[YBu (by simpa using hi),YBp]at e;split at e<;>cases e
 refine⟨by unfold zaI L2.zdq;simp[h.length],Stp.refl gh bx,λi s e=>?_,λi j a xs ys e1=>absurd e1 (noOwn i xs),trivial⟩;unfold zaI at e;by_cases hi:i<ds.length
 .rw[YA6 (by simpa using hi),YAu]at e;obtain⟨v,e1,e2⟩:=h.get (YAf hi);rw[YAf hi]at e;cases e;refine⟨v,?_,Rep.hand (c:=⟨K,β,λ_=>none,G,True⟩) (c':=⟨K,β,H,G,True⟩) rfl rfl e2⟩;unfold L2.zdq;rw[YA6 (by rw[YAb,<-h.length];exact hi),YAu,e1];rfl
 .rw[YBu (by simpa using hi),YBp]at e;split at e<;>cases e
  trivial
def zcr(F:Fun K x qual st f fd)
  (hB:∀{cdv:Value}{A:Around}{outer:List PySem.Env}{s:Shared}{H:Hp}{E:XK}{β:Addr}{G:Hp},N.Nodup->Room k (A.deeper (PyProof.Rows.envOfC qual (zao st) s.heap.objs.size f cdv)) ->
   DSs (cxOf CX0 P w K mg base N qual (zao st) f cdv A outer s H E).nox ⟨K,β,H,G,True⟩ (zbe st) B) (qj:FnScope N ps (zao st):=by exact⟨rfl,rfl,rfl,by decide +kernel,rfl,by decide +kernel,by decide +kernel⟩):FnOk P w K mg base CX0 (k+1) f fd ps (spD K ps.length (fnW N.length B)):=by
 refine F.ok qj (λvs H Q E ⟨β,G,ds,_,_,_,h,_⟩=>h) (λcdv A outer s H vs Q E hr ⟨β,G,ds,gh,bx,hv,hl,P',q,hP⟩=>?_);have h:=@hB cdv A outer s H E β G qj.nd hr;refine⟨_,h.pss,zaI N.length ds,G,zdh gh bx hv,h.mono {nx:=λ_=>P' .non,rt:=P',bk:=λ_=>False,ct:=λ_=>False} _ _ ⟨λS z Z H' G' r s'=>hP _ z .non H' G' r.stp rfl,λd z v H' G' t e=>hP _ z v H' G' t e,λS z=>z.elim,λS z=>z.elim⟩ q⟩
end
def subE(sub:List (Option Nat))(S:Env):Env:=sub.map λo=>match o with
 |some j=>(match S[j]? with|some (.val d)=>.val d|_=>.un)
 |none=>.un
def zoV(sub:List (Option Nat))(r:Rel c S Z H G):Rel c (subE sub S) (zd7 sub Z) H G:=by
 have noOwn:∀(i:Nat) xs,(subE sub S)[i]?≠some (.own xs):=λi xs e=>by
  unfold subE at e;rw[YAu]at e;cases h:sub[i]? with
  |none=>rw[h]at e;cases e
  |some o=>
   rw[h]at e;cases o with
   |none=>cases e
   |some j=>
    simp only[YC8,YCU]at e;split at e<;>cases e
 refine⟨by unfold subE zd7;simp,r.stp,λi s e=>?_,λi j a xs ys e1=>absurd e1 (noOwn i xs),r.kn⟩;unfold subE at e;rw[YAu]at e;cases h:sub[i]? with
 |none=>rw[h]at e;cases e
 |some o=>
  rw[h]at e;cases o with
  |none=>cases e;trivial
  |some j=>
   simp only[YC8,YCU]at e;split at e
   .rename_i d hd
    subst e;obtain⟨v,h1,h2⟩:=r.slot j _ hd;refine⟨v,?_,h2⟩;unfold zd7;rw[YAu,h];show some ((Z[j]?).join)=_;rw[h1];rfl
   .subst e;trivial
mutual
def okT(sub:List (Option Nat)):Tg->Bool
 |.nm i=>decide (sub[i]?=some none)
 |.tp _ ts=>okTs sub ts
def okTs(sub:List (Option Nat)):Tgs->Bool
 |.nil=>true
 |.cons t ts=>okT sub t&&okTs sub ts
end
mutual
theorem zmz(K:qk):∀t:Tg,zh6 (gOf K t)
 |.nm i=>by unfold gOf;exact zrD
 |.tp n ts=>by unfold gOf;exact ztC (zoh K ts)
theorem zoh(K:qk):∀t:Tgs,zhe (gsOf K t)
 |.nil=>by unfold gsOf;exact zrA
 |.cons t ts=>by unfold gsOf;exact zpd (zmz K t) (zoh K ts)
end
mutual
theorem znk(K:qk)(sub:List (Option Nat)):∀t:Tg,okT sub t=true->zj2 sub (gOf K t)
 |.nm i,h=>by unfold gOf;unfold okT at h;exact zrd (YAD h)
 |.tp n ts,h=>by unfold gOf;unfold okT at h;exact zte (zqX K sub ts h)
theorem zqX(K:qk)(sub:List (Option Nat)):∀t:Tgs,okTs sub t=true->zjq sub (gsOf K t)
 |.nil,_=>by unfold gsOf;exact zrh
 |.cons t ts,h=>by
  unfold gsOf;unfold okTs at h;have h':=(YAA _ _▸h:okT sub t=true/\okTs sub ts=true);exact zpu (znk K sub t h'.1) (zmz K t) (zqX K sub ts h'.2) (zoh K ts)
end
def zcP(t:Tg)(C:WT)(E:WE)(Sc:Env)(Q:List D->Prop):List D->List D->Prop
 |[],acc=>Q acc
 |x::xs,acc=>gD t x Sc λS2=>C S2 λb=>if b=true then E S2 λd=>zcP t C E Sc Q xs (acc++[d])else zcP t C E Sc Q xs acc
theorem zfk(mC:zg8 C)(mE:zbO E)(k:∀xs,Q xs->Q' xs):∀xs acc,zcP t C E Sc Q xs acc->zcP t C E Sc Q' xs acc
 |[],acc,q=>k _ q
 |x::xs,acc,q=>zb8 t x Sc (λS2 z=>mC S2 _ _ (λb z=>by
  cases b
  .exact zfk mC mE k xs acc z
  .exact mE S2 _ _ (λd z=>zfk mC mE k xs _ z) z) z) q
@[reducible] def zaF(sub:List (Option Nat))(I:WL)(t:Tg)(C:WT)(E:WE):WL:=λS Q=>I S λxs=>xs.length<=100000/\zcP t C E (subE sub S) Q xs []
def zen(mI:zfy I)(mC:zg8 C)(mE:zbO E):zfy (zaF sub I t C E):=λS Q Q' k q=>mI S _ _ (λxs z=>⟨z.1,zfk mC mE k xs [] z.2⟩) q
def Stp.wr(s:Stp β H G H' G')(h0:H l=none)(hg:G' l=none)(hb:l≠β):Stp β H G (upd H' l o) G':=
 ⟨s.gg,λa u e=>by rw[upd_ne (λz=>by rw[z,hg]at e;cases e)];exact s.gh a u e,λa u n e=>by rw[upd_ne (λz=>by rw[z,h0]at e;cases e)];exact s.fr a u n e,s.nw,
 ⟨by obtain⟨cc,p,r,d,ns,h,q⟩:=s.bx.ex;exact⟨cc,p,r,d,ns,by rw[upd_ne (YAK hb)];exact h,q⟩,s.bx.still⟩,s.b0,λcc p r d h=>by
  obtain⟨p',r',d',e⟩:=s.bc cc p r d h;exact⟨p',r',d',by rw[upd_ne (YAK hb)];exact e⟩⟩
def Stp.still_none(s:Stp β H G H' G')(h:H l=some o)(hg:G l=none)(hs:¬ ze1 o:=by exact id):G' l=none:=by
 cases e:G' l with
 |none=>rfl
 |some u=>
  rcases s.nw l (by rw[e];simp)with z|z|⟨o',z,st⟩
  .exact absurd hg z
  .rw[h]at z;cases z
  .rw[h]at z;cases z;exact absurd st hs
def zeT(mI:zfy I)(mC:zg8 C)(mE:zbO E)(Z:St)(H:Hp)(Q:VK)(h:tDf c (zaF sub I t C E) Z H Q) :
  zl2 sub (tDI c I) (gOf c.K t) (tDt c C) (tD c E) Z H Q:=by
 obtain⟨S,G,r,q⟩:=h;refine⟨S,G,r,mI S _ _ (λxs ⟨hz,z⟩ J H1 G1 t1 it l hl=>?_) q⟩;have hb:l≠c.β:=(r.step t1).neβ hl;have hg1:G1 l=none:=zap t1.gh hl;refine⟨λi m ys H2=>m=xs.length-i/\i<=xs.length/\ys.length<=i/\H2 l=some (.lst ys)/\∃G2 acc,Stp c.β H1 G1 H2 G2/\G2 l=none/\Reps c G2 acc ys /\
  zcP t C E (subE sub S) (λds=>∀l vs H' G',Stp c.β H G H' G'->H' l=some (.lst vs)->G' l=none->H l=none->Reps c G' ds vs->Q (.ref l) H') (xs.drop i) acc,
  ⟨xs.length,rfl,YBI _,YAo _,zah,G1,[],Stp.own t1.gh t1.bx hl,hg1,rfl,z⟩,?_⟩
 rintro i m ys H2 ⟨rfl,hi,hyl,h2,G2,acc,t2,hg2,hv,q2⟩;refine⟨h2,?_⟩;have r2:=(r.step t1).step t2;have ok:=it i H2 G2 t2.gg t2.gh t2.bx (λa z=>r2.new0 z);by_cases hlt:i<xs.length
 .refine .inr ?_;rw[YBE hlt]at q2;obtain⟨go,yl⟩:=ok.2 xs[i] (YAf hlt);refine⟨go,λys' H3=>ys'.length<=i+1/\H3 l=some (.lst ys')/\∃G3 acc',Stp c.β H1 G1 H3 G3/\G3 l=none/\Reps c G3 acc' ys'/\zcP t C E (subE sub S) (λds=>∀l vs H' G',Stp c.β H G H' G'->H' l=some (.lst vs)->G' l=none->H l=none->Reps c G' ds vs->Q (.ref l) H') (xs.drop (i+1)) acc',
   λys' H3 ⟨a1,a2,a3⟩=>⟨xs.length-(i+1),by omega,rfl,by omega,a1,a2,a3⟩,λx H3 y=>?_⟩
  obtain⟨G3,t3,e3⟩:=yl x H3 y;have h3:H3 l=some (.lst ys):=t3.fr l _ hb h2;have hg3:G3 l=none:=t3.still_none h2 hg2;have t13:=t2.trans t3;refine zfj t xs[i] x (subE sub S) (zd7 sub Z) (zoV sub ((r.step t1).step t13)) e3 (zb8 t xs[i] _ (λS2 z2 Z2 rr=>?_) q2);refine⟨S2,G3,rr,mC S2 _ _ (λb z3 H4 G4 t4=>?_) z2⟩;have h4:H4 l=some (.lst ys):=t4.fr l _ hb h3;have hg4:G4 l=none:=t4.still_none h3 hg3;have t14:=t13.trans t4;cases b
  .exact⟨YCV hyl,h4,G4,acc,t14,hg4,(hv.mono t3.gg).mono t4.gg,z3⟩
  .refine⟨S2,G4,rr.step t4,mE S2 _ _ (λd z4 y H5 G5 t5 e5=>?_) z3⟩;have h5:H5 l=some (.lst ys):=t5.fr l _ hb h4;have hg5:G5 l=none:=t5.still_none h4 hg4;refine⟨h5,?_,by rw[YAk];exact Nat.add_le_add_right hyl 1,zah,G5,acc++[d],(t14.trans t5).wr hl hg5 hb,hg5,(((hv.mono t3.gg).mono t4.gg).mono t5.gg).append (.one e5),z4⟩
   have:=small5 (YAo 100000)
   omega
 .have e:i=xs.length:=by omega
  subst e;rw[YC2]at q2;exact .inl ⟨ok.1 rfl,q2 l ys H2 G2 (t1.trans t2) h2 hg2 (t1.free hl) hv⟩
structure DIf(X:Cx)(c:Bk)(ifs:List Expr)(C:WT):Prop where
 mono:zg8 C
 pf:PIfs X ifs (tDt c C)
@[reducible] def noIf:WT:=λ_ Q=>Q true
section
variable{X:Cx}{c:Bk}{tg iter elt e:Expr}{ifs:List Expr}{scope:Scope}{pos p spos:Pos}{Nc:List Str}{sub:List (Option Nat)}{I:WL}{C:WT}{E:WE}
def zcs:DIf X c [] noIf:=⟨λS Q Q' k q=>k _ q,λpins s Z H Q I ⟨S,G,r,q⟩=>pif0 pins s Z H Q I (q H G r.refl)⟩
def zec(h:DT X c e C):DIf X c [e] C:=⟨h.mono,pif1 h.pt⟩
def zbk(t:Tg)(hI:DI X c tg iter I)(hg:∀{cl L s0 H0 ex},PG (zaL X Nc scope cl L s0 H0 ex) tg (gOf c.K t))(hC:∀{cl L s0 H0 ex},DIf (zaL X Nc scope cl L s0 H0 ex) c ifs C)(hE:∀{cl L s0 H0 ex},DE (zaL X Nc scope cl L s0 H0 ex) c elt E)
  (hS:zhr X.N X.env.scope scope Nc sub=true:=by kernel_rfl) (hok:okT sub t=true:=by decide +kernel) (hc:X.calm=true:=by rfl) (hs:∀x,foldedSetIterable iter X.env x=pure x:=by intro _;rfl) :
  DF X c (.ListComp elt [⟨tg,iter,ifs,0⟩] scope pos) (zaF sub I t C E):=
 have mC:=(@hC [] 0 X.s₀ (λ_=>none) []).mono;have mE:=(@hE [] 0 X.s₀ (λ_=>none) []).mono
 ⟨zen hI.mono mC mE,zas (zpG hc (CompScope.of hS) hI.pi (λcl L s0 H0 ex=>@hg cl L s0 H0 ex) (znk c.K sub t hok) (zmz c.K t) (λcl L s0 H0 ex=>(@hC cl L s0 H0 ex).pf) (λcl L s0 H0 ex=>(@hE cl L s0 H0 ex).pe) hs) (zeT hI.mono mC mE)⟩
def zne(i:Nat)(t:Tg)(hI:DI X c tg iter I)(hg:∀{cl L s0 H0 ex},PG (zaL X Nc scope cl L s0 H0 ex) tg (gOf c.K t))(hC:∀{cl L s0 H0 ex},DIf (zaL X Nc scope cl L s0 H0 ex) c ifs C)(hE:∀{cl L s0 H0 ex},DE (zaL X Nc scope cl L s0 H0 ex) c elt E)(hi:X.N[i]?=some x:=by rfl)(hy:X.env.scope.names.lookup x=some .local:=by rfl)(hS:zhr X.N X.env.scope scope Nc sub=true:=by kernel_rfl)(hok:okT sub t=true:=by decide +kernel)(hc:X.calm=true:=by rfl)(hsw:swapsWith (.ListComp elt [⟨tg,iter,ifs,0⟩] scope pos) (some (.Name x p)) spos.line X.env=pure true:=by rfl)(hs:∀x,foldedSetIterable iter X.env x=pure x:=by intro _;rfl)(hN:X.N.Nodup:=by decreasing_trivial) :
  DS X c (.Assign [.Name x p] (.ListComp elt [⟨tg,iter,ifs,0⟩] scope pos) spos) (asgW (.nm i) (valW (zaF sub I t C E))):=by
 have mC:=(@hC [] 0 X.s₀ (λ_=>none) []).mono;have mE:=(@hE [] 0 X.s₀ (λ_=>none) []).mono;have mL:=zen (sub:=sub) (t:=t) hI.mono mC mE;have mV:zbO (valW (zaF sub I t C E)):=λS Q Q' k q=>mL S _ _ (λxs z=>k _ z) q;refine⟨ziE mV,zbj (zos hc hN hi hy (CompScope.of hS) hI.pi (λcl L s0 H0 ex=>@hg cl L s0 H0 ex) (znk c.K sub t hok) (zmz c.K t) (λcl L s0 H0 ex=>(@hC cl L s0 H0 ex).pf) (λcl L s0 H0 ex=>(@hE cl L s0 H0 ex).pe) hsw hs) λD Z H ⟨S,G,r,q⟩=>?_⟩;refine zeT hI.mono mC mE Z H _ ⟨S,G,r,mL S _ _ (λxs z l vs H' G' t hl hg h0 hv=>?_) q⟩;have hb:=r.neβ h0;exact z (Z.set i (some (.ref l))) H' (upd G' l (.lst vs)) ((r.step (t.still hl h0 hb hg)).put ⟨l,vs,rfl,zah,λ_=>r.new0 h0,hv.mono (zb0 hg)⟩) (t.gg.trans (zb0 hg))
def zqs(i:Nat)(t:Tg)(hI:DI X c tg iter I)(hg:∀{cl L s0 H0 ex},PG (zaL X Nc scope cl L s0 H0 ex) tg (gOf c.K t))(hC:∀{cl L s0 H0 ex},DIf (zaL X Nc scope cl L s0 H0 ex) c ifs C)(hE:∀{cl L s0 H0 ex},DE (zaL X Nc scope cl L s0 H0 ex) c elt E)(hi:X.N[i]?=some x:=by rfl)(hy:X.env.scope.names.lookup x=some .local:=by rfl)(hS:zhr X.N X.env.scope scope Nc sub=true:=by kernel_rfl)(hok:okT sub t=true:=by decide +kernel)(hc:X.calm=true:=by rfl)(hsw:swapsWith (.ListComp elt [⟨tg,iter,ifs,0⟩] scope pos) (some (.Name x p)) spos.line X.env=pure true:=by rfl)(hs:∀x,foldedSetIterable iter X.env x=pure x:=by intro _;rfl)(hN:X.N.Nodup:=by decreasing_trivial) :
  DS X c (.Assign [.Name x p] (.ListComp elt [⟨tg,iter,ifs,0⟩] scope pos) spos) (ownW i (zaF sub I t C E)):=by
 have mC:=(@hC [] 0 X.s₀ (λ_=>none) []).mono;have mE:=(@hE [] 0 X.s₀ (λ_=>none) []).mono;have mL:=zen (sub:=sub) (t:=t) hI.mono mC mE;refine⟨zlU mL,zbj (zos hc hN hi hy (CompScope.of hS) hI.pi (λcl L s0 H0 ex=>@hg cl L s0 H0 ex) (znk c.K sub t hok) (zmz c.K t) (λcl L s0 H0 ex=>(@hC cl L s0 H0 ex).pf) (λcl L s0 H0 ex=>(@hE cl L s0 H0 ex).pe) hsw hs) λD Z H h=>?_⟩;exact zeT hI.mono mC mE Z H _ (zlG mL D Z H h)
end
structure Bt(mg:Str->Option Value):Prop where
 list:mg "list"=none
 len:mg "len"=none
 range:mg "range"=none
 all:mg "all"=none
 any:mg "any"=none
 isinstance:mg "isinstance"=none
 tuple:mg "tuple"=none
 bool:mg "bool"=none
 int:mg "int"=none
 str:mg "str"=none
 sorted:mg "sorted"=none
 set:mg "set"=none
 zip:mg "zip"=none
 enumerate:mg "enumerate"=none
 min:mg "min"=none
 max:mg "max"=none
def zaf:Fn
 |[.box,.int m],Q=>(0<m/\m<2^64)/\∀x:Int,0<=x->x<m->Q (.int x)
 |_,_=>False
end Fd
namespace Fen
open PySem L2
def Ext(b:Addr)(H H':Hp):Prop:=∀a o,a≠b->H a=some o->H' a=some o
def Ext.refl(b:Addr)(H:Hp):Ext b H H:=λ_ _ _ h=>h
def Ext.trans(x:Ext b H H1)(y:Ext b H1 H2):Ext b H H2:=λa o n h=>y a o n (x a o n h)
theorem Ext.upd:Ext b H (upd H b o):=λa _ n h=>by rw[upd_ne n];exact h
def boxV(c:Addr)(p r d:Int):HO:=.lst [.ref c,.int p,.int r,.int d]
structure Box(H:Hp)(b c:Addr)(ns:List Int):Prop where
 ex:∃p r d:Int,H b=some (boxV c p r d)/\0<=p/\0<=r/\0<=d/\d<2147483629
 cells:H c=some (.lst (ns.map V.int))
 few:ns.length<=63
def Box.ne(x:Box H b c ns):b≠c:=λz=>by
 obtain⟨p,r,d,e,_⟩:=x.ex;have q:=x.cells;rw[<-z,e]at q;have q':([V.ref c,.int p,.int r,.int d]:List V)=ns.map V.int:=by injection q with q;injection q
 cases ns with
 |nil=>cases q'
 |cons n r=>simp at q'
def Box.put(x:Box H b c ns)(hp:0<=p)(hr:0<=r)(h0:0<=d)(h1:d<2147483629):Box (upd H b (boxV c p r d)) b c ns:=
 ⟨⟨p,r,d,zah,hp,hr,h0,h1⟩,by rw[upd_ne x.ne.symm];exact x.cells,x.few⟩
def zsp(K:qk):Sp:=λvs H Q _=>∃(a:Addr)(ns:List Int),vs=[.ref a]/\SqL K H a (ns.map V.int)/\ns.length<=63/\∀b c H',H b=none->Box H' b c ns->Same H H'->Q (.ref b) H'
def ztF:Sp:=λvs H Q _=>∃(b c:Addr)(ns:List Int)(m:Int),vs=[.ref b,.int m]/\Box H b c ns/\0<m/\m<2^64/\∀(x:Int) H',0<=x->x<m->Box H' b c ns->Ext b H H'->Q (.int x) H'
structure Txt(K:qk)(mg:Str->Option Value):Prop where
 list:mg "list"=none
 len:mg "len"=none
 range:mg "range"=none
def zv1{ns:List Int}(h:ns.length<=63):cutV (ns.map V.int) none (some 63)=ns.map V.int:=by
 unfold cutV;have e:HT.sIx (ns.map V.int).length (ns.map V.int).length (some 63)=ns.length:=by
  rw[show(63:Int)=((63:Nat):Int)from rfl,HT.sIx_nat,YAb];omega
 rw[e,HT.sIx_none,List.drop_zero,Nat.sub_zero];exact YCc (by simp)
end Fen
namespace L2
open PySem PySem.Spec PyProof.Rows
section
variable{X:Cx}
theorem ziU:∀l:List (Str×Tok),Vals ((l.map (·.1)).map V.str) (strValues l)
 |[]=>.nil
 |p::l=>.cons ⟨p.2,rfl⟩ (ziU l)
theorem ziR:∀{ts:List Str}{us:List Value},Vals (ts.map V.str) us->∃l:List (Str×Tok),l.map (·.1)=ts/\us=strValues l
 |[],_,.nil=>⟨[],rfl,rfl⟩
 |t::ts,_,.cons ⟨k,e⟩ r=>by
  subst e;obtain⟨l,h1,h2⟩:=ziR r;exact⟨(t,k)::l,by simp[h1],by subst h2;rfl⟩
def zqH:V->List V->Hp->VK->Prop:=λx xs H Q=>∃a b,x=.str a/\xs=[.str b]/\b.length≠0/\a.length<=100000/\∀p,H p=none->Q (.ref p) (upd H p (.lst ((Txt.split a b).map V.str)))
def zqb:MtR X "str.split" zqH:=by
 intro pins s Z H x xs v us Q I rx rv h;obtain⟨a,b,rfl,rfl,hb,ha,q⟩:=h;obtain⟨t,rfl⟩:=rx;obtain⟨u,rfl,t2,rfl⟩:=zeC rv;have hz:(Txt.split a b).length<=sizeLine:=by
  have:=split_le a b
  rw[YAX];omega
 have ha':a.length<=sizeLine:=by rw[YAX];omega
 have hy:(b.length==0)=false:=by simp[hb]
 have fin:∀(l:List (Str×Tok))(k:Nat),l.map (·.1)=Txt.split a b->EP X pins Z Q (.ref s.heap.objs.size) {s with heap:=s.heap.push {cls:=.type "list",data:=.seq (strValues l).toArray},toks:=k}:=λl k e=>
  ⟨.ref _,_,I.lnew (its:=strValues l) (t':=k) (ziU l) (by rw[e,YAb];exact hz),rfl,by rw[e];exact q _ I.fresh⟩
 cases h1:(decide (a.length<b.length) || decide (Builtin.Str.strKind a<Builtin.Str.strKind b))
 .cases hf:(Builtin.Str.occurrences a b 0 a.length (a.length+1)).isEmpty
  .have e:Txt.split a b=Builtin.Str.partsBetween a (Builtin.Str.occurrences a b 0 a.length (a.length+1)) b.length:=(if_neg (YCF h1)).trans (if_neg (YCF hf));refine YCA YC3 (YCR _ _ _) YCW (YCJ _ _) (meets_str_split_sep a b t t2 h1 hy hf ha' (by rw[<-e];exact hz)) ?_;rw[strsFrom_eq];exact fin _ _ ((numbered_texts _ _).trans e.symm)
  .exact YCA YC3 (YCR _ _ _) YCW (YCJ _ _) (meets_str_split_not_found a b t t2 h1 hy hf)
    (fin [(a,t)] s.toks ((if_neg (YCF h1)).trans (if_pos hf)).symm)
 .exact YCA YC3 (YCR _ _ _) YCW (YCJ _ _) (meets_str_split_cannot_occur a b t t2 h1)
   (fin [(a,t)] s.toks (if_pos h1).symm)
def ztU(K:qk):V->List V->Hp->VK->Prop:=λx xs H Q=>∃a p ts,x=.str a/\xs=[.ref p]/\SqL K H p (ts.map V.str)/\(∀t∈ts,t.length<=2000)/\ts.length<=2000/\a.length<=1000/\Q (.str (Str.join a ts)) H
def zrE:MtR X "str.join" (ztU X.K):=by
 intro pins s Z H x xs v us Q I rx rv h;obtain⟨a,p,ts,rfl,rfl,hl,h1,h2,h3,q⟩:=h;obtain⟨t,rfl⟩:=rx;obtain⟨u,rfl,ru⟩:=zeC rv;cases ru;obtain⟨its,rv,pl,_⟩:=I.list hl;obtain⟨l,e1,e2⟩:=ziR rv;subst e2;refine SC.join pl.isList e1 ?_ λt' k=>?_
 .have:=YCN h2 (YAo 2000)
  have:=YCN h2 h3
  unfold JoinOk;rw[StrLaws.joinFits (B:=2000) h1 (by omega)];rfl
 .rw[show Txt.join a ts=Str.join a ts from StrLaws.glued_eq_join a ts];exact⟨.str _,H,I.tok k,⟨t',rfl⟩,q⟩
def zjl:CallR X (.type "int") (λxs H Q=>∃x n,xs=[.str x]/\x.length<=640/\PySem.intText? x=some n/\Q (.int n) H):=by
 intro pins s Z H xs us Q I r h;obtain⟨x,n,rfl,hz,hn,q⟩:=h;obtain⟨u,rfl,t,rfl⟩:=zeC r;exact PySem.W.KIN.call_text hn hz ⟨.int n,H,I.tok _,⟨_,rfl⟩,q⟩
def Its(x:Str):It:=⟨λi _=>i<x.length,λi H v H'=>H'=H/\∃c,x.cps[i]?=some c/\v=.str ⟨#[c]⟩,λi _=>x.length<=i⟩
def zpZ{P:Program}{w:World}{K:qk}{tg:Expr}(x:Str)(t:Tok)(ty:String)(hty:ty="str_ascii_iterator" \/ ty="str_iterator")(it:Addr):Turn P w K tg (Its x) [it] it (λi h=>h.IsStrIter it ty x t i)where
 mem:=by simp
 obj:=λi h st b hb=>by
  have e:b=it:=by simpa using hb
  subst e;obtain⟨o,e,c,d⟩:=st;exact⟨o,e,λv z=>by rw[d]at z;cases z⟩
 keep:=λi h h' ⟨o,e,r⟩ k=>⟨o,k it (by simp) o e,r⟩
 item:=by
  intro X hP hw hK hc i pins s Z H E I hf st hg;subst hP hw hK;have hg:i<x.length:=hg;obtain⟨f0,f1,f2,f3,f4,f5⟩:=hf it (by simp);have hx:x.cps[i]?=some x.cps[i]:=YBh hg;have fin:∀h',h'.IsStrIter it ty x t (i+1)->Heap.SameBut it s.heap h'->∃u,some (Value.str ⟨#[x.cps[i]]⟩ s.toks)=some u /\
   wpAny (model X.prog X.w) X.A (letOwnedTupleGo tg (.ref it) u) (λ_ s2=>∃x' H',Inv X pins Z H' s2/\RelV x' u/\(Its x).yld i H x' H'/\s2.heap.IsStrIter it ty x t (i+1)/\∀b∈[it],H' b=none) E {s with heap:=h',toks:=s.toks+1}:=λh' st' sb=>by
   have I1:Inv X pins Z H {s with heap:=h',toks:=s.toks+1}:=I.turned (t':=s.toks+1) (λb o hb e=>(sb.2 b hb).trans e) f0 f1 f3 f4 f5;obtain⟨o,e,c,d⟩:=id st';exact⟨_,rfl,zma (s:={s with heap:=h',toks:=s.toks+1}) e c d (by rcases hty with rfl|rfl<;>decide) ⟨.str _,H,I1,⟨_,rfl⟩,⟨rfl,_,hx,rfl⟩,st',λb hb=>(hf b hb).1⟩⟩
  rcases hty with rfl|rfl
  .exact wpAny_pyNext_ascii_item st hx fin
  .exact wpAny_pyNext_wide_item st hx fin
 done:=by
  intro X hP hw hK hc i pins s Z H E I hf st hg;subst hP hw hK;have hg:x.length<=i:=hg;obtain⟨f0,f1,f2,f3,f4,f5⟩:=hf it (by simp);have hx:x.cps[i]?=none:=Array.getElem?_eq_none hg;rcases hty with rfl|rfl
  .exact wpAny_pyNext_ascii_end (I.ok.hd hc) st hx λh' eb=>⟨rfl,I.turned (t':=s.toks) (λb o hb e=>eb b o hb e) f0 f1 f3 f4 f5⟩
  .exact wpAny_pyNext_wide_end (I.ok.hd hc) st hx λh' eb=>⟨rfl,I.turned (t':=s.toks) (λb o hb e=>eb b o hb e) f0 f1 f3 f4 f5⟩
 self:=λ_ _ _ _ _ st h=>by
  rcases hty with rfl|rfl
  .exact wpAny_pyIter_striter_ascii st h
  .exact wpAny_pyIter_striter_wide st h
def cutS(z:Str)(lo hi:Option Int):Str:=⟨((z.cps.toList.drop (HT.sIx z.length 0 lo)).take (HT.sIx z.length z.length hi-HT.sIx z.length 0 lo)).toArray⟩
def zk8(n:Nat):∀(o:Option Int)(d:Nat),d<=n->(∀v,o=some v->v<=n\/0<=v)->HT.sIx n d o<=n
 |none,_,h,_=>h
 |some v,_,_,_=>by
  show(if v<0 then(v+(n:Int)).toNat else min v.toNat n)<=n;split<;>omega
def znM(n d:Nat)(o:Option Int)(hd:d<=n):(match o with|none=>(d:Int)|some i=>max 0 (min (if i<0 then i+(n:Int)else i) (n:Int)))=(HT.sIx n d o:Int):=by
 cases o with
 |none=>rfl
 |some v=>
  show max 0 (min (if v<0 then v+(n:Int)else v) (n:Int))=((if v<0 then(v+(n:Int)).toNat else min v.toNat n:Nat):Int);split<;>omega
def znH(n:Nat)(lo hi:Option Int):Builtin.Str.strSliceIndices lo hi 1 n=sliceRange (HT.sIx n 0 lo:Int) (HT.sIx n n hi:Int) 1:=by
 have a:=znM n 0 lo (YBI _);have b:=znM n n hi (YAo _);unfold Builtin.Str.strSliceIndices;simp only[show(1:Int)>0 from by decide,YCL];rw[<-a,<-b];rfl
def zmU(z:Str)(lo hi:Option Int):Txt.slice z lo hi=cutS z lo hi:=by
 have ha:HT.sIx z.length 0 lo<=z.length:=zk8 _ _ _ (YBI _) λv _=>by omega
 have hb:HT.sIx z.length z.length hi<=z.length:=zk8 _ _ _ (YAo _) λv _=>by omega
 unfold cutS;by_cases h:HT.sIx z.length 0 lo<=HT.sIx z.length z.length hi
 .have q:=StrLaws.sliceText_nat z h hb;rw[<-q];have e:Builtin.Str.strSliceIndices lo hi 1 z.length=Builtin.Str.strSliceIndices (some (HT.sIx z.length 0 lo:Int)) (some (HT.sIx z.length z.length hi:Int)) 1 z.length:=by
   rw[znH,znH,HT.sIx_nat,HT.sIx_nat,YCG ha,YCG hb]
  show StrLaws.sliceText z lo hi=_;unfold StrLaws.sliceText;rw[e]
 .have e:Builtin.Str.strSliceIndices lo hi 1 z.length=[]:=by
   rw[znH];unfold sliceRange;simp only[show(1:Int)>0 from by decide,YCL];rw[if_neg (by omega)];rfl
  have t:(HT.sIx z.length z.length hi-HT.sIx z.length 0 lo)=0:=by omega
  rw[t,List.take_zero];show StrLaws.sliceText z lo hi=_;unfold StrLaws.sliceText;rw[e];have nz:z.length≠0:=by omega
  simp[YAK nz]
def rSlS:V->Option Int->Option Int->Hp->VK->Prop:=λx lo hi H Q=>∃z,x=.str z/\z.length<=100000/\Q (.str (cutS z lo hi)) H
def zoM(h:IsPart v o):∃l:Option (Int×Tok),v=partValue l/\l.map (·.1)=o:=by
 cases h with
 |none=>exact⟨none,rfl,rfl⟩
 |int i t=>exact⟨some (i,t),rfl,rfl⟩
def zuY:SlR X rSlS:=by
 intro pins s Z H x v vl vu lo hi sl Q I rx hs pl pu h;obtain⟨z,rfl,hz,q⟩:=h;obtain⟨t,rfl⟩:=rx;obtain⟨l,rfl,rfl⟩:=zoM pl;obtain⟨u,rfl,rfl⟩:=zoM pu;refine⟨"str",_,F.slot_str_getitem.lookup,YCR _ _ _,wpAny_getItem_str_slice (l:=l) (u:=u) (st:=none) hs rfl (post_val_or_str ⟨?_,λt' k=>?_⟩)⟩
 .exact YAx (Txt.slice_le z _ _) (by rw[YAX];omega)
 .exact⟨.str _,H,I.tok k,⟨t',rfl⟩,by rw[<-zmU]at q;exact q⟩
end
noncomputable def Itx(tp tq:Bool)(K:qk)(a b:Addr):It:=
 ⟨λi H=>∃xs ys x y,SQ tp K H a xs/\SQ tq K H b ys/\xs[i]?=some x/\ys[i]?=some y,
 λi H v H'=>∃t x y,H t=none/\v=.ref t/\H'=upd H t (.tup [x,y])/\(∀xs,SQ tp K H a xs->xs[i]?=some x)/\∀ys,SQ tq K H b ys->ys[i]?=some y,
 λi H=>∃xs ys,SQ tp K H a xs/\SQ tq K H b ys/\i=min xs.length ys.length⟩
def ZTx(tp tq:Bool)(z c d i j a b:Addr)(k:Nat)(h:Heap):Prop:=IsZip h z c d .none/\IsPair h c (.ref i) (.ref j)/\(∃u v,IsPair h d u v)/\SIt tp h i a k/\SIt tq h j b k
def znl{P:Program}{w:World}{K:qk}{es:List Expr}{x1:_}{pos:Pos}{tp tq:Bool}{z c d i j a b:Addr}(qf:ZAp z c d i j [i,a] [j,b])(na:a≠i)(nb:b≠j) :
  Turn P w K (.Tuple es x1 pos) (Itx tp tq K a b) [z,c,d,i,j] z (ZTx tp tq z c d i j a b)where
 mem:=by simp
 obj:=λk h st e he=>by
  obtain⟨h1,h2,⟨u,v,h3⟩,h4,h5⟩:=st;simp only[YAv,YAB,YB8]at he;rcases he with rfl|rfl|rfl|rfl|rfl
  .exact⟨_,h1,λv q=>by cases q⟩
  .exact⟨_,h2,λv q=>by cases q⟩
  .exact⟨_,h3,λv q=>by cases q⟩
  .exact h4.obj
  .exact h5.obj
 keep:=λk h h' st q=>by
  obtain⟨h1,h2,⟨u,v,h3⟩,h4,h5⟩:=st;exact⟨q z (by simp) _ h1,q c (by simp) _ h2,⟨u,v,q d (by simp) _ h3⟩,h4.keep λo e=>q i (by simp) o e,h5.keep λo e=>q j (by simp) o e⟩
 item:=by
  intro X hP hw hK hc k pins s Z H E I hf st hg;subst hP hw hK;obtain⟨xs,ys,x,y,qa,qb,ex,ey⟩:=hg;obtain⟨ia,ra,ca,za⟩:=I.sq qa;obtain⟨ib,rb,cb,zb⟩:=I.sq qb;obtain⟨h1,h2,⟨u,v,h3⟩,h4,h5⟩:=st;have hh:X.A.in1.handled=none:=I.ok.hd hc;obtain⟨ux,eux,rux⟩:=ra.get ex;obtain⟨uy,euy,ruy⟩:=rb.get ey;have k1:k<ia.toArray.size:=by simpa using(YAe.mp eux).1
  have k2:k<ib.toArray.size:=by simpa using(YAe.mp euy).1
  refine zge qf (zjj tp hh i a na ia.toArray) (zjj tq hh j b nb ib.toArray) h1 h2 h3 ⟨h4,ca⟩ ⟨h5,cb⟩ k1 k2 λvx vy h' tk t px py ht g1 g2 g3 g4 g5 kk=>⟨_,rfl,?_⟩;have ev:vx=ux:=by rw[List.getElem?_toArray,eux]at px;exact(Option.some.inj px).symm
  have ew:vy=uy:=by rw[List.getElem?_toArray,euy]at py;exact(Option.some.inj py).symm
  subst ev ew;refine wpAny_letOwnedTupleGo_zip g1 λh'' z' sb=>?_;have tz:t≠z:=λq=>by rw[q]at ht;exact absurd (YAh h1) (by rw[ht];exact YBb _)
  have hn:H t=none:=I.hok.fresh (by rw[ht];exact YAo _);have kp:∀b u,b∉[z,c,d,i,j]->s.heap.get? b=some u->h''.get? b=some u:=λb u hb e=>by
   simp only[YAv,YAB,YB8,not_or]at hb;exact sb.extBut b u hb.1 (kk b u hb.1 hb.2.2.1 hb.2.2.2.1 hb.2.2.2.2 e)
  have I1:Inv X pins Z (upd H t (.tup [x,y])) {s with heap:=h'',toks:=tk}:=I.turnedLaid (ch:=[z,c,d,i,j]) kp hf (by rw[ht];exact YAo _)
   ⟨by show 2<=sizeLine;decide,[vx,vy],.cons rux (.cons ruy .nil),⟨_,sb.extBut _ _ tz g5,rfl,_,rfl⟩⟩
  refine⟨.ref t,_,I1,rfl,⟨t,x,y,hn,rfl,rfl,λxs' q=>by rw[I.sq_inj q qa];exact ex,λys' q=>by rw[I.sq_inj q qb];exact ey⟩,?_,λe he=>?_⟩
  .exact⟨z',sb.extBut _ _ qf.az (kk _ _ qf.az qf.ab qf.ai qf.aj h2),⟨_,_,sb.extBut _ _ qf.bz g2⟩,g3.1.keep λo e=>sb.extBut _ _ qf.iz e,g4.1.keep λo e=>sb.extBut _ _ qf.jz e⟩
  .have hlt:e<s.heap.objs.size:=by
    simp only[YAv,YAB,YB8]at he;rcases he with rfl|rfl|rfl|rfl|rfl
    .exact YAh h1
    .exact YAh h2
    .exact YAh h3
    .obtain⟨o,q,_⟩:=h4.obj;exact YAh q
    .obtain⟨o,q,_⟩:=h5.obj;exact YAh q
   rw[upd_ne (YAs (by rw[ht];exact hlt))];exact(hf e he).1
 done:=by
  intro X hP hw hK hc k pins s Z H E I hf st hg;obtain⟨xs,ys,qa,qb,hx⟩:=hg;subst hP hw hK;obtain⟨ia,ra,ca,za⟩:=I.sq qa;obtain⟨ib,rb,cb,zb⟩:=I.sq qb;obtain⟨h1,h2,⟨u,v,h3⟩,h4,h5⟩:=st;have hh:X.A.in1.handled=none:=I.ok.hd hc;have l1:=ra.length;have l2:=rb.length;by_cases hle:xs.length<=ys.length
  .have hk:k=ia.toArray.size:=by simp;omega
   subst hk;refine zgw qf (zjj tp hh i a na ia.toArray) h1 h2 ⟨h4,ca⟩ λh' kk=>⟨rfl,?_⟩;exact I.turnedAll (t':=s.toks) (ch:=[z,c,d,i,j]) (λb u hb e=>by
    simp only[YAv,YAB,YB8,not_or]at hb;exact kk b u hb.1 hb.2.2.1 hb.2.2.2.1 hb.2.2.2.2 e) hf
  .have hk:k=ib.toArray.size:=by simp;omega
   subst hk;refine zf1 qf (zjj tp hh i a na ia.toArray) (zjj tq hh j b nb ib.toArray) h1 h2 h3 ⟨h4,ca⟩ ⟨h5,cb⟩ (by simp;omega) λh' tk kk=>⟨rfl,?_⟩;exact I.turnedAll (t':=tk) (ch:=[z,c,d,i,j]) (λb u hb e=>by
    simp only[YAv,YAB,YB8,not_or]at hb;exact kk b u hb.1 hb.2.2.1 hb.2.2.2.1 hb.2.2.2.2 e) hf
 self:=λ_ _ _ _ _ st h=>wpAny_pyIter_zip st.1 h
def itN(tp:Bool):String:=match tp with|true => "tuple_iterator"|false => "list_iterator"
abbrev xza(tp:Bool)(h:Heap)(l:Addr):Heap:=h.push {cls:=.type (itN tp),data:=.fields #[.ref l,.int 0 0]}
abbrev xzb(tp tq:Bool)(h:Heap)(l m:Addr):Heap:=xza tq (xza tp h l) m
abbrev xzc(tp tq:Bool)(h:Heap)(l m:Addr):Heap:=(xzb tp tq h l m).push {cls:=.type "tuple",data:=.seq #[.ref h.objs.size,.ref (xza tp h l).objs.size]}
abbrev xzd(tp tq:Bool)(h:Heap)(l m:Addr):Heap:=(xzc tp tq h l m).push {cls:=.type "tuple",data:=.seq #[.none,.none]}
abbrev xze(tp tq:Bool)(h:Heap)(l m:Addr):Heap:=(xzd tp tq h l m).push {cls:=.type "zip",data:=.fields #[.none,.bool false,.bool false,.ref (xzb tp tq h l m).objs.size,.ref (xzc tp tq h l m).objs.size]}
def ztP(h:SCn tp s.heap l xs)(q:Q (.ref s.heap.objs.size) {s with heap:=xza tp s.heap l}):wpAny (model P w) A (pyIter (.ref l)) Q E s:=by
 cases tp
 .exact YBU h q
 .exact wpAny_pyIter_tuple h q
theorem SCn.push(x:SCn tp h l xs)(o:Obj):SCn tp (h.push o) l xs:=by
 cases tp
 .exact Heap.IsList.push x o
 .exact Heap.IsTuple.push x o
def zmp(tp tq:Bool)(l m:Addr)(xs ys:Array Value) :
  Meets (Builtin.«zip.__new__» ⟨[.type "zip",.ref l,.ref m],[]⟩) (λ_ R s=>SCn tp s.heap l xs/\SCn tq s.heap m ys/\R (.ok (.ret (.ref (xzd tp tq s.heap l m).objs.size))) {s with heap:=xze tp tq s.heap l m}):=
 .of_wp λprog w A R s h=>by
  obtain⟨hp,g,d,tk,os⟩:=s;obtain⟨hl,hm,h⟩:=h;have hsub:=sub_zip;have h1:SCn tp (Shared.heap ⟨hp,g,d,tk,os⟩) l xs:=hl;have h2:SCn tq (Shared.heap ⟨xza tp hp l,g,d,tk,os⟩) m ys:=SCn.push hm _
  wp_walk using ztP h1,ztP h2
  exact⟨_,rfl,h⟩
def zmT(hl:SCn tp s.heap l xs)(hm:SCn tq s.heap m ys)
  (q:∀h',ZTx tp tq (s.heap.objs.size+4) (s.heap.objs.size+2) (s.heap.objs.size+3) s.heap.objs.size (s.heap.objs.size+1) l m 0 h'->(∀c o,s.heap.get? c=some o->h'.get? c=some o)->Q (.ref (s.heap.objs.size+4)) {s with heap:=h'}) :
  wpAny (model P w) A (call (.type "zip") [.ref l,.ref m]) Q E s:=by
 refine callType_new F.called_zip (by decide) (F.typeCall_zip_2 _ _) (F.newCall_zip_2 _ _) (λobj=>F.args_object_init_3 obj _ _) F.entry_zip_new (zmp tp tq l m xs ys) ⟨hl,hm,?_⟩;have y1:(xza tp s.heap l).objs.size=s.heap.objs.size+1:=YBq ..;have y2:(xzb tp tq s.heap l m).objs.size=s.heap.objs.size+2:=by rw[YBq,y1]
 have y3:(xzc tp tq s.heap l m).objs.size=s.heap.objs.size+3:=by rw[YBq,y2]
 have y4:(xzd tp tq s.heap l m).objs.size=s.heap.objs.size+4:=by rw[YBq,y3]
 have g5:(xze tp tq s.heap l m).get? (xzd tp tq s.heap l m).objs.size=some _:=YAn _ rfl;have g4:(xze tp tq s.heap l m).get? (xzc tp tq s.heap l m).objs.size=some _:=YAc _ (YAn _ rfl);have g3:(xze tp tq s.heap l m).get? (xzb tp tq s.heap l m).objs.size=some _:=YAc _ (YAc _ (YAn _ rfl));have g2:(xze tp tq s.heap l m).get? (xza tp s.heap l).objs.size=some _:=YAc _ (YAc _ (YAc _ (YAn _ rfl)));have g1:(xze tp tq s.heap l m).get? s.heap.objs.size=some _:=YAc _ (YAc _ (YAc _ (YAc _ (YAn _ rfl))));show _/\_;rw[y2,y3,y4]at g5;rw[y1,y2]at g3;rw[y3]at g4;rw[y1]at g2;rw[y4];exact⟨⟨_,g5,rfl⟩,q _ ⟨g5,g3,⟨_,_,g4⟩,(by cases tp<;>exact⟨_,g1,rfl,rfl⟩),(by cases tq<;>exact⟨_,g2,rfl,rfl⟩)⟩ λc o x=>YAc _ (YAc _ (YAc _ (YAc _ (YAc _ x))))⟩
def zvU(K:qk)(ta:TA):TI:=λZ H R=>ta Z H λvs H1=>∃(tp tq:Bool)(a b:Addr)(xs ys:List V),vs=[.ref a,.ref b]/\SQ tp K H1 a xs/\SQ tq K H1 b ys/\R (Itx tp tq K a b) H1
def zss(hg:Gl X "zip")(hm:X.mg "zip"=none)(ha:PA X [a,b] ta)(hs:starEach [a,b] X.env=[(false,eval a X.env),(false,eval b X.env)]:=by rfl)(hs2:starEach [b] X.env=[(false,eval b X.env)]:=by rfl) :
  PI X (.Tuple es x1 tpos) (.Call (.Name "zip" p) [a,b] [] pos) (zvU X.K ta):=by
 intro pins s Z H R I h;refine Call_ (zhp I hg hm boot_zip (YBs (thn (ha pos pins s Z H _ I h) λus s1 ⟨vs,H1,I1,r1,q1⟩=>?_) (by rw[hs,hs2]) (by rw[hs2];rfl)));obtain⟨tp,tq,l,m,xs,ys,e,q1,q2,q⟩:=q1;subst e;obtain⟨u,v,rfl,ru,rv⟩:=zsk r1;cases ru;cases rv;obtain⟨ia,ra,ca,za⟩:=I1.sq q1;obtain⟨ib,rb,cb,zb⟩:=I1.sq q2;have lt1:=ca.lt;have lt2:=cb.lt;refine zmT ca cb λh' zt kk=>?_;refine wpAny_pyIter_zip zt.1 ?_;have I2:Inv X pins Z H1 {s1 with heap:=h'}:=I1.kept (t':=s1.toks) kk;refine⟨_,[s1.heap.objs.size+4,s1.heap.objs.size+2,s1.heap.objs.size+3,s1.heap.objs.size,s1.heap.objs.size+1],_,_,H1,rfl,I2,znl (zsU _ _ _ lt1 lt2) (YAs lt1) (YAs (YCi lt2)),zt,λc hc=>?_,q⟩;have hle:s1.heap.objs.size<=c:=by
  simp only[YAv,YAB,YB8]at hc;rcases hc with rfl|rfl|rfl|rfl|rfl
  .exact YBW _ _
  .exact YBW _ _
  .exact YBW _ _
  .exact YAo _
  .exact YBW _ _
 exact I1.fpOk hle (I1.hok.fresh hle)
end L2
namespace Fd
open PySem L2
section
variable{X:Cx}{c:Bk}{a b:Expr}{A B:WE}{pos p tpos:Pos}{es:List Expr}
def zsY(A B:WE):WL:=λS Q=>A S λx=>B S λy=>seqD x λxs=>seqD y λys=>Q (zipL xs ys)
def zix(e:Same G H2)(h:SQ tp K G l vs):SQ tp K H2 l vs:=by
 cases tp
 .exact e.seq h
 .exact zbc e h
def zsC(hl:SQ tp c.K G l vs)(hm:SQ tq c.K G m ws)(hv:Reps c G xs vs)(hw:Reps c G ys ws):ItOk c (Itx tp tq c.K l m) (zipL xs ys) G:=by
 intro i H2 G2 s1 s2 bx h0;have ql:=zix (s1.trans s2) hl;have qm:=zix (s1.trans s2) hm;refine⟨λe=>⟨vs,ws,ql,qm,by rw[e,zlu,hv.length,hw.length]⟩,λd e=>?_⟩;obtain⟨x,y,ex,ey,rfl⟩:=zlP e;obtain⟨v,e1,r1⟩:=hv.get ex;obtain⟨w,e2,r2⟩:=hw.get ey;refine⟨⟨vs,ws,v,w,ql,qm,e1,e2⟩,λz H3 yl=>?_⟩;obtain⟨t,x',y',ht,rfl,rfl,f1,f2⟩:=yl;have g1:=f1 vs ql;have g2:=f2 ws qm;rw[e1]at g1;cases g1;rw[e2]at g2;cases g2;have sg:Same G2 (upd G2 t (.tup [v,w])):=zb0 (zap s2 ht);exact⟨_,Stp.new s2 bx ht,t,[v,w],rfl,SqT.of zah,⟨v,[w],rfl,(r1.mono s1).mono sg,w,[],rfl,(r2.mono s1).mono sg,rfl⟩⟩
def zk2(h:Rep c G d v)(q:seqD d Q):∃tp l vs xs,v=.ref l/\SQ tp c.K G l vs/\Reps c G xs vs/\Q xs:=by
 cases d with
 |lst n xs=>obtain⟨l,vs,e,hl,_,hv⟩:=h;exact⟨false,l,vs,xs,e,SqL.of hl,hv,q⟩
 |tup xs=>obtain⟨l,vs,e,hl,hv⟩:=h;exact⟨true,l,vs,xs,e,hl,hv,q⟩
 |_=>exact q.elim
def zuj(hA:DE X c a A)(hB:DE X c b B)(hg:Gl X "zip":=by rfl)(hs:starEach [a,b] X.env=[(false,eval a X.env),(false,eval b X.env)]:=by rfl)(hs2:starEach [b] X.env=[(false,eval b X.env)]:=by rfl)(hK:c.K=X.K:=by rfl)(hm:X.mg "zip"=none:=by decreasing_trivial) :
  DI X c (.Tuple es x1 tpos) (.Call (.Name "zip" p) [a,b] [] pos) (zsY A B)where
 mono:=λS Q Q' k q=>hA.mono S _ _ (λx z=>hB.mono S _ _ (λy z'=>zgd (λxs=>zgd λys z=>k _ z) z') z) q
 pi:=zlL (zss hg hm (zaC hA.pe (zaC hB.pe zbf hs2) (by rw[hs,hs2])) hs hs2) λZ H R ⟨S,G,r,q⟩=>⟨S,G,r,hA.mono S _ _ (λx z v H1 G1 t1 e1=>⟨S,G1,r.step t1,hB.mono S _ _ (λy z' w H2 G2 t2 e2=>by
  obtain⟨tp,l,vs,xs,rfl,hl,hv,z'⟩:=zk2 (e1.mono t2.gg) z';obtain⟨tq,m,ws,ys,rfl,hm,hw,z'⟩:=zk2 e2 z';exact⟨tp,tq,l,m,vs,ws,rfl,hK▸zix t2.gh hl,hK▸zix t2.gh hm,z' _ H2 G2 (t1.trans t2) (hK▸zsC hl hm hv hw)⟩) z⟩) q⟩
end
end Fd
namespace Fd
open PySem L2
section
variable{X:Cx}{c:Bk}{a b e o:Expr}{A B:WE}{es:List Expr}{pos p p2 apos cpos px py ps:Pos}
def zs1(hm:X.mg x=some (.str z t))(hg:Gl X x:=by rfl)(hd:(x==("__debug__":Str))=false:=by decide):DE X c (.Name x pos) (kW (.str z)):=⟨zms _,zas (zj8 (v:=.str z) hg hm ⟨t,rfl⟩ hd) λZ H Q ⟨S,G,r,q⟩=>q _ H G r.refl rfl⟩
def zhj(hm:X.mg x=some (.int z t))(hg:Gl X x:=by rfl)(hd:(x==("__debug__":Str))=false:=by decide):DE X c (.Name x pos) (kW (.int z)):=⟨zms _,zas (zj8 (v:=.int z) hg hm ⟨t,rfl⟩ hd) λZ H Q ⟨S,G,r,q⟩=>q _ H G r.refl rfl⟩
def zbd:FL:=λds Q=>match ds with
 |[.str x]=>x.length<=100000/\Q (.int x.length)
 |ds=>lenF ds Q
def ztt:zdF zbd:=λds Q Q' k q=>by
 unfold zbd at q ⊢;split at q
 .exact⟨q.1,k _ q.2⟩
 .exact zvO _ _ _ k q
def zr2:zgn c zbd (λxs H Q=>(∃p ys,xs=[.ref p]/\(SqL c.K H p ys\/SqT c.K H p ys)/\Q (.int ys.length) H)\/∃z,xs=[.str z]/\z.length<=sizeLine/\Q (.int z.length) H):=by
 intro H G ds vs Q gh bx h0 rv q;unfold zbd at q;split at q
 .obtain⟨v,rfl,rfl⟩:=zgy rv;exact .inr ⟨_,rfl,small5 q.1,q.2 _ H G (Stp.refl gh bx) rfl⟩
 .exact .inl (zue H G _ vs Q gh bx h0 rv q)
def zbh(hR:DA X c [e] R)(hg:Gl X "len":=by rfl)(he:starEach [e] X.env=(false,eval e X.env)::starEach [] X.env:=by rfl)(hK:c.K=X.K:=by rfl)(hm:X.mg "len"=none:=by decreasing_trivial):DE X c (.Call (.Name "len" p) [e] [] pos) (cbW zbd R):=
 zhX ztt (call_len_seq.or zjJ) (hK▸zr2) hm YDe hR hg (by decide) (by decide) he rfl
def hasS(b a:Str):Bool:=!(Builtin.Str.occurrences b a 0 b.length 1).isEmpty
def inXD(neg:Bool):F2:=λx y Q=>match x,y with
 |.str a,.str b=>Q (.bl (if neg then !hasS b a else hasS b a))
 |x,y=>inD neg x y Q
def zrR(neg:Bool):zbi (inXD neg):=λx y Q Q' k q=>by
 unfold inXD at q ⊢;split at q
 .exact k _ q
 .exact m_in neg _ _ _ _ k q
def rInX(c:Bk)(neg:Bool):R2:=λu v H Q=>rInD c neg u v H Q\/∃i j,u=.str i/\v=.str j/\Q (.bl (if neg then !hasS j i else hasS j i)) H
def znn(neg:Bool):OpD c (inXD neg) (rInX c neg):=λH G x y u v Q gh bx h0 rx ry q=>by
 unfold inXD at q;split at q
 .cases rx;cases ry;exact .inr ⟨_,_,rfl,rfl,q _ H G (Stp.refl gh bx) rfl⟩
 .exact .inl (zu8 neg H G _ _ u v Q gh bx h0 rx ry q)
def zqw(hK:c.K=X.K)(hu:X.A.units+64<cLine):OpR X (compareOp .In) (rInX c false):=(ztp hK hu).or zmR
def zmW(hK:c.K=X.K)(hu:X.A.units+64<cLine):OpR X (compareOp .NotIn) (rInX c true):=(zn4 hK hu).or zjB
def zuR(hA:DE X c a A)(hB:DE X c b B)(hm:behindInMarks .In b=false:=by with_unfolding_all rfl)(hK:c.K=X.K:=by rfl)(hu:X.A.units+64<cLine:=by decreasing_trivial):DE X c (.Compare a [.In] [b] pos) (binW (inXD false) A B):=zrx (zrR _) (zqw hK hu) (znn _) hA hB hm
def zml(hA:DE X c a A)(hB:DE X c b B)(hm:behindInMarks .In b=false:=by with_unfolding_all rfl)(hK:c.K=X.K:=by rfl)(hu:X.A.units+64<cLine:=by decreasing_trivial):DT X c (.Compare a [.In] [b] pos) (blW (binW (inXD false) A B)):=zgg (zrR _) (zqw hK hu) (znn _) hA hB hm
def zir(hA:DE X c a A)(hB:DE X c b B)(hm:behindInMarks .NotIn b=false:=by with_unfolding_all rfl)(hK:c.K=X.K:=by rfl)(hu:X.A.units+64<cLine:=by decreasing_trivial):DT X c (.Compare a [.NotIn] [b] pos) (blW (binW (inXD true) A B)):=zgg (zrR _) (zmW hK hu) (znn _) hA hB hm
def ixXD:F2:=λx y Q=>match x,y with
 |.str z,.int i=>z.length<=100000/\(match atI z.cps.toList i with|some ch=>Q (.str ⟨#[ch]⟩)|none=>False)
 |x,y=>ixD x y Q
def zuq:zbi ixXD:=λx y Q Q' k q=>by
 unfold ixXD at q ⊢;split at q
 .refine⟨q.1,?_⟩;have q:=q.2;split at q
  .exact k _ q
  .exact q.elim
 .exact m_ix _ _ _ _ k q
def zs9:OpD c ixXD (rIx c.K):=λH G x y u v Q gh bx h0 rx ry q=>by
 unfold ixXD at q;split at q
 .cases rx;cases ry;have q2:=q.2;split at q2
  .rename_i ch e
   exact .inr (.inr ⟨_,_,ch,rfl,rfl,small5 q.1,e,q2 _ H G (Stp.refl gh bx) rfl⟩)
  .exact q2.elim
 .exact zv0 H G _ _ u v Q gh bx h0 rx ry q
def zaw(hA:DE X c a A)(hB:DE X c b B)(hs:zkT b:=by intro _ _;rfl)(hK:c.K=X.K:=by rfl):DE X c (.Subscript a b pos) (binW ixXD A B):=
 ⟨zeg zuq hA.mono hB.mono,zas (zgo (hK▸zqK) hA.pe hB.pe hs) λZ H Q h=>zf8 zuq hA.mono hB.mono zs9 Z H Q h⟩
def slXD(x:D)(lo hi:Option Int)(Q:D->Prop):Prop:=match x with
 |.str z=>z.length<=100000/\Q (.str (cutS z lo hi))
 |x=>slD x lo hi Q
def znx(k:∀d,Q d->Q' d)(q:slXD x lo hi Q):slXD x lo hi Q':=by
 cases x with
 |str z=>exact⟨q.1,k _ q.2⟩
 |lst n xs=>exact k _ q
 |tup xs=>exact k _ q
 |_=>exact q.elim
@[reducible] def slXW(A:WE)(L U:WO):WE:=λS Q=>A S λx=>L S λl=>U S λu=>slXD x l u Q
def zhy(hA:DE X c a A)(hL:DO X c lo L)(hU:DO X c hi U)(hK:c.K=X.K:=by rfl):DE X c (.Subscript a (.Slice lo hi none p2) pos) (slXW A L U)where
 mono:=λS Q Q' k q=>hA.mono S _ _ (λd z=>hL.mono S _ _ (λl y=>hU.mono S _ _ (λu x=>znx k x) y) z) q
 pe:=zas (zlq ((sl_list.or zrI).or zuY) hA.pe hL.po hU.po) λZ H Q ⟨S,G,r,q⟩=>⟨S,G,r,hA.mono S _ _ (λd z v H1 G1 t1 e1=>⟨S,G1,r.step t1,hL.mono S _ _ (λl y H2 G2 t2=>⟨S,G2,(r.step t1).step t2,hU.mono S _ _ (λu x H3 G3 t3=>by
  have t:=(t1.trans t2).trans t3;have e3:=(e1.mono t2.gg).mono t3.gg;cases d with
  |lst n xs=>
   obtain⟨p,vs,rfl,hp,_,rv⟩:=e3;exact .inl (.inl ⟨p,vs,rfl,SqL.of (t3.gh _ _ hp),λl hl=>x (.ref l) _ _ (t.trans (Stp.new t3.gh t3.bx hl)) ⟨l,_,rfl,zah,λ_=>r.new0 (t.free hl),(rv.cut _ _).mono (zb0 (zap t3.gh hl))⟩⟩)
  |tup xs=>
   obtain⟨p,vs,rfl,hp,rv⟩:=e3;exact .inl (.inr ⟨p,vs,rfl,hK▸zbc t3.gh hp,λe=>x (.ref p) H3 G3 t ⟨p,vs,rfl,hp,by have:=rv.cut l u;rw[e]at this;exact this⟩,λl hl=>x (.ref l) _ _ (t.trans (Stp.new t3.gh t3.bx hl)) ⟨l,_,rfl,SqT.of zah,(rv.cut _ _).mono (zb0 (zap t3.gh hl))⟩⟩)
  |str zz=>cases e3;exact .inr ⟨zz,rfl,x.1,x.2 _ H3 G3 t rfl⟩
  |_=>exact x.elim) y⟩) z⟩) q⟩
def zlo(hA:DE X c a A)(hB:DE X c b B)(hC:DE X c ce C)(hm:lastMarks [.LtE,.LtE] [b,ce]=false:=by with_unfolding_all rfl):DE X c (.Compare a [.LtE,.LtE] [b,ce] pos) (zd9 leD leD A B C):=
 ⟨zfm (zfn _) (zfn _) hA.mono hB.mono hC.mono,zas (zpe zpA zpA hA.pe hB.pe hC.pe hm) λZ H Q h=>zhx (zfn _) (zfn _) hA.mono hB.mono hC.mono (zgX _) (zgX _) Z H Q h⟩
def zta(hA:DE X c a A)(hB:DE X c b B)(hC:DE X c ce C)(hm:lastMarks [.LtE,.LtE] [b,ce]=false:=by with_unfolding_all rfl):DT X c (.Compare a [.LtE,.LtE] [b,ce] pos) (blW (zd9 leD leD A B C)):=
 ⟨ziH (zfm (zfn _) (zfn _) hA.mono hB.mono hC.mono),zfN (zpg zpA zpA hA.pe hB.pe hC.pe hm) λZ H Q h=>by
  obtain⟨S,G,R,q⟩:=zm6 (zfm (zfn _) (zfn _) hA.mono hB.mono hC.mono) Z H Q h;exact zhx (zfn _) (zfn _) hA.mono hB.mono hC.mono (zgX _) (zgX _) Z H _ ⟨S,G,R,q⟩⟩
def strD(d:D)(Q:Str->Prop):Prop:=match d with|.str z=>Q z|_=>False
def znE(k:∀z,Q z->Q' z)(q:strD d Q):strD d Q':=by
 cases d<;>first|exact k _ q|exact q
abbrev FS:=Str->D->(D->Prop)->Prop
def znw(f:FS):Prop:=∀x y Q Q',(∀d,Q d->Q' d)->f x y Q->f x y Q'
@[reducible] def smW(f:FS)(A B:WE):WE:=λS Q=>A S λx=>strD x λz=>B S λy=>f z y Q
def SmD(c:Bk)(f:FS)(r:V->List V->Hp->VK->Prop):Prop:=∀(H G:Hp)(z:Str)(y:D)(v:V)(Q:VK),Same G H->BoxD c.β H G->(∀a,H a=none->c.H0 a=none)->Rep c G y v->f z y (λd=>∀v H' G',Stp c.β H G H' G'->Rep c G' d v->Q v H')->r (.str z) [v] H Q
def d_sm{f:FS}{r:V->List V->Hp->VK->Prop}{name:Str}{id:String}(fm:znw f)(slot:Slot "str" name id)(hty:typeOf (.builtin id)=pure (.type "method_descriptor"))(hm:MtR X id r)(hr:SmD c f r)(hA:DE X c o A)(hB:DE X c e B)
  (hbase:attributeBase o name X.env (eval o X.env)=eval o X.env:=by rfl)
  (hfew:((backTo cpos (starEach [e] X.env)).all (λx=>!x.1)&&(backToKw cpos (keywordEach [] X.env)).all (λx=>x.1.isSome)
   && decide ([e].length+([]:List Keyword).length+(if ([]:List Keyword).isEmpty then 0 else 1)<30))=true:=by rfl)
  (hline:(apos.endLine==cpos.line)=true:=by rfl) (hs:starEach [e] X.env=(false,eval e X.env)::starEach [] X.env:=by rfl) :
  DE X c (.Call (.Attribute o name apos) [e] [] cpos) (smW f A B)where
 mono:=λS Q Q' k q=>hA.mono S _ _ (λx z=>znE (λt y=>hB.mono S _ _ (λy w=>fm _ _ _ _ k w) y) z) q
 pe:=zas (zpk PySem.F.plainAttrs_str slot hty hm hA.pe (zaC hB.pe zbf hs) hbase hfew hline hs rfl) λZ H Q ⟨S,G,R,q⟩=>⟨S,G,R,hA.mono S _ _ (λx z v H1 G1 t1 e1=>by
  cases x with
  |str z'=>
   cases e1;exact⟨rfl,S,G1,R.step t1,hB.mono S _ _ (λy w v H2 G2 t2 e2=>hr H2 G2 z' y v Q t2.gh t2.bx (λa z=>R.new0 (t1.free (t2.free z))) e2 (fm _ _ _ _ (λd u v' H3 G3 t3 e3=>u v' H3 G3 ((t1.trans t2).trans t3) e3) w)) z⟩
  |_=>exact z.elim) q⟩
def spF:FS:=λz y Q=>match y with|.str b=>(b.length≠0/\z.length<=100000)/\Q (.lst true ((Txt.split z b).map D.str))|_=>False
def m_sp:znw spF:=λx y Q Q' k q=>by cases y<;>first|exact⟨q.1,k _ q.2⟩|exact q
theorem reps_strs:∀{ns:List Str}{vs:List V},Reps c G (ns.map D.str) vs↔vs=ns.map V.str
 |[],_=>Iff.rfl
 |n::ns,vs=>by
  constructor
  .rintro⟨v,ws,h1,h2,h3⟩;rw[h1,reps_strs.mp h3]
   have:v=V.str n:=h2
   rw[this];rfl
  .rintro rfl;exact⟨V.str n,ns.map V.str,rfl,rfl,reps_strs.mpr rfl⟩
def zvD:SmD c spF zqH:=λH G z y v Q gh bx h0 ry q=>by
 cases y with
 |str b=>cases ry;exact⟨z,b,rfl,rfl,q.1.1,q.1.2,λp hp=>q.2 (.ref p) _ _ (Stp.new gh bx hp) ⟨p,_,rfl,zah,λ_=>h0 p hp,reps_strs.mpr rfl⟩⟩
 |_=>exact q.elim
def joF:FS:=λz y Q=>match y with|.lst _ xs=>∃ts:List Str,xs=ts.map D.str/\(∀t∈ts,t.length<=2000)/\ts.length<=2000/\z.length<=1000/\Q (.str (Str.join z ts))|_=>False
def m_jo:znw joF:=λx y Q Q' k q=>by
 cases y with
 |lst n xs=>obtain⟨ts,h1,h2,h3,h4,q⟩:=q;exact⟨ts,h1,h2,h3,h4,k _ q⟩
 |_=>exact q.elim
def zve:SmD c joF (ztU c.K):=λH G z y v Q gh bx h0 ry q=>by
 cases y with
 |lst n xs=>
  obtain⟨ts,rfl,h2,h3,h4,q⟩:=q;obtain⟨a,vs,rfl,ha,_,hv⟩:=ry;rw[reps_strs.mp hv]at ha;exact⟨z,a,ts,rfl,rfl,SqL.of (gh _ _ ha),h2,h3,h4,q _ H G (Stp.refl gh bx) rfl⟩
 |_=>exact q.elim
def zdB:FL:=λds Q=>match ds with
 |[.str x]=>x.length<=640/\(match PySem.intText? x with|some n=>Q (.int n)|none=>False)
 |ds=>intF ds Q
def zuc:zdF zdB:=λds Q Q' k q=>by
 unfold zdB at q ⊢;split at q
 .refine⟨q.1,?_⟩;have q:=q.2;split at q
  .exact k _ q
  .exact q.elim
 .exact zvX _ _ _ k q
def zsq:zgn c zdB (λxs H Q=>((∃i,xs=[.int i]/\Q (.int i) H)\/∃k,xs=[.bl k]/\Q (.int (if k then 1 else 0)) H)\/∃x n,xs=[.str x]/\x.length<=640/\PySem.intText? x=some n/\Q (.int n) H):=by
 intro H G ds vs Q gh bx h0 rv q;unfold zdB at q;split at q
 .obtain⟨v,rfl,rfl⟩:=zgy rv;have q2:=q.2;split at q2
  .rename_i n e
   exact .inr ⟨_,n,rfl,q.1,e,q2 _ H G (Stp.refl gh bx) rfl⟩
  .exact q2.elim
 .exact .inl (zs6 H G _ vs Q gh bx h0 rv q)
def zes(hR:DA X c [e] R)(hg:Gl X "int":=by rfl)(he:starEach [e] X.env=(false,eval e X.env)::starEach [] X.env:=by rfl)(hm:X.mg "int"=none:=by decreasing_trivial):DE X c (.Call (.Name "int" p) [e] [] pos) (cbW zdB R):=
 zln zuc (call_int1.or zjl) zsq hm PyProof.Rows.boot_int hR hg (by decide) (by decide) he rfl
def zsa(hA:DE X c o A)(hB:DE X c e B)(hbase:attributeBase o "split" X.env (eval o X.env)=eval o X.env:=by rfl)
  (hfew:((backTo cpos (starEach [e] X.env)).all (λx=>!x.1)&&(backToKw cpos (keywordEach [] X.env)).all (λx=>x.1.isSome)
   && decide ([e].length+([]:List Keyword).length+(if ([]:List Keyword).isEmpty then 0 else 1)<30))=true:=by rfl)
  (hline:(apos.endLine==cpos.line)=true:=by rfl) (hs:starEach [e] X.env=(false,eval e X.env)::starEach [] X.env:=by rfl) :
  DE X c (.Call (.Attribute o "split" apos) [e] [] cpos) (smW spF A B):=d_sm m_sp PySem.F.slot_str_split PySem.F.type_str_split zqb zvD hA hB hbase hfew hline hs
def zs3(hA:DE X c o A)(hB:DE X c e B)(hbase:attributeBase o "join" X.env (eval o X.env)=eval o X.env:=by rfl)
  (hfew:((backTo cpos (starEach [e] X.env)).all (λx=>!x.1)&&(backToKw cpos (keywordEach [] X.env)).all (λx=>x.1.isSome)
   && decide ([e].length+([]:List Keyword).length+(if ([]:List Keyword).isEmpty then 0 else 1)<30))=true:=by rfl)
  (hline:(apos.endLine==cpos.line)=true:=by rfl) (hs:starEach [e] X.env=(false,eval e X.env)::starEach [] X.env:=by rfl) (hK:c.K=X.K:=by rfl) :
  DE X c (.Call (.Attribute o "join" apos) [e] [] cpos) (smW joF A B):=d_sm m_jo PySem.F.slot_str_join PySem.F.type_str_join (hK▸zrE) zve hA hB hbase hfew hline hs
def chs(z:Str):List D:=z.cps.toList.map λch=>D.str ⟨#[ch]⟩
def zsr(d:D)(Q:List D->Prop):Prop:=match d with|.str z=>Q (chs z)|d=>seqD d Q
def zmB(k:∀xs,Q xs->Q' xs)(q:zsr d Q):zsr d Q':=by
 cases d<;>first|exact k _ q|exact q.elim
@[reducible] def zbC(A:WE):WL:=λS Q=>A S λd=>zsr d Q
def it_str(z:Str):ItOk c (Its z) (chs z) G:=by
 intro i H2 G2 s1 s2 bx h0;refine⟨λe=>?_,λd e=>?_⟩
 .show z.length<=i;subst e;unfold chs Str.length
  simp
 .unfold chs at e;rw[YAu]at e;cases e1:z.cps.toList[i]? with
  |none=>rw[e1]at e;cases e
  |some ch=>
   rw[e1]at e;cases e;have lt:i<z.cps.size:=by simpa using(YAe.mp e1).1
   refine⟨lt,λv H3 y=>?_⟩;obtain⟨rfl,c',h1,rfl⟩:=y;rw[<-YCo,e1]at h1;cases h1;exact⟨G2,Stp.refl s2 bx,rfl⟩
def iX(K:qk)(tl:TE):TI:=λZ H R=>tl Z H λx H1=>(∃z,x=.str z/\R (Its z) H1)\/∃a,x=.ref a/\(((∃xs,SqL K H1 a xs)/\R (Itl K a) H1)\/((∃xs,SqT K H1 a xs)/\R (Itt K a) H1))
def pi_X(hl:PE X l tl):PI X tg l (iX X.K tl):=by
 intro pins s Z H R I h;refine thn (hl pins s Z H _ I h) λv s1 ⟨x,H1,I1,r1,q1⟩=>?_;have fp:∀b∈[s1.heap.objs.size],FpOk X pins H1 b:=λb hb=>by
  have e:b=s1.heap.objs.size:=by simpa using hb
  subst e;exact I1.fpOk (YAo _) (I1.hok.fresh (YAo _))
 rcases q1 with⟨z,rfl,q⟩|⟨a,rfl,⟨⟨xs,hq⟩,q⟩|⟨⟨xs,hq⟩,q⟩⟩
 .obtain⟨t,rfl⟩:=r1;have fin:∀ty,(ty="str_ascii_iterator" \/ ty="str_iterator")->PIE X pins Z tg R (.ref s1.heap.objs.size) {s1 with heap:=s1.heap.push {cls:=.type ty,data:=.fields #[.str z t,.int 0 0]}}:=λty hty=>
   ⟨s1.heap.objs.size,[s1.heap.objs.size],_,_,H1,rfl,I1.kept (t':=s1.toks) λb o e=>YAc _ e,zpZ z t ty hty _,⟨_,YAn _ rfl,rfl,rfl⟩,fp,q⟩
  cases ha:z.cps.all (·<128)
  .exact wpAny_pyIter_wide ha (fin _ (.inr rfl))
  .exact wpAny_pyIter_ascii ha (fin _ (.inl rfl))
 .cases r1;obtain⟨its,rv,p,hz⟩:=I1.list hq;exact YBU p.isList ⟨s1.heap.objs.size,[s1.heap.objs.size],_,_,H1,rfl,I1.kept (t':=s1.toks) λb o e=>YAc _ e,zob a _,⟨_,YAn _ rfl,rfl,rfl⟩,fp,q⟩
 .cases r1;obtain⟨its,rv,p,hz⟩:=I1.tuple hq;exact wpAny_pyIter_tuple (show s1.heap.IsTuple a its.toArray from p) ⟨s1.heap.objs.size,[s1.heap.objs.size],_,_,H1,rfl,I1.kept (t':=s1.toks) λb o e=>YAc _ e,zmu a _,⟨_,YAn _ rfl,rfl,rfl⟩,fp,q⟩
def zbZ(hA:DE X c e A)(hK:c.K=X.K:=by rfl):DI X c tg e (zbC A)where
 mono:=λS Q Q' k q=>hA.mono S _ _ (λd z=>zmB k z) q
 pi:=zlL (pi_X hA.pe) λZ H R ⟨S,G,r,q⟩=>⟨S,G,r,hA.mono S _ _ (λd z v H' G' t e=>by
  cases d with
  |str x=>cases e;exact .inl ⟨x,rfl,z _ H' G' t (it_str x)⟩
  |lst n xs=>
   obtain⟨l,vs,rfl,hl,_,hv⟩:=e;exact .inr ⟨l,rfl,.inl ⟨⟨vs,SqL.of (t.gh _ _ hl)⟩,z _ H' G' t (hK▸zrq hl hv)⟩⟩
  |tup xs=>
   obtain⟨l,vs,rfl,hl,hv⟩:=e;exact .inr ⟨l,rfl,.inr ⟨⟨vs,hK▸zbc t.gh hl⟩,z _ H' G' t (hK▸zs7 hl hv)⟩⟩
  |_=>exact z.elim) q⟩
structure GDict(P:Program)(w:PySem.World)(K:qk)(mg:Str->Option Value)(x:Str)(kvs:List (Str×D)):Prop where
 ex:∃(a:Addr)(vvs:List (Key×V)),mg x=some (.ref a)/\(∀h:Heap,K.In h->(a==sysModules)=false/\∃vs,KV vvs vs/\h.DictOf (za2 P w) a vs) /\
  ∀z:Str,(valV vvs (.inr z)=none/\kvs.lookup z=none)\/∃v d,valV vvs (.inr z)=some v/\kvs.lookup z=some d/\∀(c:Bk)(G:Hp),c.K=K->Rep c G d v
def lkD(kvs:List (Str×D))(d:D)(Q:Option D->Prop):Prop:=match d with|.str z=>Q (kvs.lookup z)|_=>False
def zpD(k:∀z,Q z->Q' z)(q:lkD kvs d Q):lkD kvs d Q':=by
 cases d<;>first|exact k _ q|exact q
def zqM{kvs:List (Str×D)}{zz:Str}{o:Option D}{Q:Option D->Prop}(q:lkD kvs (.str zz) Q)(e:kvs.lookup zz=o):Q o:=e▸q
def opD(o:Option D)(Q:D->Prop):Prop:=match o with|some d=>Q d|none=>False
def zoY{o:Option D}{Q Q':D->Prop}(k:∀z,Q z->Q' z)(q:opD o Q):opD o Q':=by
 cases o<;>first|exact k _ q|exact q
@[reducible] def ixGW(kvs:List (Str×D))(A:WE):WE:=λS Q=>A S λd=>lkD kvs d λo=>opD o Q
section
variable{x:Str}{ax:Addr}{vvs:List (Key×V)}{ty:TE}
def tIxG(vvs:List (Key×V))(ty:TE):TE:=λZ H Q=>ty Z H λy H1=>∃z v,y=.str z/\valV vvs (.inr z)=some v/\Q v H1
def ztw(hm:X.mg x=some (.ref ax))(hk:∀h:Heap,X.K.In h->(ax==sysModules)=false/\∃vs,KV vvs vs/\h.DictOf (za2 X.prog X.w) ax vs)(hg:Gl X x)(hdb:(x==("__debug__":Str))=false)(hi:PE X b ty)(hs:NoSl b):PE X (.Subscript (.Name x p) b pos) (tIxG vvs ty):=by
 intro pins s Z H Q I h;refine zng PySem.F.slot_dict_getitem.lookup hs (zd3 I hg hm (thn (hi pins s Z H _ I h) λiv s2 ⟨y,H2,I2,ry,z,v,ey,l,q2⟩=>?_) hdb);subst ey;obtain⟨hd,vs,rel,dd⟩:=hk s2.heap I2.kIn;obtain⟨w',hw,rw'⟩:=RelO.some_of (v:=v) (o:=valueAt vs (.inr z)) (by rw[<-l];exact rel.val (.inr z));exact⟨dd.typeIs,wpAny_getItem_of (zkC (k:=.inr z) ry) dd.mapOf hw ⟨v,H2,I2.tok _,rw',q2⟩⟩
end
def zvt(g:GDict X.prog X.w X.K X.mg x kvs)(hB:DE X c b B)(hK:c.K=X.K:=by rfl)(hg:Gl X x:=by rfl)(hdb:(x==("__debug__":Str))=false:=by decide)(hs:NoSl b:=by intro _ _;rfl):DE X c (.Subscript (.Name x p) b pos) (ixGW kvs B)where
 mono:=λS Q Q' k q=>hB.mono S _ _ (λd z=>zpD (λo y=>zoY k y) z) q
 pe:=by
  obtain⟨ax,vvs,hm,hk,hv⟩:=g.ex;exact zas (ztw hm hk hg hdb hB.pe hs) λZ H Q ⟨S,G,r,q⟩=>⟨S,G,r,hB.mono S _ _ (λd z v H' G' t e=>by
   cases d with
   |str zz=>
    cases e;rcases hv zz with⟨e1,e2⟩|⟨v,d,e1,e2,e3⟩
    .have z:=zqM z e2;exact z.elim
    .have z:=zqM z e2;exact⟨zz,v,rfl,e1,z v H' G' t (e3 c G' hK)⟩
   |_=>exact z.elim) q⟩
end
def zcm:Fn:=fnW 3 ((retW (andW (zd9 leD leD (kW (.int 1)) (cbW zbd (zaa (vW 0) nilA)) (vW 2)) (cbW allF (zaa (valW (zaF [none,some 1] (zbC (vW 0)) (.nm 0) noIf (binW (inXD false) (vW 0) (vW 1)))) nilA)))))
def zcy:Fn:=fnW 1 ((retW (zal 3 zcm (zaa (vW 0) (zaa (kW (.str "abcdefghijklmnopqrstuvwxyz")) (zaa (kW (.int 8)) nilA))))))
noncomputable def zbb:Nat->Fn
 |0=>λ_ _=>False
 |n+1=>fnW 2 ((seqW (ifS (orT (truW (isiW "list" (vW 1))) (truW (isiW "tuple" (vW 1)))) (seqW (ifS (orT (blW (binW neD (isiW "list" (vW 0)) (isiW "list" (vW 1)))) (blW (binW neD (isiW "tuple" (vW 0)) (isiW "tuple" (vW 1))))) (retW (kW (.bl false))) nilS)
  (retW (andW (binW eqD (cbW zbd (zaa (vW 0) nilA)) (cbW zbd (zaa (vW 1) nilA))) (cbW allF (zaa (valW (zaF [none,none] (zsY (vW 0) (vW 1)) (.tp 2 (.cons (.nm 0) (.cons (.nm 1) .nil))) noIf (zal 2 (zbb n) (zaa (vW 0) (zaa (vW 1) nilA))))) nilA))))) nilS)
  (seqW (ifS (orT (blW (isNW (vW 0))) (blW (isNW (vW 1)))) (retW (andW (isNW (vW 0)) (isNW (vW 1)))) nilS)
  (seqW (ifS (orT (blW (binW neD (isiW "bool" (vW 0)) (isiW "bool" (vW 1)))) (blW (binW neD (isiW "int" (vW 0)) (isiW "int" (vW 1))))) (retW (kW (.bl false))) nilS)
  (retW (andW (binW eqD (isiW "str" (vW 0)) (isiW "str" (vW 1))) (binW eqD (vW 0) (vW 1))))))))
noncomputable def zci:Fn:=fnW 10 ((seqW (asgW (.nm 2) (kW (.str "abcdefghijklmnopqrstuvwxyz")))
  (seqW (asgW (.nm 3) (binW addD (kW (.int 1)) (zal 2 zaf (zaa (vW 0) (zaa (kW (.int 8)) nilA)))))
  (seqW (asgW (.nm 4) (zal 2 zaf (zaa (vW 0) (zaa (vW 3) nilA))))
  (seqW (asgW (.nm 5) (binW eqD (zal 2 zaf (zaa (vW 0) (zaa (kW (.int 2)) nilA))) (kW (.int 0))))
  (seqW (asgW (.nm 6) (valW (zaF [none,some 0] (zeU (vW 3)) (.nm 0) noIf (zal 2 zaf (zaa (vW 1) (zaa (kW (.int 26)) nilA))))))
  (seqW (ownW 7 (lstW nilA))
  (seqW (forW (zeU (vW 1)) (.nm 8) (seqW (ownW 9 (zmA (vW 6)))
  (seqW (ifS (notT (truW (vW 5))) (ownW 9 (zaF [none,some 0] (zeU (binW addD (binW addD (vW 4) (kW (.int 1))) (zal 2 zaf (zaa (vW 0) (zaa (binW subD (vW 3) (vW 4)) nilA))))) (.nm 0) noIf (zal 2 zaf (zaa (vW 1) (zaa (kW (.int 26)) nilA))))) nilS)
  (seqW (putW 9 (vW 4) (binW modD (binW addD (binW ixXD (vW 6) (vW 4)) (binW mulD (kW (.int 11)) (vW 8))) (kW (.int 26))))
  (frzW 9 (appW 7 (smW joF (kW (.str "")) (valW (zaF [none,some 2] (zbC (vW 9)) (.nm 0) noIf (binW ixXD (vW 1) (vW 0)))))))))))
  (frzW 7 (retW (vW 7)))))))))))
def dEn(P:Params)(p:Str×Tok×Value):DictEntry:=⟨PyData.keyHash P p.1,.str p.1 p.2.1,p.2.2⟩
theorem zlV :∀ps:List (Str×Tok×Value),Pairs (za2 P w) (ps.map (dEn w.params)) (ps.map λp=>((Sum.inr p.1:Key),p.2.2))
 |[]=>.nil
 |p::ps=>.cons (zgS p.1 p.2.1) rfl (zlV ps)
def zsA{P:Program}{w:PySem.World}{K:qk}{a:Addr}{n:Nat}{ps:List (Str×Tok×Value)}(hl:K.lookup a=some ⟨.type "dict",none,.dict (ps.map (dEn w.params)).toArray n,#[]⟩)(hn:(ps.map λp=>(Sum.inr p.1:Key)).Nodup)(h:Heap)(hk:K.In h) :
  h.DictOf (za2 P w) a (ps.map λp=>((Sum.inr p.1:Key),p.2.2)):=by
 refine⟨_,_,_,hk a _ hl,⟨rfl,rfl,rfl⟩,rfl,λe he=>?_,by simpa using zlV ps,by rw[YAN];exact hn⟩;have he:e∈ps.map (dEn w.params):=by simpa using he
 obtain⟨p,hp,rfl⟩:=YAM.mp he;exact⟨.inr p.1,zgS p.1 p.2.1,rfl⟩
structure GRow(K:qk)(p:Str×Tok×Value)(q:Str×D):Prop where
 key:p.1=q.1
 val:∃v:V,RelV v p.2.2/\∀(c:Bk)(G:Hp),c.K=K->Rep c G q.2 v
inductive GRows(K:qk):List (Str×Tok×Value)->List (Str×D)->Prop
 |nil:GRows K [] []
 |cons {p:Str×Tok×Value} {q:Str×D} {ps:List (Str×Tok×Value)} {qs:List (Str×D)} (h:GRow K p q) (r:GRows K ps qs):GRows K (p::ps) (q::qs)
theorem zl8:∀{ps:List (Str×Tok×Value)}{kvs:List (Str×D)},GRows K ps kvs->∃vvs:List (Key×V),KV vvs (ps.map λp=>((Sum.inr p.1:Key),p.2.2)) /\
  ∀z:Str,(valV vvs (.inr z)=none/\kvs.lookup z=none)\/∃v d,valV vvs (.inr z)=some v/\kvs.lookup z=some d/\∀(c:Bk)(G:Hp),c.K=K->Rep c G d v
 |_,_,.nil=>⟨[],.nil,λz=>.inl ⟨rfl,rfl⟩⟩
 |_,_,@GRows.cons _ p q ps kvs h r=>by
  obtain⟨vvs,h1,h2⟩:=zl8 r;obtain⟨v,rv,hv⟩:=h.val;refine⟨(Sum.inr p.1,v)::vvs,.cons ⟨rfl,rv⟩ h1,λz=>?_⟩;by_cases e:z=p.1
  .subst e;refine .inr ⟨v,q.2,ze5 rfl,?_,hv⟩;rw[show q=(q.1,q.2)from rfl,<-h.key,List.lookup_cons_self]
  .have n1:¬ (Sum.inr p.1:Key)=Sum.inr z:=λk=>e (Sum.inr.inj k).symm;have n2:kvs.lookup z=(q::kvs).lookup z:=by
    rw[show q=(q.1,q.2)from rfl,<-h.key,YAO,show(z==p.1)=false from by simp[e]]
   rw[zeO n1,<-n2];exact h2 z
def zvg{P:Program}{w:PySem.World}{K:qk}{mg:Str->Option Value}{h:Heap}(X:K.In h)(G:h.Ns mainGlobals mg){x:Str}{a:Addr}{n:Nat}{ps:List (Str×Tok×Value)}{kvs:List (Str×D)}(hn:PySem.W.nsIn K mainGlobals x=some (some (.ref a)))
  (hl:K.lookup a=some ⟨.type "dict",none,.dict (ps.map (dEn w.params)).toArray n,#[]⟩) (hr:GRows K ps kvs) (ha:(a==sysModules)=false) (hd:(ps.map λp=>(Sum.inr p.1:Key)).Nodup):GDict P w K mg x kvs:=by
 obtain⟨vvs,h1,h2⟩:=zl8 hr;exact⟨a,vvs,YAY X G hn,λh hk=>⟨ha,_,h1,zsA hl hd h hk⟩,h2⟩
end Fd
namespace L2
open PySem PySem.Spec PySem.Calls PyProof.Rows PySem.W Builtin Builtin.ObjectAttr Builtin.Getset_descriptor
section
variable{prog:Program}{w:World}{A:Around}{E:Value->Shared->Prop}{s:Shared}{K:qk}{x D:Addr}{ox:Obj}
structure ExK(K:qk)(D:Addr):Prop where
 cls:(clsIn K D).isSome=true
 ga:findIn K (.ref D) "__getattribute__"=some (some (.builtin "BaseException.__getattribute__"))
 noga:findIn K (.ref D) "__getattr__"=some none
 fc:findIn K (.ref D) "__class__"=some (some (.builtin "object.__class__"))
 sp:specialIn K (.builtin "object.__class__") "__get__"=some (some (.builtin "getset_descriptor.__get__"))
 tk:takesIn K (.builtin "object.__class__")=some true
 ob:mroIn K D (.type "object")=some true
 be:subIn K (.ref D) (.type "BaseException")=some true
def ExAt(h:Heap)(x:Addr)(D:Addr):Prop:=∃o,h.get? x=some o/\o.cls=.ref D
def ExAt.type(I:ExAt h x D):Looks M h (typeOf (.ref x)) (.ref D):=by
 obtain⟨o,h1,h2⟩:=I;exact h2▸(Looks.ld h1).andThen .now
theorem ExK.find(k:ExK K D)(X:K.In h):Looks M h (Builtin.ObjectAttr.find (.ref x) (.ref D) "__class__") (.bind (.builtin "getset_descriptor.__get__") (.builtin "object.__class__")):=by
 refine(looks_findIn (M:=M) X k.fc).andThen ((looks_specialIn (M:=M) X k.sp).andThen ?_);exact(show Looks M h (Builtin.ObjectAttr.dataDescriptor? (some (.builtin "object.__class__")) (some (.builtin "getset_descriptor.__get__"))) (some (.builtin "getset_descriptor.__get__",.builtin "object.__class__"))from(looks_takesIn (M:=M) X k.tk).andThen .now).andThen (Looks.tag .now)
def zrj(k:ExK K D)(X:K.In s.heap)(I:ExAt s.heap x D)
  (h:R (.ok (.ret (.ref D))) s):codeAny (model prog w) A (.call (.builtin "getset_descriptor.__get__") ⟨[.builtin "object.__class__",.ref x,tp],[]⟩) R s:=by
 obtain⟨hh,g,dr,t,os⟩:=s;have L0:=I.type (M:=model prog w);have L1:=looks_mroIn (M:=model prog w) X k.ob;refine codeAny_call_builtin KF.slot_gs.plain KF.entry_gs (KF.slot_gs.check _ _ _ _ _ _ _ _ KF.type_class (KF.args_gs _ _ _) ?_);unfold Builtin.«getset_descriptor.__get__» descrGet;rw[dga_obj];refine YAa (YAd ?_);unfold descrGetter descrCheckInstance descrNameAndClass isInstance;simp only[KF.owner_class]
 repeat lk
 refine⟨Code.quiet_builtin _ (by decide +kernel),codeAny_builtin KF.entry_class ?_⟩;unfold Builtin.«object.__class__» shownTypeOf
 repeat lk
 exact h
def zop{tk:Tok}{P:Value->Shared->Prop}(k:ExK K D)(X:K.In s.heap)(I:ExAt s.heap x D)(h:P (.ref D) s) :
  wpAny (model prog w) A (Builtin.«object.__getattribute__» ⟨[.ref x,.str "__class__" tk],[]⟩) (λfin s'=>match fin with|.done (.ret v)=>P v s'|_=>False) E s:=by
 obtain⟨hh,g,d,t,os⟩:=s;have L0:=I.type (M:=model prog w);have L1:=k.find (x:=x) (M:=model prog w) X;refine YAa (YAd ?_);refine YAa (YAd ?_);refine YAa (L0.at ?_);refine YAa (L1.at ?_);show wpAny _ _ (holding [Value.builtin "object.__class__"] (call (Value.builtin "getset_descriptor.__get__") [Value.builtin "object.__class__",.ref x,.ref D]) >>= ret) _ _ _;refine YAa (YAW (YCQ (zrj k X I ?_)));exact YAd h
def znj(k:ExK K D)(X:K.In s.heap)(I:ExAt s.heap x D)(hq:Q () s):wpAny M A (checkBuiltinCall "BaseException.__getattribute__" ⟨[.ref x,nv],[]⟩) Q E s:=by
 obtain⟨hh,g,d,t,os⟩:=s;have LI:Looks M hh (isInstance (.ref x) (.type "BaseException")) true:=(I.type (M:=M)).andThen (looks_subIn (M:=M) X k.be);have hk:builtinKind "BaseException.__getattribute__"=some .slot:=by decide +kernel
 have hsplit:splitId "BaseException.__getattribute__"=some ("BaseException","__getattribute__"):=by decide +kernel
 have ha:=F.args_bexc_ga (.ref x) nv;simp only[checkBuiltinCall,hk,hsplit];refine YAa (LI.at ?_)
 repeat (first|exact hq|wp_step)
def zmZ{Q:Option Value->Shared->Prop}(k:ExK K D)(X:K.In s.heap)(I:ExAt s.heap x D)(h:Q (some (.ref D)) {s with toks:=s.toks+1}):wpAny (model prog w) A (getAttr? (.ref x) "__class__") Q E s:=by
 obtain⟨hh,g,d,t,os⟩:=s;have L0:=I.type (M:=model prog w);have L1:=looks_findIn (M:=model prog w) X k.ga;have L2:=looks_findIn (M:=model prog w) X k.noga;unfold getAttr? getAttrBy? getAttrBy;refine YAa (wpAny_mkText (YAa (YBJ (YAW (YAa (L0.at (YAa (L1.at ?_))))))));show wpAny _ _ (getAttrByItsOwn _ _ _ _ _ _) _ _ _;unfold getAttrByItsOwn hookBefore callGetattribute;refine YAa (L2.at ?_);refine YAa (YBJ (YAW ?_));show wpAny _ _ (boundAndCalled _ _ _) _ _ _;unfold boundAndCalled;rw[F.excAttr_ValueError.ga.bind];refine YAa (YAd ?_);refine YCQ (codeAny_call_builtin F.excAttr_ValueError.ga.plain F.entry_bexc_ga ?_);refine znj k X I ?_;refine YAT (zop (E:=λ_ _=>False) (P:=λv s'=>v=.ref D/\s'=⟨hh,g,d,t+1,os⟩) k X I ⟨rfl,rfl⟩) (λfin s' z=>?_) λ_ _ z=>z.elim;rcases fin with(_|_|_|v)|_
 .exact z.elim
 .exact z.elim
 .exact z.elim
 .obtain⟨rfl,rfl⟩:=z;exact handed_on rfl (YAd h)
 .exact z.elim
def ExK.it(k:ExK K D)(X:K.In h):Looks M h (isType (.ref D)) true:=by
 obtain⟨cdD,hcD⟩:=YBY.mp k.cls;unfold clsIn at hcD;split at hcD
 .rename_i c' d' cd' sl' ho
  intro A' Q' E' s' k q;unfold isType loadHead;exact YAa (wpAny_loadPart (k _ _ (X _ _ ho)) (YAd q))
 .cases hcD
def zpH(k:ExK K D):KitX K (.ref x) (.ref D) (λh=>ExAt h x D)where
 ty:=λ_ _ _ I=>I.type
 it:=λ_ _ X _=>k.it X
 ne:=λh tp dd its n sl X htp=>by
  obtain⟨cdD,hcD⟩:=YBY.mp k.cls;refine Bool.eq_false_iff.mpr λq=>?_;have e:D=tp:=Value.ref.inj (YCf.mp q);subst e;unfold clsIn at hcD;split at hcD
  .rename_i c' d' cd' sl' ho
   have z:=(X _ _ ho).symm.trans htp;cases z
  .cases hcD
 ca:=λX I q=>zmZ k X I q
def zrP(k:ExK K D)(X:K.In s.heap)(I:ExAt s.heap x D)(e:kitOne K (.ref D) c=some b)(h:∀tk,Q (.bool b) {s with toks:=tk}) :
  wpAny (model prog w) A (call (.builtin "isinstance") [.ref x,c]) Q E s:=
 kia_one (zpH k) X I e (by intro z;cases z) h
end
end L2
set_option maxHeartbeats 400000
namespace L2
open PySem PySem.Spec PyProof.Rows PySem.W
def TrC(h base:Heap)(e:Addr)(cls fl:Value):Prop:=∃oe vs T oT ts,h.get? e=some oe/\oe.cls=cls/\oe.data=.fields vs/\vs[1]?=some (.ref T)/\vs[2]?=some .none/\base.get? T=none/\T≠e/\h.get? T=some oT/\oT.data=.fields ts/\ts[3]?=some fl
def HoldC(base:Heap)(l:List Env)(e:Addr)(cls fl:Value)(h:Heap):Prop:=base.StaysIn h/\base.get? e=none/\h.FunFrames base l/\TrC h base e cls fl
abbrev FlyC(base:Heap)(l:List Env)(e:Addr)(cls:Value)(h:Heap):Prop:=HoldC base l e cls .none h
def HoldC.first(x:HoldC base l e cls fl h):∃oe vs,h.get? e=some oe/\oe.cls=cls/\oe.data=.fields vs/\vs[2]?=some .none:=
 let⟨_,_,_,oe,vs,_,_,_,he,hc,hd,_,h2,_⟩:=x;⟨oe,vs,he,hc,hd,h2⟩
section
variable{M:Model}{A:Around}{E:Value->Shared->Prop}{s:Shared}{base:Heap}{env:Env}{l outer:List Env}{e L:Addr}{cls fl:Value}{Q:Unit->Shared->Prop}
def zqy(hfr:A.frames=some (env::outer))(hl:s.heap.FunFrames base (env::outer))(hf:env.frame=some L)(he:s.heap.get? e=some oe)(hkb:base.StaysIn s.heap)(hen:base.get? e=none)(hd:oe.data=.fields vs)(hsz:1<vs.size)(h2:vs[2]?=some .none)
  (h:∀h',HoldC base (env::outer) e oe.cls (rawInt L) h'->s.heap.UpToSlots h'->Q () {s with heap:=h'}):wpAny M A (do let a <-frameOf env;let pl <-entryPlaceOf L had;let b <-EntryCells.newEntry head a .none (rawInt L) .none pl;setField (.ref e) 1 b) Q E s:=by
 have nfr:e∉(env::outer).filterMap (·.frame):=λhm=>by
  obtain⟨_,o,ho,hnf⟩:=hl.mem hm;rw[he]at ho;cases ho;exact hnf vs hd
 refine YAa (wpAny_frameOf_fun hfr hl hf λh1 s1=>YAa (wpAny_entryPlaceOf λpl hpl=>?_));unfold EntryCells.newEntry newFields;refine YAa (YAI ?_ (hpl.sizeOk5 _ _ _ _ _));have e1:h1.get? e=some oe:=(s1.2.1 e nfr).trans he;have b1:base.StaysIn h1:=λb o q=>(s1.2.1 b λhm=>by rw[(hl.mem hm).1]at q;cases q).trans (hkb b o q);have hT:h1.objs.size≠e:=YBz (YAh e1);generalize hob:({cls:=.type "traceback",dict:=none,data:=.fields ([head,.ref L,.none,rawInt L,.none]++(if pl.isEmpty then List.replicate 6 Value.none else pl)).toArray}:Obj)=ob;have e2:=YAc (h:=h1) ob e1;refine YBD e2 hd hsz ?_;have d3:=YBB hd (·.setIfInBounds 1 (Value.ref h1.objs.size));have keep:∀b o,b≠e->h1.get? b=some o->((h1.push ob).update e (Obj.mapFields (·.setIfInBounds 1 (Value.ref h1.objs.size)))).get? b=some o:=λb o n q=>by
  rw[YAJ _ _ (YAK n)];exact YAc _ q
 have rec':∀b o,s.heap.get? b=some o->(∀vs,o.data≠.fields vs)->b≠e:=λb o q n z=>by
  rw[z,he]at q;cases q;exact n vs hd
 have slots:s.heap.UpToSlots ((h1.push ob).update e (Obj.mapFields (·.setIfInBounds 1 (Value.ref h1.objs.size)))):=λb o q n=>by
  obtain⟨sl,z⟩:=s1.2.2 b o q;exact⟨sl,keep b _ (rec' b o q n) z⟩
 refine h _ ⟨λb o q=>keep b o (λz=>by rw[z,hen]at q;cases q) (b1 b o q),hen,hl.of_keeps λb o q n=>?_,?_⟩ slots
 .obtain⟨sl,z⟩:=slots b o q n;exact⟨_,z,rfl⟩
 .refine⟨_,_,h1.objs.size,ob,_,YAR _ e2 (YBQ d3),YCh _ _,d3,by simp[hsz],by rw[Array.getElem?_setIfInBounds_ne (by decide)];exact h2,b1.fresh,hT,?_,by rw[<-hob],?_⟩
  .rw[YAJ _ _ (YAK hT)];exact YAn h1 (by rw[<-hob];rfl)
  .rcases hpl with rfl|⟨_,_,_,_,_,_,_,rfl⟩<;>simp
def zqo(hfr:A.frames=some (env::outer))(hl:s.heap.FunFrames base (env::outer))(hf:env.frame=some L)(he:s.heap.get? e=some oe)(hkb:base.StaysIn s.heap)(hen:base.get? e=none)(hd:oe.data=.fields vs)(h1:vs[1]?=some .none)(h2:vs[2]?=some .none)
  (h:∀h',HoldC base (env::outer) e oe.cls (rawInt L) h'->s.heap.UpToSlots h'->Q () {s with heap:=h'}):wpAny M A (noteFrame (.ref e) env) Q E s:=by
 unfold noteFrame;simp only[hf];refine YAa (YAF he hd h1 ?_);rw[if_neg (by decide)];exact zqy hfr hl hf he hkb hen hd (YBw.mp h1).1 h2 h
def zmY(hfr:A.frames=some (env::outer))(hf:env.frame=some L)(x:FlyC base (env::outer) e cls s.heap)(h:∀h',HoldC base (env::outer) e cls (rawInt L) h'->s.heap.UpToSlots h'->Q () {s with heap:=h'}):wpAny M A (noteFrame (.ref e) env) Q E s:=by
 obtain⟨kb,en,fl,oe,vs,T,oT,ts,he,hc,hd,v1,v2,nT,Te,hT,dT,t3⟩:=x;subst hc;unfold noteFrame;simp only[hf];refine YAa (YAF he hd v1 ?_);rw[if_pos (show(Value.ref T != Value.none)=true from by simp)];refine YAa (YAF hT dT t3 ?_);rw[if_neg (show ¬ ((Value.none==rawInt L)=true)from by simp[rawInt])];refine YAa (YBD hT dT (YBw.mp t3).1 ?_);have oth:∀b,b≠T->(s.heap.update T (Obj.mapFields (·.setIfInBounds 3 Value.none))).get? b=s.heap.get? b:=λb n=>YAJ _ _ (YAK n);have rec':∀b o,s.heap.get? b=some o->(∀vs,o.data≠.fields vs)->b≠T:=λb o q n z=>by
  rw[z,hT]at q;cases q;exact n ts dT
 refine zqy hfr (fl.of_keeps λb o q n=>⟨o,(oth b (rec' b o q n)).trans q,rfl⟩) hf ((oth e (YAK Te)).trans he) (λb o q=>(oth b λz=>by rw[z,nT]at q;cases q).trans (kb b o q)) en hd (YBw.mp v1).1 v2 λh' z u=>h h' z λb o q n=>u b o ((oth b (rec' b o q n)).trans q) n
def zhA(x:HoldC base l e cls fl s.heap)(h:∀h',FlyC base l e cls h'->s.heap.UpToSlots h'->Q () {s with heap:=h'}):wpAny M A (setFlight (.ref e) none) Q E s:=by
 obtain⟨kb,en,ff,oe,vs,T,oT,ts,he,hc,hd,v1,v2,nT,Te,hT,dT,t3⟩:=x;have oth:∀b,b≠T->(s.heap.update T (Obj.mapFields (·.setIfInBounds 3 ((none:Option Addr).elim Value.none λf=>rawInt f)))).get? b=s.heap.get? b:=λb n=>YAJ _ _ (YAK n);have rec':∀b o,s.heap.get? b=some o->(∀vs,o.data≠.fields vs)->b≠T:=λb o q n z=>by
  rw[z,hT]at q;cases q;exact n ts dT
 have z3:=(YBw.mp t3).1;unfold setFlight;refine YAa (YAF he hd v1 ?_);rw[if_pos (show(Value.ref T != Value.none)=true from by simp)];have dT':=YBB dT (·.setIfInBounds 3 ((none:Option Addr).elim Value.none λf=>rawInt f));refine YBD hT dT z3 (h _ ⟨λb o q=>(oth b λz=>by rw[z,nT]at q;cases q).trans (kb b o q),en,ff.of_keeps λb o q n=>⟨o,(oth b (rec' b o q n)).trans q,rfl⟩,oe,vs,T,_,_,(oth e (YAK Te)).trans he,hc,hd,v1,v2,nT,Te,YAR _ hT (YBQ dT'),dT',by simp[z3]⟩ λb o q n=>⟨o.slots,(oth b (rec' b o q n)).trans q⟩)
def HoldC.out(x:HoldC base (env::outer) e cls fl h):HoldC base outer e cls fl h:=⟨x.1,x.2.1,x.2.2.1.2.2,x.2.2.2⟩
def zpb(hfr:A.frames=some (env::outer))(hf:env.frame=some L)(x:FlyC base (env::outer) e cls s.heap)(h:∀h',FlyC base outer e cls h'->s.heap.UpToSlots h'->Q () {s with heap:=h'}):wpAny M A (leaving env (.ref e)) Q E s:=by
 unfold leaving;exact YAa (zmY hfr hf x λh1 y u=>zhA y λh2 z v=>h h2 z.out (u.trans v))
def zns(hfr:A.frames=some (env::outer))(hf:env.frame=some L)(hkb:base.StaysIn h0)(hl:h0.FunFrames base (env::outer))(hx:Heap.MadeExcOf h0 s.heap e cls args)(h:∀h',FlyC base outer e cls h'->s.heap.UpToSlots h'->Q () {s with heap:=h'}):wpAny M A (leaving env (.ref e)) Q E s:=by
 obtain⟨t,he,_,_⟩:=hx.there;have en:base.get? e=none:=by
  cases q:base.get? e with
  |none=>rfl
  |some o=>have:=hkb e o q;rw[hx.new]at this;cases this
 unfold leaving;exact YAa (zqo hfr (hl.of_keeps λb o q _=>⟨o,hx.keeps b o q,rfl⟩) hf he (λb o q=>hx.keeps b o (hkb b o q)) en rfl rfl rfl λh1 y u=>zhA y λh2 z v=>h h2 z.out (u.trans v))
end
section
variable{X:Cx}{pins:List (Addr×Obj)}{Z:St}{H:Hp}{s:Shared}
def zrW(I:Inv X pins Z H s)(hN:X.N.Nodup)(hi:X.N[i]?=some x)(hk:X.env.scope.names.lookup x=some .local)(h:∀s',Inv X pins (Z.set i none) H s'->Q () s') :
  wpAny M A (do bindName X.env x .none;unbindBehindTheSuite X.env x pos) Q E s:=by
 obtain⟨m,hn,hl⟩:=id I.loc;have hcls:(X.env.scope.kind==.class || (X.env.scope.kind==.module&&X.env.locals != X.env.globals))=false:=by rw[I.ok.kind];rfl
 have hiσ:i<Z.length:=by rw[I.len];exact(YAe.mp hi).1
 refine wpAny_nameGoes_keeps hk hn hcls λh' v hn' hs=>?_;obtain⟨oL,_,_,hoL,_⟩:=id hn;have neL:∀{b o},X.s₀.heap.get? b=some o->b≠X.env.locals:=λe=>YAs (YAr (YAh e) I.ok.above);refine h _ ⟨I.ok,I.os,I.bare,⟨λb o e n hb hx=>(hs.2 b (neL e)).trans (I.base.keep b o e n hb hx),λb o e n hb hx=>?_,I.base.free,λb o e hx=>?_,I.base.tups,I.base.frzs,I.base.tbls⟩,⟨_,hn',λj y v' e1 e2 e3=>?_⟩,λy c e=>?_,I.free,I.freeC,λp hp=>?_,λb ob e=>(I.hok b ob e).stay (λc w' hc q=>(hs.2 c ?_).trans q) (λ_ q=>q) λ_ _ q=>q,by simpa using I.len⟩
 .obtain⟨sl,e1⟩:=I.base.slot b o e n hb hx;exact⟨sl,(hs.2 b (neL e)).trans e1⟩
 .obtain⟨o',e1⟩:=I.base.there b o e hx;exact⟨o',(hs.2 b (neL e)).trans e1⟩
 .by_cases hj:j=i
  .subst hj;rw[YAi hiσ]at e2;cases e2
  .rw[YAl (YAK hj)]at e2;obtain⟨u',r',q⟩:=hl j y v' e1 e2 e3;refine⟨u',r',?_⟩;rcases q with⟨k,e⟩|⟨k,c,e,z⟩
   .refine .inl ⟨k,?_⟩
    have:y≠x:=λe=>hj (zhD hN e1 (e▸hi))
    simp[this,e]
   .exact .inr ⟨k,c,e,z.sameBut hs (I.cne y c e)⟩
 .obtain⟨w',z⟩:=I.cell y c e;exact⟨w',z.sameBut hs (I.cne y c e)⟩
 .obtain⟨e,n,ne,nf,d⟩:=I.pin p hp;exact⟨(hs.2 p.1 ne).trans e,n,ne,nf,d⟩
 .rintro rfl;rcases hc with z|z
  .rw[<-z,I.free]at e;cases e
  .rw[I.free]at z;cases z
end
def ObjOk.ex(x:ObjOk P w H h a o):∃u,h.get? a=some u:=by
 cases o with
 |lst xs=>obtain⟨_,_,_,_,e⟩:=x;exact⟨_,e⟩
 |tup xs=>obtain⟨_,_,_,_,e,_⟩:=x;exact⟨_,e⟩
 |dK kvs=>obtain⟨_,_,_,_,o,_,_,e,_⟩:=x;exact⟨_,e⟩
 |dT kvs=>obtain⟨_,_,_,_,o,_,_,e,_⟩:=x;exact⟨_,e⟩
 |set qj n=>obtain⟨o,_,_,_,e,_⟩:=x;exact⟨_,e⟩
 |ins C dx fs=>obtain⟨_,_,_,e,_⟩:=x;exact⟨_,e⟩
 |own y=>obtain⟨_,e⟩:=x;exact⟨_,e⟩
 |xd fs=>obtain⟨_,⟨_,_,_,e,_⟩,_⟩:=x;exact⟨_,e⟩
 |rng lo hi=>obtain⟨_,_,_,e⟩:=x;exact⟨_,e⟩
 |frz ob u=>obtain⟨e,_⟩:=x;exact⟨_,e⟩
 |tbl ps=>exact⟨_,show h.get? a=some _ from x⟩
 |met f y=>exact⟨_,show h.get? a=some _ from x⟩
 |ext φ=>obtain⟨_,⟨_,e⟩,_⟩:=x;exact⟨_,e⟩
structure ExN(P:Program)(w:World)(outer:List Env)(H:Hp)(s:Shared)(ea C:Addr)(H':Hp)(s':Shared):Prop where
 os:s'.os=s.os
 bare:AllBare s'.gens
 un:Un (frs outer) [] H H' s.heap s'.heap
 hok:HOk P w H' s'.heap
 fly:∃B,FlyC B outer ea (.ref C) s'.heap/\∀b o,s'.heap.get? b=some o->((∃u,H' b=some u)\/∃u,s.heap.get? b=some u)->b∉frs outer->B.get? b=some o
def CXN(P:Program)(w:World):CXT:=λouter H s E e s'=>∃ea C H',e=.ref ea/\ExN P w outer H s ea C H' s'/\E (.ref C) none H'
section
variable{P:Program}{w:World}{K:qk}{mg:Str->Option Value}{base:Heap}{N:List Str}{qual:Str}{scope:Scope}{f:Addr}{cd:Value}{A:Around}{outer:List Env}{s0 s:Shared}{H0 H:Hp}{E:XK}{pins:List (Addr×Obj)}{Z:St}{e C:Addr}{args:List Value}{h':Heap}
def zc2(I:Inv (cxOf (CXN P w) P w K mg base N qual scope f cd A outer s0 H0 E) pins Z H s)(hx:Heap.MadeExcOf s.heap h' e (.ref C) args)(hE:E (.ref C) none H):(cxOf (CXN P w) P w K mg base N qual scope f cd A outer s0 H0 E).xe (.ref e) {s with heap:=h'}:=by
 have fr:=I.stack;have nex:∀{b:Addr},b∉([]:List Addr):=λz=>nomatch z;have neL:∀{b o},s0.heap.get? b=some o->b≠s0.heap.objs.size:=λe=>YAs (YAh e);have hin:∀env∈(cxOf (CXN P w) P w K mg base N qual scope f cd A outer s0 H0 E).stack,∀b,env.frame=some b->b∈frs (cxOf (CXN P w) P w K mg base N qual scope f cd A outer s0 H0 E).stack:=λenv he b hb=>YBk.mpr ⟨env,he,hb⟩;refine zns (h0:=s.heap) (base:=hideAll s.heap (frs (cxOf (CXN P w) P w K mg base N qual scope f cd A outer s0 H0 E).stack)) I.ok.frames rfl (λb o q=>of_hideAll _ q) (funFrames_hide fr hin) hx λh2 x1 x4=>?_;have sub:∀{b},b∉frs outer->b≠s0.heap.objs.size->b∉frs (cxOf (CXN P w) P w K mg base N qual scope f cd A outer s0 H0 E).stack:=λh1 h2 h3=>(YAv.mp (I.stkSub _ h3)).elim h2 h1;have keepB:∀{b o},s.heap.get? b=some o->b∉frs (cxOf (CXN P w) P w K mg base N qual scope f cd A outer s0 H0 E).stack->h2.get? b=some o:=λq n=>x1.1 _ _ (hideAll_get _ q n);have trk:∀{b u},H b=some u->b∉frs (cxOf (CXN P w) P w K mg base N qual scope f cd A outer s0 H0 E).stack:=λq z=>by rw[I.stkFree _ z]at q;cases q
 have slt:∀{b o},s.heap.get? b=some o->b∈frs outer->∃sl,h2.get? b=some {o with slots:=sl}:=λ{b o} q z=>by
  obtain⟨_,o',ho,hd⟩:=I.funs.mem z;rw[q]at ho;cases ho;exact x4 b o (hx.keeps b o q) hd
 refine⟨e,C,H,rfl,⟨I.os,I.bare,⟨λb o q n nf _=>keepB (I.base.keep b o q n nf nex) (sub nf (neL q)),λb o q n nf _=>?_,λb o q n _=>I.base.free b o q n nex,λb o q _=>?_,I.base.tups,I.base.frzs,I.base.tbls⟩,λa o q=>(I.hok a o q).stay (λb u hb q2=>keepB q2 ?_) (λ_ z=>z) λ_ _ z=>z,_,x1,λb o q hb nf=>?_⟩,hE⟩
 .obtain⟨sl,e1⟩:=I.base.slot b o q n nf nex;obtain⟨sl',e2⟩:=slt e1 nf;exact⟨sl',e2⟩
 .obtain⟨o',e1⟩:=I.base.there b o q nex;by_cases z:b∈frs outer
  .obtain⟨sl',e2⟩:=slt e1 z;exact⟨_,e2⟩
  .exact⟨_,keepB e1 (sub z (neL q))⟩
 .rcases hb with rfl|hb
  .exact trk q
  .exact trk hb
 .rcases hb with⟨u,hu⟩|⟨u,hu⟩
  .obtain⟨v,hv⟩:=(I.hok b u hu).ex
   have:=keepB hv (trk hu)
   rw[this]at q;cases q;exact hideAll_get _ hv (trk hu)
  .obtain⟨o',e1⟩:=I.base.there b u hu nex
   have:=keepB e1 (sub nf (neL hu))
   rw[this]at q;cases q;exact hideAll_get _ e1 (sub nf (neL hu))
end
abbrev Cx.sup(X:Cx)(ea:Addr)(oe:Obj)(E:Value->Shared->Prop):Cx:={X with A:=X.A.mark (some (.ref ea)),calm:=false,xe:=E,pn:=(ea,oe)::X.pn}
section
variable{X:Cx}{pins:List (Addr×Obj)}{Z:St}{H H':Hp}{s s':Shared}{ea C:Addr}{oe:Obj}{E:Value->Shared->Prop}
theorem Cx.Ok.sup(ok:X.Ok):(X.sup ea oe E).Ok:=
 ⟨ok.mod,ok.kind,ok.glob,ok.blt,ok.above,ok.inj,ok.has,ok.cab,(λz=>by cases z),ok.frames,ok.stk,ok.exf,ok.bs,ok.bsz,ok.noex,ok.exfs,ok.funs,ok.frf⟩
theorem Inv.sup(I:Inv X pins Z H s)(h1:s.heap.get? ea=some oe)(h2:H ea=none)(h3:ea≠X.env.locals)(h4:ea∉X.fs)(h5:∀v,oe.data≠.cell v):Inv (X.sup ea oe E) pins Z H s:=
 ⟨I.ok.sup,I.os,I.bare,I.base,I.loc,I.cell,I.free,I.freeC,λp hp=>by
  rcases YAv.mp hp with rfl|hp
  .exact⟨h1,h2,h3,h4,h5⟩
  .exact I.pin p hp,I.hok,I.len⟩
def Inv.unsup(I:Inv (X.sup ea oe E) pins Z H s)(ok:X.Ok):Inv X pins Z H s:=⟨ok,I.os,I.bare,I.base,I.loc,I.cell,I.free,I.freeC,λp hp=>I.pin p (YAj _ hp),I.hok,I.len⟩
def ExN.on(N:ExN P w outer H s ea C H' s')(hB:∀b o,s'.heap.get? b=some o->((∃u,H' b=some u)\/∃u,s.heap.get? b=some u)->b∉frs outer->B.get? b=some o)(ff:s'.heap.FunFrames B outer)(hf:∀b∈frs outer,H b=none)(st:B.StaysIn h')(sm:s'.heap.UpToSlots h')(fr:∀b∈frs outer,∃o,s.heap.get? b=some o) :
  Un (frs outer) [] H H' s.heap h'/\HOk P w H' h':=by
 have nex:∀{b:Addr},b∉([]:List Addr):=λz=>nomatch z;have slt:∀{b o},s'.heap.get? b=some o->b∈frs outer->∃sl,h'.get? b=some {o with slots:=sl}:=λ{b o} q z=>by
  obtain⟨_,o',ho,hd⟩:=ff.mem z;rw[q]at ho;cases ho;exact sm b o q hd
 have trk:∀{b u},H' b=some u->b∉frs outer:=λ{b u} q z=>by
  obtain⟨o,ho⟩:=fr b z;rw[N.un.free b o ho (hf b z) nex]at q;cases q
 refine⟨⟨λb o q n nf _=>st _ _ (hB b o (N.un.keep b o q n nf nex) (.inr ⟨_,q⟩) nf),λb o q n nf _=>?_,λb o q n _=>N.un.free b o q n nex,λb o q _=>?_,N.un.tups,N.un.frzs,N.un.tbls⟩,λa o q=>(N.hok a o q).stay (λb u hb q2=>?_) (λ_ z=>z) λ_ _ z=>z⟩
 .obtain⟨sl,e1⟩:=N.un.slot b o q n nf nex;obtain⟨sl',e2⟩:=slt e1 nf;exact⟨sl',e2⟩
 .obtain⟨o',e1⟩:=N.un.there b o q nex;by_cases z:b∈frs outer
  .obtain⟨sl',e2⟩:=slt e1 z;exact⟨_,e2⟩
  .exact⟨_,st _ _ (hB b o' e1 (.inr ⟨_,q⟩) z)⟩
 .have hu:∃v,H' b=some v:=by
   rcases hb with rfl|hb
   .exact⟨_,q⟩
   .exact⟨_,hb⟩
  obtain⟨v,hv⟩:=hu;exact st _ _ (hB b u q2 (.inl ⟨v,hv⟩) (trk hv))
def zsL{Q:Flow->Shared->Prop}{x n:Str}{D:Addr}{i:Nat}{b₀:Stmt}{suite:List Stmt}{pos np:Pos}{rest:List ExceptHandler}(I:Inv X pins Z H s)(hs:X.stack=X.env::X.outer)(hf:X.env.frame=some X.env.locals)(N:ExN X.prog X.w X.stack H s ea C H' s')(hg:Gl X x)(hm:X.mg x=some (.ref D))
  (he:exmOne X.K (.ref C) (.ref D)=some true) (hN:X.N.Nodup) (hi:X.N[i]?=some n) (hk:X.env.scope.names.lookup n=some .local)
  (k:∀oe s2,oe.cls=.ref C->(∃vs,oe.data=.fields vs/\vs[2]?=some Value.none)->Inv (X.sup ea oe λ_ _=>False) pins (Z.set i (some (.ref ea))) H' s2->wpAny (model X.prog X.w) (X.A.mark (some (.ref ea))) (execs (b₀::suite) X.env) (λf s₄=>wpAny (model X.prog X.w) X.A (do bindName X.env n .none;unbindBehindTheSuite X.env n pos) (λ_ s₅=>Q f s₅) E s₄) (λ_ _=>False) s2)
  (hd:(x==("__debug__":Str))=false:=by decide) :
  wpAny (model X.prog X.w) X.A (noteFrame (.ref ea) X.env) (λ_ s₂=>wpAny (model X.prog X.w) X.A (setFlight (.ref ea) none) (λ_ s₃=>wpAny (model X.prog X.w) X.A (handleBy (.ref ea) X.env (.ExceptHandler (some (.Name x np)) (some n) (b₀::suite) pos::rest)) Q E s₃) E s₂) E s':=by
 obtain⟨B,fl,hB⟩:=id N.fly;have fl':=fl;rw[hs]at fl';have hA:X.A.frames=some (X.env::X.outer):=by rw[<-hs];exact I.ok.frames
 have frx:∀b∈frs X.stack,∃o,s.heap.get? b=some o:=λb hb=>by
  obtain⟨_,o,ho,_⟩:=I.stack.mem hb;exact⟨o,ho⟩
 refine zmY hA hf fl' λh4 held sm4=>?_;refine zhA held λh5 fl5 sm5=>?_;have on5:=N.on hB fl.2.2.1 I.stkFree fl5.1 (sm4.trans sm5) frx;have I5:Inv X pins Z H' {s' with heap:=h5}:=I.call' (s':={s' with heap:=h5}) N.os on5.1 on5.2 N.bare λb z=>nomatch z;have sub:∀{b},b=X.env.locals\/b∈X.fs->b∈frs (X.env::X.outer):=λ{b} z=>by
  show b∈(X.env::X.outer).filterMap (·.frame);rw[YAV,hf];exact YAv.mpr z
 have apart:∀{h:Heap}{oe:Obj}{vs:Array Value},h.FunFrames B (X.env::X.outer)->h.get? ea=some oe->oe.data=.fields vs->∀{b},b=X.env.locals\/b∈X.fs->ea≠b:=λ{h oe vs} ff e1 e2 {b} z e3=>by
  obtain⟨_,o,ho,hd⟩:=ff.mem (sub z);rw[<-e3,e1]at ho;cases ho;exact hd _ e2
 have hea:H' ea=none:=by
  cases q:H' ea with
  |none=>rfl
  |some u=>
   obtain⟨v,hv⟩:=(N.hok ea u q).ex;obtain⟨oe,vs,e1,_,e3,_⟩:=fl'.first
   have nf:ea∉frs X.stack:=λz=>by
    rw[hs]at z;obtain⟨_,o,ho,hd⟩:=fl'.2.2.1.mem z;rw[e1]at ho;cases ho;exact hd _ e3
   have:=hB ea v hv (.inl ⟨u,q⟩) nf
   rw[fl.2.1]at this;cases this
 have sup:∀{h:Heap}{Z:St}{t:Nat},FlyC B (X.env::X.outer) ea (.ref C) h->Inv X pins Z H' {s' with heap:=h,toks:=t}->∃oe,(oe.cls=.ref C/\∃vs,oe.data=.fields vs/\vs[2]?=some Value.none)/\h.get? ea=some oe/\Inv (X.sup ea oe λ_ _=>False) pins Z H' {s' with heap:=h,toks:=t}:=λfl I=>by
  obtain⟨oe,vs,e1,e2,e3,e4⟩:=fl.first
  exact⟨oe,⟨e2,vs,e3,e4⟩,e1,I.sup e1 hea (apart fl.2.2.1 e1 e3 (.inl rfl)) (λz=>apart fl.2.2.1 e1 e3 (.inr z) rfl) λv q=>by rw[e3]at q;cases q⟩
 obtain⟨oe5,c5,g5,S5⟩:=sup fl5 I5;refine wpAny_handleBy_cons (codeAny_handlers_test (zd3 S5 hg hm ?_ hd)) (by intro q;cases q);refine(exm_one (M:=model X.prog X.w) I5.kIn (c5.1▸(Looks.ld g5).andThen .now) he).here (codeAny_handlers_suite_as ?_);refine zhA fl5 λh6 fl6 sm6=>?_;have on6:=N.on hB fl.2.2.1 I.stkFree fl6.1 ((sm4.trans sm5).trans sm6) frx;have I6:Inv X pins Z H' {s' with heap:=h6}:=I.call' (s':={s' with heap:=h6}) N.os on6.1 on6.2 N.bare λb z=>nomatch z;obtain⟨oe,c6,g6,S6⟩:=sup fl6 I6;refine zdx (X:=X.sup ea oe λ_ _=>False) S6 hN hi (.inl hk) (v:=.ref ea) rfl (λs7 I7=>?_) (.inr hk);exact YAT (k oe s7 c6.1 c6.2 I7) (λ_ _ z=>z) λ_ _ z=>z.elim
end
abbrev zfY:List Value:=[.type "ValueError",.type "Exception",.type "BaseException",.type "object"]
def ztV{K:qk}{h:Heap}{C:Addr}{bmB:List Value}{newId:String}(X:K.In h)(q:excIn K C bmB newId=true):∃bm N nm q bs hdct sn sub ab col dd k0 k1 k2 k3 k5 mN,h.get? C=some (excClassObj nm q C N bs bm hdct sn sub ab col dd k0 k1 k2 k3 k5 newId)/\h.Ns N mN/\mN "__init__"=none/\OwnTail h bmB bm:=by
 unfold excIn at q;split at q
 .rename_i dd cd sl ho
  split at q
  .rename_i C' bm k0 k1 k2 k3 n k5 hm hs
   simp only[YAA,YCf,Bool.not_eq_true']at q;obtain⟨⟨⟨⟨⟨rfl,rfl⟩,hdel⟩,ht⟩,hok⟩,hni⟩:=q;obtain⟨nm,bs,mro,ns,qn,hd,sn,sub,ab,col,del⟩:=cd;dsimp only at hm hdel hok hni;subst hm hdel;have hsl:sl=#[k0,k1,k2,k3,some (.builtin n),k5]:=by
    obtain⟨l⟩:=sl;simp only at hs;rw[hs]
   subst hsl;exact⟨bm,ns,nm,qn,bs,hd,sn,sub,ab,col,dd,k0,k1,k2,k3,k5,_,X _ _ ho,.of_isNs (isNs_of_in X hok),nsMap_none_of_in X hok hni,tail_of_in X ht⟩
  .cases q
 .cases q
section
variable{X:Cx}{pins:List (Addr×Obj)}{Z:St}{H:Hp}{s:Shared}
def zoW{x:Str}{C:Addr}{e:Expr}{es:List Expr}{t:TA}{np cpos pos:Pos}{Y:Ends->St->Hp->Prop}(hc:X.calm=true)(ho:excIn X.K C zfY "ValueError.__new__"=true)(hg:Gl X x)(hm:X.mg x=some (.ref C))(ha:PA X (e::es) t)
  (hx:∀pins s Z H h' ea us,Inv X pins Z H s->Heap.MadeExcOf s.heap h' ea (.ref C) us->∀D,Y D Z H->X.xe (.ref ea) {s with heap:=h'})
  (hd:(x==("__debug__":Str))=false:=by decide) (he:starEach (e::es) X.env=(false,eval e X.env)::starEach es X.env:=by rfl) (hpl:(backTo cpos (starEach es X.env)).any (·.1)=false:=by rfl) :
  PS X (.Raise (some (.Call (.Name x np) (e::es) [] cpos)) none pos) (λD Z H=>t Z H λvs H'=>vs.length<=sizeLine/\Y D Z H'):=by
 intro pins s Z H D I h;have hh:=I.ok.hd hc;obtain⟨bm,N,nm,q,bs,hdct,sn,sub,ab,col,dd,k0,k1,k2,k3,k5,mN,hC,hN,hni,T⟩:=ztV I.ok.mod.kin ho;refine wpAny_Raise_call_subT (C:=C) (nm:=nm) (q:=q) (N:=N) (bs:=bs) (bm:=bm) (hdct:=hdct) (sn:=sn) (sub:=sub) (ab:=ab) (col:=col) (dd:=dd) (k0:=k0) (k1:=k1) (k2:=k2) (k3:=k3) (k5:=k5) (mN:=mN) F.excBase_ValueError (T.hasType F.excBase_ValueError.hasBase) hh (by rw[he];show(false || (backTo cpos (starEach es X.env)).any (·.1))=false;rw[hpl];rfl) hni (zd3 I hg hm ⟨rfl,?_⟩ hd);have ha':=ha cpos pins s Z H _ I h;rw[he]at ha' ⊢;refine Calls.evalArgs_plain (YAT ha' (λus s2 ⟨vs,H2,I2,r2,z,q2⟩=>?_) λ_ _ y=>y);exact⟨rfl,by rw[<-r2.length];exact z,I2.bk _ _ hC,hN.keeps I2.bk,T.keeps I2.bk,λh' e hm'=>hx pins s2 Z H2 h' e us I2 hm' D q2⟩
theorem PA.nox(h:PA X.nox es t):PA X es t:=λpos pins s Z H Q I hw=>
 YAT (h pos pins s Z H Q (I.wish _) hw) (λ_ _ ⟨v,H',I',r,q⟩=>⟨v,H',I'.unwish,r,q⟩) λ_ _ z=>False.elim z
theorem PS.nox{st:Stmt}{t:TS}(h:PS X.nox st t):PS X st t:=λpins s Z H D I hw=>
 YAT (h pins s Z H D (I.wish _) hw) (λ_ _ q=>q.unwish) λ_ _ z=>False.elim z
end
end L2
namespace Fd
open PySem L2
abbrev FnX:=List D->(D->Prop)->(Str->Prop)->Prop
def upX(F:FnX):FnX:=λds Q Y=>∃(P:D->Prop)(qf:Str->Prop),F ds P qf/\(∀d,P d->Q d)/\∀n,qf n->Y n
def zee(F:FnX)(k:∀d,Q d->Q' d)(l:∀n,Y n->Y' n):upX F ds Q Y->upX F ds Q' Y':=λ⟨P,qf,h1,h2,h3⟩=>⟨P,qf,h1,λd z=>k d (h2 d z),λn z=>l n (h3 n z)⟩
noncomputable def spDX(K:qk)(mg:Str->Option Value)(n:Nat)(F:FnX):Sp:=λvs H Q E=>∃ β G ds,Same G H/\BoxD β H G/\Reps ⟨K,β,λ_=>none,G,True⟩ G ds vs/\vs.length=n/\upX F ds (λd=>∀v H' G',Stp β H G H' G'->Rep ⟨K,β,H,G,True⟩ G' d v->Q v H') λnm=>∀C H' G',mg nm=some (.ref C)->Stp β H G H' G'->E (.ref C) none H'
def fnWX(n:Nat)(B:(Str->Prop)->WS):FnX:=λds Q Y=>B Y {nx:=λ_=>Q .non,rt:=Q,bk:=λ_=>False,ct:=λ_=>False} (zaI n ds)
def zed(F:Fun K x qual st f fd)
  (hB:∀{cdv:Value}{A:Around}{outer:List PySem.Env}{s:Shared}{H:Hp}{E:XK}{β:Addr}{G:Hp}(Y:Str->Prop),(∀nm C H' G',Y nm->mg nm=some (.ref C)->Stp β H G H' G'->E (.ref C) none H')->N.Nodup->Room k (A.deeper (PyProof.Rows.envOfC qual (zao st) s.heap.objs.size f cdv)) ->
   DSs (cxOf (CXN P w) P w K mg base N qual (zao st) f cdv A outer s H E) ⟨K,β,H,G,True⟩ (zbe st) (B Y)) (qj:FnScope N ps (zao st):=by exact⟨rfl,rfl,rfl,by decide +kernel,rfl,by decide +kernel,by decide +kernel⟩):FnOk P w K mg base (CXN P w) (k+1) f fd ps (spDX K mg ps.length (fnWX N.length B)):=by
 obtain⟨oc,od,kV,doc,pm,an,cdv,ct,osl,rfl,lk,hcd⟩:=F.ex;refine zq9 lk hcd qj (λvs H Q E ⟨β,G,ds,_,_,_,h,_⟩=>h) λA outer s H vs Q E hr ⟨β,G,ds,gh,bx,hv,hl,P',qf,q,hP,hZ⟩=>?_;have h:=@hB cdv A outer s H E β G qf (λnm C H' G' z hm t=>hZ nm z C H' G' hm t) qj.nd hr;refine⟨_,h.pss,zaI N.length ds,G,zdh gh bx hv,h.mono {nx:=λ_=>P' .non,rt:=P',bk:=λ_=>False,ct:=λ_=>False} _ _ ⟨λS z Z H' G' r s'=>hP _ z .non H' G' r.stp rfl,λd z v H' G' t e=>hP _ z v H' G' t e,λS z=>z.elim,λS z=>z.elim⟩ q⟩
structure CalX(P:Program)(w:World)(K:qk)(mg:Str->Option Value)(base:Heap)(x:Str)(k:Nat)(ps:List Str)(sp:Sp):Prop where
 ex:∃f fd,FnOk P w K mg base (CXN P w) k f fd ps sp/\mg x=some (.ref f)/\PySem.W.keepIn K (.ref f)=true/\Binds K fd ps []
def CalX.of(F:Fun K x qual st f fd)(G:FnOk P w K mg base (CXN P w) k f fd ps sp)(hm:mg x=some (.ref f))(hb:Binds K fd ps []):CalX P w K mg base x k ps sp:=
 ⟨f,fd,G,hm,F.kp,hb⟩
section
variable{X:Cx}{c:Bk}{st:Stmt}{e:Expr}{es:List Expr}{pos cpos p np:Pos}
theorem DS.nox(h:DS X.nox c st W):DS X c st W:=⟨h.mono,h.ps.nox⟩
theorem DE.nox(h:DE X.nox c e W):DE X c e W:=⟨h.mono,h.pe.nox⟩
theorem DT.nox(h:DT X.nox c e W):DT X c e W:=⟨h.mono,h.pt.nox⟩
@[reducible] def rzW(R:WL)(y:Prop):WS:=λ_ S=>R S λds=>ds.length<=1000/\y
def zbW(hR:DA X.nox c (e::es) R)(hx:∀pins s Z H G h' ea us,Inv X pins Z H s->Stp c.β c.H0 c.G0 H G->Heap.MadeExcOf s.heap h' ea (.ref C) us->y->X.xe (.ref ea) {s with heap:=h'})(ho:PySem.W.excIn X.K C zfY "ValueError.__new__"=true)(hm:X.mg x=some (.ref C))(hc:X.calm=true:=by rfl)(hg:Gl X x:=by rfl)
  (hd:(x==("__debug__":Str))=false:=by decide) (he:starEach (e::es) X.env=(false,eval e X.env)::starEach es X.env:=by rfl) (hpl:(backTo cpos (starEach es X.env)).any (·.1)=false:=by rfl):DS X c (.Raise (some (.Call (.Name x np) (e::es) [] cpos)) none pos) (rzW R y)where
 mono:=λE E' S l q=>q
 ps:=zbj (zoW (Y:=λ_ Z H=>y/\∃G,Stp c.β c.H0 c.G0 H G) hc ho hg hm (PA.nox hR.pa) (λpins s Z H h' ea us I m _ ⟨z,G,t⟩=>hx pins s Z H G h' ea us I t m z) hd he hpl) λD Z H ⟨S,G,r,q⟩=>⟨S,G,r,hR.mono S _ _ (λds z vs H' G' t v=>⟨by rw[<-v.length,YAX];have:=z.1;omega,z.2,G',r.stp.trans t⟩) q⟩
def Rel.unput(r:Rel c S Z H G):Rel c (S.set i .un) (Z.set i o) H G:=by
 refine⟨by simp[r.len],r.stp,λj s e=>?_,λj k a xs ys e1 e2 e3 e4=>?_,r.kn⟩
 .by_cases z:i=j
  .subst z;have hi:i<S.length:=by have:=(YAe.mp e).1;simpa using this
   rw[YAi hi]at e;cases e
   trivial
  .rw[YAl z]at e ⊢;exact r.slot j s e
 .have nn:∀{j:Nat}{xs},(S.set i .un)[j]?=some (.own xs)->i≠j:=λe z=>by
   subst z;have hi:i<S.length:=by have:=(YAe.mp e).1;simpa using this
   rw[YAi hi]at e;cases e
  have nj:=nn e1;have nk:=nn e2;rw[YAl nj]at e1 e3;rw[YAl nk]at e2 e4;exact r.dis j k a xs ys e1 e2 e3 e4
end
end Fd
namespace L2
open PySem PySem.Spec PyProof.Rows
section
variable{X:Cx}
def ztx:R2:=λx y H Q=>∃(z:Str)(k:Int),x=.str z/\y=.int k/\2<=k/\k<=100/\z.length<=1000/\∀u:Str,u.length<=k.toNat*z.length->(∀ch∈u.cps.toList,ch∈z.cps.toList)->Q (.str u) H
theorem zla(its:Array Nat):∀(k:Nat)(acc:Array Nat),(List.foldl (λx1 x2=>x1++x2) acc (List.replicate k its)).size=acc.size+k*its.size/\∀ch∈(List.foldl (λx1 x2=>x1++x2) acc (List.replicate k its)).toList,ch∈acc.toList\/ch∈its.toList
 |0,acc=>⟨by simp,λch h=>.inl h⟩
 |k+1,acc=>by
  rw[YA8,List.foldl_cons];obtain⟨h1,h2⟩:=zla its k (acc++its);refine⟨by rw[h1,Array.size_append,Nat.succ_mul];omega,λch hc=>?_⟩;rcases h2 ch hc with z|z
  .rw[Array.toList_append]at z;exact YAG.mp z
  .exact .inr z
def zsn:OpR X (binaryOp .Mult) ztx:=by
 intro pins s Z H x y v u Q I rx ry h;obtain⟨z,k,rfl,rfl,h2,h3,hz,q⟩:=h;obtain⟨t,rfl⟩:=rx;obtain⟨t',rfl⟩:=ry;have hkl:z.length*k.toNat<=100000:=YCN hz (show k.toNat<=100 by omega);obtain⟨f1,f2⟩:=zla z.cps k.toNat #[];refine PySem.P.mul_str (by rw[YAp (by omega),YAp (by omega)];rfl) (λ_ _=>?_) (λ_ _=>?_) ?_
 .have:(1000:Int)<=(2^63-1) / k:=Int.le_ediv_of_mul_le (by omega) (by omega)
  omega
 .exact YAp (by rw[YAX];omega)
 .rw[if_neg (by omega)];split
  .exact⟨.str z,H,I,⟨t,rfl⟩,q z (Nat.le_mul_of_pos_left _ (show 0<k.toNat by omega)) λ_ h=>h⟩
  .have hl:(⟨(List.replicate k.toNat z.cps).foldl (·++·) #[]⟩:Str).length=k.toNat*z.length:=by
    show Array.size _=_;rw[f1];simp;rfl
   refine⟨by rw[hl,Nat.mul_comm,YAX];omega,.str _,H,I.tok _,⟨_,rfl⟩,q _ (Nat.le_of_eq hl) λch hc=>(f2 ch hc).elim (λz=>by simp at z) id⟩
end
end L2
namespace Fd
open PySem L2
section
variable{X:Cx}{c:Bk}
def zmN:F2:=λx y Q=>match x,y with
 |.str z,.int k=>(2<=k/\k<=100/\z.length<=1000)/\∀u:Str,u.length<=k.toNat*z.length->(∀ch∈u.cps.toList,ch∈z.cps.toList)->Q (.str u)
 |x,y=>mulD x y Q
def ztS:zbi zmN:=λx y Q Q' k q=>by
 unfold zmN at q ⊢;split at q
 .exact⟨q.1,λu h1 h2=>k _ (q.2 u h1 h2)⟩
 .exact zuN _ _ _ _ k q
def zra:OpD c zmN (λx y H Q=>ztB x y H Q\/ztx x y H Q):=λH G x y u v Q gh bx h0 rx ry q=>by
 unfold zmN at q;split at q
 .cases rx;cases ry;exact .inr ⟨_,_,rfl,rfl,q.1.1,q.1.2.1,q.1.2.2,λu h1 h2=>q.2 u h1 h2 _ H G (Stp.refl gh bx) rfl⟩
 .exact .inl (zqB H G _ _ u v Q gh bx h0 rx ry q)
def zui(hA:DE X c a A)(hB:DE X c b B):DE X c (.BinOp a .Mult b pos) (binW zmN A B):=zmJ ztS ((op_mul.or zqL).or zsn) zra hA hB
end
def zcn:Fn:=fnW 1 ((retW (andW (zd9 leD leD (kW (.int 1)) (cbW zbd (zaa (vW 0) nilA)) (kW (.int 8))) (cbW allF (zaa (valW (zaF [none] (zbC (vW 0)) (.nm 0) noIf (binW (inXD false) (vW 0) (kW (.str "abcdefghijklmnopqrstuvwxyz"))))) nilA)))))
structure Ob where
 C:Addr
 fs:List (Str×List D)
abbrev Sto:=Addr->Option Ob
def upS(qj:Sto)(p:Addr)(o:Ob):Sto:=λa=>if a=p then some o else qj a
def zbg:upS qj p o p=some o:=by unfold upS;rw[if_pos rfl]
def zdj(h:q≠p):upS qj p o q=qj q:=by unfold upS;rw[if_neg h]
abbrev nub(K:qk)(β:Addr)(G:Hp):Bk:=⟨K,β,λ_=>none,G,True⟩
def kvF(fs:List (Str×List D))(as:List Addr):List (Str×V):=(fs.zip as).map λp=>(p.1.1,V.ref p.2)
structure Kn(K:qk)(β:Addr)(G:Hp)(qj:Sto)(M:Hp)(ad:Addr->List Addr):Prop where
 obj:∀p o,qj p=some o->∃dx,M p=some (.ins o.C dx (kvF o.fs (ad p)))/\(ad p).length=o.fs.length
 lst:∀p o (i:Nat) a x,qj p=some o->(ad p)[i]?=some a->o.fs[i]?=some x->∃vs,M a=some (.lst vs)/\Reps (nub K β G) G x.2 vs
 dis:∀p q (i j:Nat) a,qj p≠none->qj q≠none->(ad p)[i]?=some a->(ad q)[j]?=some a->p=q/\i=j
 kin:∀a o,M a=some o->¬ ze1 o
 ap:∀a,M a≠none->G a=none/\a≠β
theorem Kn.mono(k:Kn K β G qj M ad)(s:Same G G')(h:∀a,M a≠none->G' a=none):Kn K β G' qj M ad:=
 ⟨k.obj,λp o i a x h1 h2 h3=>(k.lst p o i a x h1 h2 h3).imp λvs z=>⟨z.1,Reps.back (c':=nub K β G) (c:=nub K β G') rfl rfl (λ_ e=>e) (z.2.mono s)⟩,k.dis,k.kin,λa z=>⟨h a z,(k.ap a z).2⟩⟩
def ov(B M:Hp):Hp:=λa=>match M a with|some o=>some o|none=>B a
def zf0(h:M a=some o):ov B M a=some o:=by unfold ov;rw[h]
def zcS(h:M a=none):ov B M a=B a:=by unfold ov;rw[h]
def ov_none:ov B M a=none↔M a=none/\B a=none:=by
 unfold ov;cases M a with
 |none=>simp
 |some o=>simp
def Dm(M M':Hp):Prop:=∀a,M a≠none->M' a≠none
def Dm.refl(M:Hp):Dm M M:=λ_ h=>h
def Dm.trans(h:Dm A B)(k:Dm B C):Dm A C:=λa z=>k a (h a z)
structure Bo where
 K:qk
 β:Addr
 H0:Hp
 G0:Hp
 M0:Hp
def reB(b:Bo)(qj:Sto)(M G:Hp):Bk:=⟨b.K,b.β,ov b.H0 M,G,∃ad,Kn b.K b.β G qj M ad⟩
mutual
theorem Rep.reb(hk:c'.K=c.K)(hb:c'.β=c.β)(hn:∀a,G a≠none->c'.H0 a=none->c.H0 a=none):∀{d:D}{v:V},Rep c' G d v->Rep c G d v
 |.non,_,h=>h
 |.bl _,_,h=>h
 |.int _,_,h=>h
 |.str _,_,h=>h
 |.box,_,h=>by show _=V.ref c.β;rw[<-hb];exact h
 |.obj _,_,h=>h
 |.dct n ks xs,_,⟨a,vs,h1,h2,h4,h5,h3⟩=>⟨a,vs,h1,h2,λz=>hn a (by rw[h2];simp) (h4 z),h5,Reps.reb hk hb hn h3⟩
 |.fdc ks xs,_,⟨a,vs,o,h1,h2,h5,h3⟩=>⟨a,vs,o,h1,h2,h5,Reps.reb hk hb hn h3⟩
 |.tup xs,_,⟨a,vs,h1,h2,h3⟩=>⟨a,vs,h1,hk▸h2,Reps.reb hk hb hn h3⟩
 |.lst n xs,_,⟨a,vs,h1,h2,h4,h3⟩=>⟨a,vs,h1,h2,λz=>hn a (by rw[h2];simp) (h4 z),Reps.reb hk hb hn h3⟩
theorem Reps.reb(hk:c'.K=c.K)(hb:c'.β=c.β)(hn:∀a,G a≠none->c'.H0 a=none->c.H0 a=none):∀{ds:List D}{vs:List V},Reps c' G ds vs->Reps c G ds vs
 |[],_,h=>h
 |_::_,_,⟨v,ws,h1,h2,h3⟩=>⟨v,ws,h1,Rep.reb hk hb hn h2,Reps.reb hk hb hn h3⟩
end
structure Eff(β:Addr)(M M' H G H' G':Hp):Prop where
 gg:Same G G'
 gh:Same G' H'
 fr:∀a o,a≠β->M a=none->H a=some o->H' a=some o
 mh:∀a o,M' a=some o->H' a=some o
 mn:∀a,M' a≠none->M a≠none\/H a=none
 mg:∀a,M' a≠none->G' a=none/\a≠β
 nw:∀a,G' a≠none->G a≠none\/H a=none\/∃o,H a=some o/\ze1 o
 bx:BoxD β H' G'
 bc:∀cc p r d,H β=some (boxO cc p r d)->∃p r d,H' β=some (boxO cc p r d)
 dm:Dm M M'
structure Out(b:Bo)(M G1:Hp):Prop where
 mb:∀a,M a≠none->b.H0 a=none/\b.G0 a=none/\a≠b.β
 gg:Same b.G0 G1
 nw:∀a,G1 a≠none->b.G0 a≠none\/b.H0 a=none\/∃o,b.H0 a=some o/\ze1 o
 g0:Same b.G0 b.H0
 dm:Dm b.M0 M
def Rel.eff(r:Rel (reB b qj M G1) S Z H G)(hM:∀a,M a≠none->b.H0 a=none/\a≠b.β)(e:Eff b.β M M' H G H' G')(kn:∃ad,Kn b.K b.β G' qi M' ad):Rel (reB b qi M' G') S Z H' G':=by
 have base:∀a o,b.H0 a=some o->M a=none:=λa o h=>by
  cases z:M a with
  |none=>rfl
  |some u=>have:=(hM a (by rw[z];simp)).1;rw[h]at this;cases this
 have mβ:M' b.β=none:=by
  cases z:M' b.β with
  |none=>rfl
  |some u=>exact absurd rfl (e.mg _ (by rw[z];simp)).2
 have m0:M b.β=none:=by
  cases z:M b.β with
  |none=>rfl
  |some u=>exact absurd rfl (hM _ (by rw[z];simp)).2
 refine⟨r.len,⟨Same.refl _,e.gh,λa o n h=>?_,λa z=>.inl z,e.bx,?_,?_⟩,λi s h=>?_,r.dis,kn⟩
 .cases z:M' a with
  |some u=>rw[show(reB b qi M' G').H0 a=some u from zf0 z]at h;cases h;exact e.mh a _ z
  |none=>
   rw[show(reB b qi M' G').H0 a=b.H0 a from zcS z]at h;have z':=base a o h;exact e.fr a o n z' (r.stp.fr a o n ((zcS z').trans h))
 .intro z;exact r.stp.b0 ((zcS m0).trans ((zcS mβ).symm.trans z))
 .intro cc p q d h;obtain⟨p1,q1,d1,h1⟩:=r.stp.bc cc p q d ((zcS m0).trans ((zcS mβ).symm.trans h));exact e.bc cc p1 q1 d1 h1
 .have q:=r.slot i s h;cases s with
  |un=>trivial
  |val d=>
   obtain⟨v,h1,h2⟩:=q;refine⟨v,h1,(Rep.reb (c:=reB b qi M' G') (c':=reB b qj M G1) rfl rfl (λa ga z=>?_) h2).mono e.gg⟩;obtain⟨z1,z2⟩:=ov_none.mp z;refine ov_none.mpr ⟨?_,z2⟩;cases y:M' a with
   |none=>rfl
   |some u=>
    have:=(e.mg a (by rw[y];simp)).1
    cases w:G a with
    |none=>exact absurd w ga
    |some o=>rw[e.gg a o w]at this;cases this
  |own xs=>
   obtain⟨a,vs,h1,h2,h3,h4,h5,h6⟩:=q;obtain⟨z1,z2⟩:=ov_none.mp h4;have m':M' a=none:=by
    cases y:M' a with
    |none=>rfl
    |some u=>
     rcases e.mn a (by rw[y];simp)with w|w
     .exact absurd z1 w
     .rw[h2]at w;cases w
   have h4':(reB b qi M' G').H0 a=none:=ov_none.mpr ⟨m',z2⟩;refine⟨a,vs,h1,e.fr a _ h5 z1 h2,?_,h4',h5,(Reps.reb (c:=reB b qi M' G') (c':=reB b qj M G1) rfl rfl (λa ga z=>?_) h6).mono e.gg⟩
   .cases y:G' a with
    |none=>rfl
    |some o=>
     rcases e.nw a (by rw[y];simp)with w|w|⟨u,w,st⟩
     .exact absurd h3 w
     .rw[h2]at w;cases w
     .rw[h2]at w;cases w;exact st.elim
   .obtain⟨z1,z2⟩:=ov_none.mp z;refine ov_none.mpr ⟨?_,z2⟩;cases y:M' a with
    |none=>rfl
    |some u=>
     have:=(e.mg a (by rw[y];simp)).1
     cases w:G a with
     |none=>exact absurd w ga
     |some o=>rw[e.gg a o w]at this;cases this
  |dic ks xs=>
   obtain⟨a,vs,h1,h2,h3,h4,h5,h6,h7⟩:=q;obtain⟨z1,z2⟩:=ov_none.mp h4;have m':M' a=none:=by
    cases y:M' a with
    |none=>rfl
    |some u=>
     rcases e.mn a (by rw[y];simp)with w|w
     .exact absurd z1 w
     .rw[h2]at w;cases w
   have h4':(reB b qi M' G').H0 a=none:=ov_none.mpr ⟨m',z2⟩;refine⟨a,vs,h1,e.fr a _ h5 z1 h2,?_,h4',h5,(Reps.reb (c:=reB b qi M' G') (c':=reB b qj M G1) rfl rfl (λa ga z=>?_) h6).mono e.gg,h7⟩
   .cases y:G' a with
    |none=>rfl
    |some o=>
     rcases e.nw a (by rw[y];simp)with w|w|⟨u,w,st⟩
     .exact absurd h3 w
     .rw[h2]at w;cases w
     .rw[h2]at w;cases w;exact st.elim
   .obtain⟨z1,z2⟩:=ov_none.mp z;refine ov_none.mpr ⟨?_,z2⟩;cases y:M' a with
    |none=>rfl
    |some u=>
     have:=(e.mg a (by rw[y];simp)).1
     cases w:G a with
     |none=>exact absurd w ga
     |some o=>rw[e.gg a o w]at this;cases this
def Out.eff(o:Out b M G1)(r:Rel (reB b qj M G1) S Z H G)(e:Eff b.β M M' H G H' G'):Out b M' G':=by
 have fresh:∀a,H a=none->b.H0 a=none:=λa h=>(ov_none.mp (r.stp.free h)).2;have keep:∀a u,a≠b.β->b.H0 a=some u->H a=some u:=λa u n h=>r.stp.fr a u n ((zcS (by
  cases z:M a with
  |none=>rfl
  |some w=>have:=(o.mb a (by rw[z];simp)).1;rw[h]at this;cases this)).trans h)
 have nwG:∀a,G a≠none->b.G0 a≠none\/b.H0 a=none\/∃u,b.H0 a=some u/\ze1 u:=λa z=>by
  rcases r.stp.nw a z with w|w|⟨u,w,st⟩
  .exact o.nw a w
  .exact .inr (.inl (ov_none.mp w).2)
  .cases y:M a with
   |none=>exact .inr (.inr ⟨u,(zcS y).symm.trans w,st⟩)
   |some x=>exact .inr (.inl (o.mb a (by rw[y];simp)).1)
 refine⟨λa z=>?_,o.gg.trans (r.stp.gg.trans e.gg),λa z=>?_,o.g0,o.dm.trans e.dm⟩
 .have h0:b.H0 a=none:=by
   rcases e.mn a z with w|w
   .exact(o.mb a w).1
   .exact fresh a w
  exact⟨h0,o.g0.free h0,(e.mg a z).2⟩
 .rcases e.nw a z with w|w|⟨u,w,st⟩
  .exact nwG a w
  .exact .inr (.inl (fresh a w))
  .cases y:b.H0 a with
   |none=>exact .inr (.inl rfl)
   |some x=>
    by_cases n:a=b.β
    .subst n;obtain⟨cc,p,q,d,ns,hb,_⟩:=r.bx.ex;rw[show(reB b qj M G1).β=b.β from rfl]at hb;rw[hb]at w;cases w;exact st.elim
    .have:=keep a x n y
     rw[w]at this;cases this;exact .inr (.inr ⟨u,rfl,st⟩)
def Out.stp(o:Out b M G1)(kin:∀a u,M a=some u->¬ ze1 u)(t:Stp b.β (ov b.H0 M) G1 H G):Stp b.β b.H0 b.G0 H G:=by
 have out:∀a u,b.H0 a=some u->M a=none:=λa u h=>by
  cases z:M a with
  |none=>rfl
  |some w=>have:=(o.mb a (by rw[z];simp)).1;rw[h]at this;cases this
 have m0:M b.β=none:=by
  cases z:M b.β with
  |none=>rfl
  |some u=>exact absurd rfl (o.mb _ (by rw[z];simp)).2.2
 refine⟨o.gg.trans t.gg,t.gh,λa u n h=>t.fr a u n ((zcS (out a u h)).trans h),λa z=>?_,t.bx,λz=>t.b0 ((zcS m0).trans z),λcc p q d h=>t.bc cc p q d ((zcS m0).trans h)⟩;rcases t.nw a z with w|w|⟨u,w,st⟩
 .exact o.nw a w
 .exact .inr (.inl (ov_none.mp w).2)
 .cases y:M a with
  |none=>exact .inr (.inr ⟨u,(zcS y).symm.trans w,st⟩)
  |some x=>exact .inr (.inl (o.mb a (by rw[y];simp)).1)
def Out.apart{b:Bo}{M G1 H G:Hp}(kin:∀a u,M a=some u->¬ ze1 u)(h1:∀a,M a≠none->G1 a=none)(t:Stp b.β (ov b.H0 M) G1 H G)(a:Addr)(h:M a≠none):G a=none:=by
 cases z:G a with
 |none=>rfl
 |some u=>
  cases y:M a with
  |none=>exact absurd y h
  |some x=>
   rcases t.nw a (by rw[z];simp)with w|w|⟨v,w,st⟩
   .exact absurd (h1 a h) w
   .rw[show ov b.H0 M a=some x from zf0 y]at w;cases w
   .rw[show ov b.H0 M a=some x from zf0 y]at w;cases w;exact absurd st (kin a _ y)
structure EnF where
 nx:Sto->Env->Prop
 rt:Sto->D->Prop
 bk:Sto->Env->Prop
 ct:Sto->Env->Prop
abbrev WF:=EnF->Sto->Env->Prop
structure EnF.Le(E E':EnF):Prop where
 nx:∀qj S,E.nx qj S->E'.nx qj S
 rt:∀qj d,E.rt qj d->E'.rt qj d
 bk:∀qj S,E.bk qj S->E'.bk qj S
 ct:∀qj S,E.ct qj S->E'.ct qj S
def zpY(W:WF):Prop:=∀E E' qj S,EnF.Le E E'->W E qj S->W E' qj S
def RelF(b:Bo)(qj:Sto)(M:Hp)(S:Env)(Z:St)(H G:Hp):Prop:=∃G1,Out b M G1/\Rel (reB b qj M G1) S Z H G
noncomputable def zfB(b:Bo)(G M:Hp)(Ds:Ends):EnF where
 nx:=λqj S=>∀ Z H' G' M',RelF b qj M' S Z H' G'->Same G G'->Dm M M'->Ds.nx Z H'
 rt:=λqj d=>∀v H' G' M' G1,(∃ad,Kn b.K b.β G1 qj M' ad)->Out b M' G1->Stp b.β (ov b.H0 M') G1 H' G'->Dm M M'->Rep (reB b qj M' G1) G' d v->Ds.rt v H'
 bk:=λqj S=>∀ Z H' G' M',RelF b qj M' S Z H' G'->Same G G'->Dm M M'->Ds.bk Z H'
 ct:=λqj S=>∀ Z H' G' M',RelF b qj M' S Z H' G'->Same G G'->Dm M M'->Ds.ct Z H'
def zep{b:Bo}{G G1 M M1:Hp}{Ds:Ends}(s:Same G G1)(m:Dm M M1):EnF.Le (zfB b G M Ds) (zfB b G1 M1 Ds):=
 ⟨λqj S h Z H' G' M' r s' m'=>h Z H' G' M' r (s.trans s') (m.trans m'),λqj d h v H' G' M' G2 k o t m' e=>h v H' G' M' G2 k o t (m.trans m') e,λqj S h Z H' G' M' r s' m'=>h Z H' G' M' r (s.trans s') (m.trans m'),λqj S h Z H' G' M' r s' m'=>h Z H' G' M' r (s.trans s') (m.trans m')⟩
def tOS(b:Bo)(W:WF):TS:=λDs Z H=>∃ S G qj M,RelF b qj M S Z H G/\W (zfB b G M Ds) qj S
structure OS(X:Cx)(b:Bo)(st:Stmt)(W:WF):Prop where
 mono:zpY W
 ps:PS X st (tOS b W)
structure OSs(X:Cx)(b:Bo)(sts:List Stmt)(W:WF):Prop where
 mono:zpY W
 pss:PSs X sts (tOS b W)
section
variable{X:Cx}{b:Bo}{st:Stmt}{rest:List Stmt}{pos p p':Pos}{e:Expr}
@[reducible] def atS(E:EnF)(qj:Sto):En:=⟨E.nx qj,E.rt qj,E.bk qj,E.ct qj⟩
@[reducible] def zbJ(W:Sto->WS):WF:=λE qj S=>W qj (atS E qj) S
def zrT{G M G1:Hp}{qj:Sto}{D:Ends}(k:∃ad,Kn b.K b.β G1 qj M ad)(o:Out b M G1):En.Le (atS (zfB b G M D) qj) (ends (reB b qj M G1) G D):=
 ⟨λS z Z H' G' r s=>z Z H' G' M ⟨G1,o,r⟩ s (Dm.refl M),λd z v H' G' t e=>z v H' G' M G1 k o t (Dm.refl M) e,λS z Z H' G' r s=>z Z H' G' M ⟨G1,o,r⟩ s (Dm.refl M),λS z Z H' G' r s=>z Z H' G' M ⟨G1,o,r⟩ s (Dm.refl M)⟩
def zaQ(h:∀qj M G1,DS X (reB b qj M G1) st (W qj)):OS X b st (zbJ W)where
 mono:=λE E' qj S l q=>(h qj (λ_=>none) (λ_=>none)).mono (atS E qj) (atS E' qj) S ⟨l.nx qj,l.rt qj,l.bk qj,l.ct qj⟩ q
 ps:=λpins s Z H D I ⟨S,G,qj,M,⟨G1,o,r⟩,q⟩=>(h qj M G1).ps pins s Z H D I ⟨S,G,r,(h qj M G1).mono _ _ S (zrT r.kn o) q⟩
@[reducible] def nilF:WF:=λE qj S=>E.nx qj S
@[reducible] def seqF(A B:WF):WF:=λE qj S=>A {E with nx:=B E} qj S
def zhv:OSs X b [] nilF:=⟨λE E' qj S l q=>l.nx qj S q,zfu zgL λD Z H ⟨S,G,qj,M,r,q⟩=>q Z H G M r (Same.refl _) (Dm.refl M)⟩
def zaA(h1:OS X b st A)(h2:OSs X b rest B):OSs X b (st::rest) (seqF A B)where
 mono:=λE E' qj S l q=>h1.mono {E with nx:=B E} _ qj S ⟨λqi S' z=>h2.mono _ _ qi S' l z,l.rt,l.bk,l.ct⟩ q
 pss:=zfu (zaY h1.ps h2.pss) λD Z H ⟨S,G,qj,M,r,q⟩=>⟨S,G,qj,M,r,h1.mono {zfB b G M D with nx:=B (zfB b G M D)} _ qj S ⟨λqi S' z Z' H' G' M' r' s' m'=>⟨S',G',qi,M',r',h2.mono _ _ qi S' (zep s' m') z⟩,λqi d z=>z,λqi S' z=>z,λqi S' z=>z⟩ q⟩
def zct(h1:OS X b st A):OSs X b [st] A:=⟨h1.mono,zd1 h1.ps⟩
@[reducible] def ifF(C:Sto->WT)(A B:WF):WF:=λE qj S=>C qj S λt=>if t=true then A E qj S else B E qj S
def zqg(hC:∀qj M G1,DT X (reB b qj M G1) e (C qj))(hA:OSs X b x A)(hB:OSs X b y B):OS X b (.If e x y pos) (ifF C A B)where
 mono:=λE E' qj S l q=>(hC qj (λ_=>none) (λ_=>none)).mono S _ _ (λt z=>by
  cases t
  .exact hB.mono _ _ qj S l z
  .exact hA.mono _ _ qj S l z) q
 ps:=λpins s Z H D I ⟨S,G,qj,M,⟨G1,o,r⟩,q⟩=>zmI (hC qj M G1).pt hA.pss hB.pss pins s Z H D I ⟨S,G,r,(hC qj M G1).mono S _ _ (λt z H' G' t1=>by
  cases t
  .exact⟨S,G',qj,M,⟨G1,o,r.step t1⟩,hB.mono _ _ qj S (zep t1.gg (Dm.refl M)) z⟩
  .exact⟨S,G',qj,M,⟨G1,o,r.step t1⟩,hA.mono _ _ qj S (zep t1.gg (Dm.refl M)) z⟩) q⟩
end
def zeI(t:Tg)(B:WF)(E:EnF):List D->Sto->Env->Prop
 |[],qj,S=>E.nx qj S
 |x::xs,qj,S=>gD t x S λS'=>B {nx:=zeI t B E xs,ct:=zeI t B E xs,bk:=E.nx,rt:=E.rt} qj S'
@[reducible] def forF(I:Sto->WL)(t:Tg)(B:WF):WF:=λE qj S=>I qj S λxs=>zeI t B E xs qj S
theorem zfp(mB:zpY B)(l:EnF.Le E E'):∀(xs:List D)(qj:Sto)(S:Env),zeI t B E xs qj S->zeI t B E' xs qj S
 |[],qj,S,q=>l.nx qj S q
 |x::xs,qj,S,q=>zb8 t x S (λS' z=>mB {nx:=zeI t B E xs,ct:=zeI t B E xs,bk:=E.nx,rt:=E.rt} _ qj S' ⟨λqj S z=>zfp mB l xs qj S z,l.rt,l.nx,λqj S z=>zfp mB l xs qj S z⟩ z) q
def Rep.carry(e:Rep (reB b qj M Ga) G d v)(s:Same G G')(h:∀a,M' a≠none->G' a=none):Rep (reB b qi M' Gb) G' d v:=
 (Rep.reb (c:=reB b qi M' Gb) (c':=reB b qj M Ga) rfl rfl (λa ga z=>by
  obtain⟨z1,z2⟩:=ov_none.mp z;refine ov_none.mpr ⟨?_,z2⟩;cases y:M' a with
  |none=>rfl
  |some u=>
   have:=h a (by rw[y];simp)
   cases w:G a with
   |none=>exact absurd w ga
   |some o=>rw[s a o w]at this;cases this) e).mono s
theorem Rel.apart(r:Rel (reB b qj M G1) S Z H G)(a:Addr)(h:M a≠none):G a=none:=by
 obtain⟨ad,k⟩:=r.kn;exact Out.apart (b:=b) k.kin (λa z=>(k.ap a z).1) r.stp a h
section
variable{X:Cx}{b:Bo}{tg iter e:Expr}{body:List Stmt}{pos p:Pos}
def zov(t:Tg)(hI:∀qj M G1,DI X (reB b qj M G1) tg iter (I qj))(hg:PG X tg (gOf b.K t))(hB:OSs X b body B)(hp:PassesOwn (model X.prog X.w) X.A X.env X.xe:=by exact PassesOwn.never)(hc:X.calm=true:=by rfl)(hs:∀x,foldedSetIterable iter X.env x=pure x:=by intro _;rfl) :
  OS X b (.For tg iter body [] pos) (forF I t B)where
 mono:=λE E' qj S l q=>(hI qj (λ_=>none) (λ_=>none)).mono S _ _ (λxs z=>zfp hB.mono l xs qj S z) q
 ps:=λpins s Z H D Iv ⟨S,G,qj,M,⟨Gb,o,r⟩,q⟩=>zqY hp hc (hI qj M Gb).pi hg hB.pss hs pins s Z H D Iv ⟨S,G,r,(hI qj M Gb).mono S _ _ (λxs z J H1 G1 t1 it=>by
  refine⟨λi m Z H=>m=xs.length-i/\i<=xs.length/\∃ S' G' qi M',RelF b qi M' S' Z H G'/\Same G1 G'/\Dm M M'/\zeI t B (zfB b G M D) (xs.drop i) qi S',⟨xs.length,rfl,YBI _,S,G1,qj,M,⟨Gb,o,r.step t1⟩,Same.refl _,Dm.refl M,z⟩,?_⟩;rintro i m Z' H' ⟨rfl,hi,S',G',qi,M',⟨Gc,o',r'⟩,s',m',q'⟩;have free:∀a,H' a=none->(reB b qj M Gb).H0 a=none:=λa z=>by
   obtain⟨z1,z2⟩:=ov_none.mp (show ov b.H0 M' a=none from r'.new0 z);refine ov_none.mpr ⟨?_,z2⟩;cases y:M a with
   |none=>rfl
   |some u=>exact absurd z1 (m' a (by rw[y];simp))
  have ok:=it i H' G' s' r'.gh r'.bx free;by_cases hlt:i<xs.length
  .refine .inr ?_;have ed:xs.drop i=xs[i]::xs.drop (i+1):=YBE hlt;rw[ed]at q';obtain⟨go,yl⟩:=ok.2 xs[i] (YAf hlt);refine⟨go,λZ H=>∃ S' G' qi M',RelF b qi M' S' Z H G'/\Same G1 G'/\Dm M M'/\zeI t B (zfB b G M D) (xs.drop (i+1)) qi S',λZ2 H2 h=>⟨xs.length-(i+1),by omega,rfl,by omega,h⟩,λx H3 y=>?_⟩;obtain⟨G3,t3,e3⟩:=yl x H3 y;have r3:=r'.step t3;have e4:Rep (reB b qi M' Gc) G3 xs[i] x:=e3.carry (Same.refl _) r3.apart;refine zfj (c:=reB b qi M' Gc) t xs[i] x S' Z' r3 e4 (zb8 t xs[i] S' (λS2 z2 Z2 r2=>?_) q');refine⟨S2,G3,qi,M',⟨Gc,o',r2⟩,hB.mono {nx:=zeI t B (zfB b G M D) (xs.drop (i+1)),ct:=zeI t B (zfB b G M D) (xs.drop (i+1)),bk:=(zfB b G M D).nx,rt:=(zfB b G M D).rt} _ qi S2 ⟨λqh S3 z3 Z3 H4 G4 M4 r4 s4 m4=>⟨S3,G4,qh,M4,r4,(s'.trans t3.gg).trans s4,m'.trans m4,z3⟩,λqh d z v H4 G4 M4 G5 k5 o5 t5 m5 e5=>z v H4 G4 M4 G5 k5 o5 t5 (m'.trans m5) e5,λqh S3 z3 Z3 H4 G4 M4 r4 s4 m4=>z3 Z3 H4 G4 M4 r4 (((t1.gg.trans s').trans t3.gg).trans s4) (m'.trans m4),λqh S3 z3 Z3 H4 G4 M4 r4 s4 m4=>⟨S3,G4,qh,M4,r4,(s'.trans t3.gg).trans s4,m'.trans m4,z3⟩⟩ z2⟩
  .have e:i=xs.length:=by omega
   subst e;rw[YC2]at q';exact .inl ⟨ok.1 rfl,q' Z' H' G' M' ⟨Gc,o',r'⟩ (t1.gg.trans s') m'⟩) q⟩
end
abbrev FnF:=List D->Sto->(D->Sto->Prop)->(Str->Sto->Prop)->Prop
def upF(F:FnF):FnF:=λds qj Q Y=>∃(P:D->Sto->Prop)(qf:Str->Sto->Prop),F ds qj P qf/\(∀d qi,P d qi->Q d qi)/\∀n qi,qf n qi->Y n qi
def zdA(F:FnF)(k:∀d qj,Q d qj->Q' d qj)(l:∀n qj,Y n qj->Y' n qj):upF F ds qj Q Y->upF F ds qj Q' Y':=λ⟨P,qf,h1,h2,h3⟩=>⟨P,qf,h1,λd qj z=>k d qj (h2 d qj z),λn qj z=>l n qj (h3 n qj z)⟩
noncomputable def spO(K:qk)(mg:Str->Option Value)(n:Nat)(F:FnF):Sp:=λvs H Q E=>∃ β G qj M ad ds,Same G H/\BoxD β H G/\(∀a o,M a=some o->H a=some o)/\Kn K β G qj M ad/\Reps (nub K β G) G ds vs/\vs.length=n /\
 upF F ds qj (λd qi=>∀v H' G' M' ad',Eff β M M' H G H' G'->Kn K β G' qi M' ad'->Rep ⟨K,β,H,G,True⟩ G' d v->Q v H') λnm qi=>∀C H' G' M' ad',mg nm=some (.ref C)->Eff β M M' H G H' G'->Kn K β G' qi M' ad'->E (.ref C) none H'
def mi(H M:Hp):Hp:=λa=>match M a with|some _=>none|none=>H a
def zuz(h:M a≠none):mi H M a=none:=by
 unfold mi;cases e:M a with
 |none=>exact absurd e h
 |some o=>rfl
def ze2(h:M a=none):mi H M a=H a:=by unfold mi;rw[h]
def zvL(h:∀a o,M a=some o->H a=some o):ov (mi H M) M=H:=by
 funext a
 cases e:M a with
 |none=>rw[zcS e,ze2 e]
 |some o=>rw[zf0 e,h a o e]
def fnWF(n:Nat)(B:(Str->Sto->Prop)->WF):FnF:=λds qj Q Y=>B Y {nx:=λqi _=>Q .non qi,rt:=λqi d=>Q d qi,bk:=λ_ _=>False,ct:=λ_ _=>False} qj (zaI n ds)
def Out.whole(mb:M β=none)(k:Kn K β G1 qj M' ad)(o:Out ⟨K,β,mi H M,G,M⟩ M' G1)(t:Stp β (ov (mi H M) M') G1 H' G'):Eff β M M' H G H' G'/\Kn K β G' qj M' ad/\∀d v,Rep (reB ⟨K,β,mi H M,G,M⟩ qj M' G1) G' d v->Rep ⟨K,β,H,G,True⟩ G' d v:=by
 have m:Dm M M':=o.dm;have ap:∀a,M' a≠none->G' a=none:=Out.apart (b:=⟨K,β,mi H M,G,M⟩) k.kin (λa z=>(k.ap a z).1) t;have w:=o.stp k.kin t;have no:∀a u,M a=none->H a=some u->M' a=none:=λa u h1 h2=>by
  cases y:M' a with
  |none=>rfl
  |some x=>
   have:=(o.mb a (by rw[y];simp)).1
   rw[show(⟨K,β,mi H M,G,M⟩:Bo).H0 a=H a from ze2 h1,h2]at this;cases this
 refine⟨⟨o.gg.trans t.gg,t.gh,λa u n h1 h2=>t.fr a u n ?_,λa u h=>t.fr a u (o.mb a (by rw[h];simp)).2.2 (zf0 h),λa h=>?_,λa h=>⟨ap a h,(o.mb a h).2.2⟩,λa h=>?_,t.bx,λcc p q d h=>w.bc cc p q d ((ze2 mb).trans h),m⟩,k.mono t.gg ap,λd v e=>Rep.reb (c:=⟨K,β,H,G,True⟩) (c':=reB ⟨K,β,mi H M,G,M⟩ qj M' G1) rfl rfl (λa ga z=>?_) e⟩
 .rw[zcS (no a u h1 h2),ze2 h1];exact h2
 .have:=(o.mb a h).1
  cases e:M a with
  |some u=>exact .inl (by simp)
  |none=>exact .inr ((ze2 e).symm.trans this)
 .rcases w.nw a h with z|z|⟨u,z,st⟩
  .exact .inl z
  .cases e:M a with
   |none=>exact .inr (.inl ((ze2 e).symm.trans z))
   |some u=>exact absurd (ap a (m a (by rw[e];simp))) h
  .cases e:M a with
   |none=>exact .inr (.inr ⟨u,(ze2 e).symm.trans z,st⟩)
   |some x=>rw[show(⟨K,β,mi H M,G,M⟩:Bo).H0 a=none from zuz (by rw[e];simp)]at z;cases z
 .obtain⟨z1,z2⟩:=ov_none.mp z;cases e:M a with
  |none=>exact(ze2 e).symm.trans z2
  |some u=>exact absurd z1 (m a (by rw[e];simp))
def Rel.hyp(r:Rel c S Z H G)(q:Q):Rel {c with P:=Q} S Z H G:=
 ⟨r.len,r.stp,λi s e=>by
  have z:=r.slot i s e;cases s with
  |un=>trivial
  |val d=>obtain⟨v,h1,h2⟩:=z;exact⟨v,h1,Rep.reb (c:={c with P:=Q}) (c':=c) rfl rfl (λ_ _ z=>z) h2⟩
  |own xs=>obtain⟨a,vs,h1,h2,h3,h4,h5,h6⟩:=z;exact⟨a,vs,h1,h2,h3,h4,h5,Reps.reb (c:={c with P:=Q}) (c':=c) rfl rfl (λ_ _ z=>z) h6⟩
  |dic ks xs=>obtain⟨a,vs,h1,h2,h3,h4,h5,h6,h7⟩:=z;exact⟨a,vs,h1,h2,h3,h4,h5,Reps.reb (c:={c with P:=Q}) (c':=c) rfl rfl (λ_ _ z=>z) h6,h7⟩,r.dis,q⟩
def zhs(F:Fun K x qual st f fd)
  (hB:∀{cdv:Value}{A:Around}{outer:List PySem.Env}{s:Shared}{H:Hp}{E:XK}{β:Addr}{G M:Hp}(Y:Str->Sto->Prop),(∀nm C H' G' qj M' G1,Y nm qj->mg nm=some (.ref C)->(∃ad,Kn K β G1 qj M' ad)->Out ⟨K,β,mi H M,G,M⟩ M' G1->Stp β (ov (mi H M) M') G1 H' G'->E (.ref C) none H')->N.Nodup->Room k (A.deeper (PyProof.Rows.envOfC qual (zao st) s.heap.objs.size f cdv)) ->
   OSs (cxOf (CXN P w) P w K mg base N qual (zao st) f cdv A outer s H E) ⟨K,β,mi H M,G,M⟩ (zbe st) (B Y)) (qj:FnScope N ps (zao st):=by exact⟨rfl,rfl,rfl,by decide +kernel,rfl,by decide +kernel,by decide +kernel⟩):FnOk P w K mg base (CXN P w) (k+1) f fd ps (spO K mg ps.length (fnWF N.length B)):=by
 obtain⟨oc,od,kV,doc,pm,an,cdv,ct,osl,rfl,lk,hcd⟩:=F.ex;refine zq9 lk hcd qj (λvs H Q E ⟨β,G,qj,M,ad,ds,_,_,_,_,_,h,_⟩=>h) λA outer s H vs Q E hr ⟨β,G,So,M,ad,ds,gh,bx,mh,kn,hv,hl,P',qf,q,hP,hZ⟩=>?_;have mb:M β=none:=by
  cases e:M β with
  |none=>rfl
  |some u=>exact absurd rfl (kn.ap β (by rw[e];simp)).2
 have h:=@hB cdv A outer s H E β G M qf (λnm C H' G' qj M' G1 z hm ⟨ad',k'⟩ o' t=>by
  obtain⟨e1,e2,_⟩:=Out.whole mb k' o' t;exact hZ nm qj z C H' G' M' ad' hm e1 e2) qj.nd hr
 have r0:RelF ⟨K,β,mi H M,G,M⟩ So M (zaI N.length ds) (L2.zdq N vs) H G:=by
  refine⟨G,⟨λa z=>⟨zuz z,(kn.ap a z).1,(kn.ap a z).2⟩,Same.refl _,λa z=>.inl z,λa o z=>(ze2 (by
   cases y:M a with
   |none=>rfl
   |some u=>exact absurd ((kn.ap a (by rw[y];simp)).1.symm.trans z) (by simp))).trans (gh a o z),Dm.refl M⟩,?_⟩
  have h0:=zdh (N:=N) gh bx hv;unfold reB;rw[show ov (Bo.H0 ⟨K,β,mi H M,G,M⟩) M=H from zvL mh];exact h0.hyp ⟨ad,kn⟩
 refine⟨_,h.pss,zaI N.length ds,G,So,M,r0,h.mono {nx:=λqi _=>P' .non qi,rt:=λqi d=>P' d qi,bk:=λ_ _=>False,ct:=λ_ _=>False} _ So _ ⟨λqi S z Z H' G' M' ⟨G1,o',r'⟩ s' m=>?_,λqi d z v H' G' M' G1 ⟨ad',k'⟩ o' t m e=>?_,λqj S z=>z.elim,λqj S z=>z.elim⟩ q⟩
 .obtain⟨ad',k'⟩:=r'.kn;obtain⟨e1,e2,_⟩:=Out.whole mb k' o' r'.stp;exact hP _ _ z .non H' G' M' ad' e1 e2 rfl
 .obtain⟨e1,e2,e3⟩:=Out.whole mb k' o' t;exact hP _ _ z v H' G' M' ad' e1 e2 (e3 d v e)
end Fd
namespace L2
open PySem PySem.Spec PyProof.Rows PySem.W
section
variable{P:Program}{w:World}{K:qk}{mg:Str->Option Value}{base:Heap}{N:List Str}{qual:Str}{scope:Scope}{f:Addr}{cd:Value}{A:Around}{outer:List Env}{s0:Shared}{H0:Hp}{E E1:XK}
def zuV(hE:∀C H',E1 (.ref C) none H'->E (.ref C) none H'):zbT (CXN P w) (cxOf (CXN P w) P w K mg base N qual scope f cd A outer s0 H0 E) E1:=by
 rintro pins Z H s _ s' I ⟨ea,C,H',rfl,N',e1⟩;have nex:∀{b:Addr},b∉([]:List Addr):=λz=>nomatch z;have neL:∀{b o},s0.heap.get? b=some o->b≠s0.heap.objs.size:=λe=>YAs (YAh e);have sub:∀{b},b∉frs outer->b≠s0.heap.objs.size->b∉frs (cxOf (CXN P w) P w K mg base N qual scope f cd A outer s0 H0 E).stack:=λh1 h2 h3=>(YAv.mp (I.stkSub _ h3)).elim h2 h1;obtain⟨B,fl,hB⟩:=id N'.fly;have frx:∀b∈frs (cxOf (CXN P w) P w K mg base N qual scope f cd A outer s0 H0 E).stack,∃o,s.heap.get? b=some o:=λb hb=>by
  obtain⟨_,o,ho,_⟩:=I.stack.mem hb;exact⟨o,ho⟩
 refine zpb I.ok.frames rfl fl λh' fl' sm=>?_;have on:=N'.on hB fl.2.2.1 I.stkFree fl'.1 sm frx;have I':Inv (cxOf (CXN P w) P w K mg base N qual scope f cd A outer s0 H0 E) pins Z H' {s' with heap:=h'}:=I.call' (s':={s' with heap:=h'}) N'.os on.1 on.2 N'.bare λb z=>nomatch z;refine⟨ea,C,H',rfl,⟨I'.os,I'.bare,I'.base,I'.hok,B,fl',λb o q hb nf=>?_⟩,hE C H' e1⟩;rcases hb with⟨u,hu⟩|⟨u,hu⟩
 .obtain⟨v,hv⟩:=(N'.hok b u hu).ex;have nb:b∉frs (cxOf (CXN P w) P w K mg base N qual scope f cd A outer s0 H0 E).stack:=λz=>by rw[I'.stkFree b z]at hu;cases hu
  have z:=hB b v hv (.inl ⟨u,hu⟩) nb
  have:=fl'.1 b v z
  rw[this]at q;cases q;exact z
 .obtain⟨o1,q1⟩:=I.base.there b u hu nex;obtain⟨o2,q2⟩:=N'.un.there b o1 q1 nex;have z:=hB b o2 q2 (.inr ⟨o1,q1⟩) (sub nf (neL hu))
  have:=fl'.1 b o2 z
  rw[this]at q;cases q;exact z
end
end L2
namespace Fd
open PySem L2
def RepF(b:Bo)(qj:Sto)(M:Hp)(S:Env)(Z:St)(H G:Hp)(d:D)(v:V):Prop:=∃G1,Out b M G1/\Rel (reB b qj M G1) S Z H G/\Rep (reB b qj M G1) G d v
def RepsF(b:Bo)(qj:Sto)(M:Hp)(S:Env)(Z:St)(H G:Hp)(ds:List D)(vs:List V):Prop:=∃G1,Out b M G1/\Rel (reB b qj M G1) S Z H G/\Reps (reB b qj M G1) G ds vs
abbrev WOE:=Env->Sto->(D->Sto->Prop)->Prop
abbrev WOA:=Env->Sto->(List D->Sto->Prop)->Prop
def zg3{α:Type}(W:Env->Sto->(α->Sto->Prop)->Prop):Prop:=∀ S qj Q Q',(∀d qi,Q d qi->Q' d qi)->W S qj Q->W S qj Q'
def tOE(b:Bo)(W:WOE):TE:=λZ H Q=>∃ S G qj M,RelF b qj M S Z H G/\W S qj λd qi=>∀v H' G' M',RepF b qi M' S Z H' G' d v->Same G G'->Dm M M'->Q v H'
def tOA(b:Bo)(W:WOA):TA:=λZ H Q=>∃ S G qj M,RelF b qj M S Z H G/\W S qj λds qi=>∀vs H' G' M',RepsF b qi M' S Z H' G' ds vs->Same G G'->Dm M M'->Q vs H'
structure OE(X:Cx)(b:Bo)(e:Expr)(W:WOE):Prop where
 mono:zg3 W
 pe:PE X e (tOE b W)
structure OA(X:Cx)(b:Bo)(es:List Expr)(W:WOA):Prop where
 mono:zg3 W
 pa:PA X es (tOA b W)
def RepF.rel(r:RepF b qj M S Z H G d v):RelF b qj M S Z H G:=let⟨G1,o,r1,_⟩:=r;⟨G1,o,r1⟩
def RepsF.rel(r:RepsF b qj M S Z H G ds vs):RelF b qj M S Z H G:=let⟨G1,o,r1,_⟩:=r;⟨G1,o,r1⟩
section
variable{X:Cx}{b:Bo}{e e1:Expr}{es:List Expr}{pos p:Pos}
def zkr{A:Sto->WE}(h:∀qj M G1,DE X (reB b qj M G1) e (A qj)):OE X b e (λS qj Q=>A qj S λd=>Q d qj)where
 mono:=λS qj Q Q' l q=>(h qj (λ_=>none) (λ_=>none)).mono S _ _ (λd z=>l d qj z) q
 pe:=λpins s Z H Q I ⟨S,G,qj,M,⟨G1,o,r⟩,q⟩=>(h qj M G1).pe pins s Z H Q I ⟨S,G,r,(h qj M G1).mono S _ _ (λd z v H' G' t e=>z v H' G' M ⟨G1,o,r.step t,e⟩ t.gg (Dm.refl M)) q⟩
@[reducible] def nilO:WOA:=λS qj Q=>Q [] qj
@[reducible] def zaV(A:WOE)(B:WOA):WOA:=λS qj Q=>A S qj λd S1=>B S S1 λds qg=>Q (d::ds) qg
def zoq(h:PA X es t)(k:∀ Z H Q,t' Z H Q->t Z H Q):PA X es t':=λpos pins s Z H Q I q=>h pos pins s Z H Q I (k Z H Q q)
def zd5:OA X b [] nilO:=⟨λS qj Q Q' l q=>l _ qj q,zoq zbf λZ H Q ⟨S,G,qj,M,⟨G1,o,r⟩,q⟩=>q [] H G M ⟨G1,o,r,rfl⟩ (Same.refl _) (Dm.refl M)⟩
def zaN(hA:OE X b e A)(hB:OA X b es B)(hs:starEach (e::es) X.env=(false,eval e X.env)::starEach es X.env:=by rfl):OA X b (e::es) (zaV A B)where
 mono:=λS qj Q Q' l q=>hA.mono S qj _ _ (λd S1 z=>hB.mono S S1 _ _ (λds qg y=>l _ qg y) z) q
 pa:=zoq (zaC hA.pe hB.pa hs) λZ H Q ⟨S,G,qj,M,r,q⟩=>⟨S,G,qj,M,r,hA.mono S qj _ _ (λd S1 z v H1 G1 M1 r1 s1 m1=>⟨S,G1,S1,M1,r1.rel,hB.mono S S1 _ _ (λds qg y vs H2 G2 M2 r2 s2 m2=>by
   obtain⟨Ga,o,ra,ea⟩:=r1;obtain⟨Gb,o',rb,eb⟩:=r2;exact y (v::vs) H2 G2 M2 ⟨Gb,o',rb,v,vs,rfl,ea.carry s2 rb.apart,eb⟩ (s1.trans s2) (m1.trans m2)) z⟩) q⟩
def RelF.called(r:RelF b qj M S Z H G)(e:Eff b.β M M' H G H' G')(k:Kn b.K b.β G' qi M' ad')(z:Rep ⟨b.K,b.β,H,G,True⟩ G' d v):RepF b qi M' S Z H' G' d v:=by
 obtain⟨G1,o,r1⟩:=r;refine⟨G',o.eff r1 e,r1.eff (λa z=>⟨(o.mb a z).1,(o.mb a z).2.2⟩) e ⟨ad',k⟩,Rep.reb (c:=reB b qi M' G') (c':=⟨b.K,b.β,H,G,True⟩) rfl rfl (λa ga h=>?_) z⟩
 have:=ov_none.mp (show ov b.H0 M a=none from r1.new0 h)
 refine ov_none.mpr ⟨?_,this.2⟩;cases y:M' a with
 |none=>rfl
 |some u=>exact absurd (e.mg a (by rw[y];simp)).1 ga
def RelF.give(hK:b.K=K)(r:RepsF b qj M S Z H G ds vs)(hn:ds.length=n)
  (q:upF F ds qj (λd qi=>∀v H' G' M',RepF b qi M' S Z H' G' d v->Same G G'->Dm M M'->Q v H') λnm qi=>∀C H' G' M',mg nm=some (.ref C)->RelF b qi M' S Z H' G'->Same G G'->Dm M M'->E1 (.ref C) none H'):spO K mg n F vs H Q E1:=by
 subst hK;have rl:=r.rel;obtain⟨G1,o,r1,e⟩:=r;obtain⟨ad,k⟩:=r1.kn;refine⟨b.β,G,qj,M,ad,ds,r1.gh,r1.bx,λa u h=>r1.stp.fr a u (o.mb a (by rw[h];simp)).2.2 (zf0 h),k.mono r1.stp.gg r1.apart,Reps.back (c':=reB b qj M G1) (c:=nub b.K b.β G) rfl rfl (λ_ _=>rfl) e,by rw[<-e.length];exact hn,zdA F (λd qi z v H' G' M' ad' ef k' e'=>z v H' G' M' (rl.called ef k' e') ef.gg ef.dm) (λnm qi z C H' G' M' ad' hm ef k'=>z C H' G' M' hm (rl.called (d:=.non) (v:=.non) ef k' rfl).rel ef.gg ef.dm) q⟩
end
structure Met(P:Program)(w:World)(K:qk)(mg:Str->Option Value)(base:Heap)(CX:CXT)(C:Addr)(m:Str)(k:Nat)(ps:List Str)(sp:Sp):Prop where
 ex:∃f fd,FnOk P w K mg base CX k f fd ps sp/\Cls K C/\Meth K C m f/\Binds K fd ps []
def XO(b:Bo)(mg:Str->Option Value)(y:Str->Sto->Prop):XK:=λv _ H'=>∃nm C qi M' S Z G',v=.ref C/\y nm qi/\mg nm=some (.ref C)/\RelF b qi M' S Z H' G'
theorem zfw{m:Str}:∀{fs:List (Str×List D)}{as:List Addr},(∀x∈fs,x.1≠m)->(kvF fs as).lookup m=none
 |[],_,_=>rfl
 |_::_,[],_=>rfl
 |x::fs,a::as,h=>by
  show((x.1,V.ref a)::kvF fs as).lookup m=none;rw[YAO]
  have:(m==x.1)=false:=by
   rw[YAU];exact YAK (h x (by simp))
  rw[this];exact zfw λy hy=>h y (by simp[hy])
section
variable{X:Cx}{b:Bo}{e:Expr}{es:List Expr}{pos p apos:Pos}{y:Str->Sto->Prop}
@[reducible] def zeG(n:Nat)(F:FnF)(y:Str->Sto->Prop)(R:WOA):WOE:=λS qj Q=>R S qj λds S1=>ds.length=n/\upF F ds S1 Q y
def zmf(h:zg3 R):zg3 (zeG n F y R):=λS qj Q Q' l q=>h S qj _ _ (λds S1 z=>⟨z.1,zdA F l (λ_ _ w=>w) z.2⟩) q
def zfC(C:CalX X.prog X.w X.K X.mg X.base x k ps (spO X.K X.mg n F))(hR:OA X b (e::es) R)(hx:zbT (CXN X.prog X.w) X (XO b X.mg y))(hg:Gl X x:=by rfl)
  (hdb:(x==("__debug__":Str))=false:=by decide) (he:starEach (e::es) X.env=(false,eval e X.env)::starEach es X.env:=by rfl) (hpl:(backTo pos (starEach es X.env)).any (·.1)=false:=by rfl) (hK:b.K=X.K:=by rfl) (hr:Room k X.A:=by decreasing_trivial) :
  OE X b (.Call (.Name x p) (e::es) [] pos) (zeG n F y R)where
 mono:=zmf hR.mono
 pe:=by
  obtain⟨f,fd,FO,hm,hk,hb⟩:=C.ex;refine zas (zdU FO hr hg hm hk hb .nil hx hR.pa hdb he hpl) λZ H Q ⟨S,G,qj,M,r,q⟩=>⟨S,G,qj,M,r,hR.mono S qj _ _ (λds S1 z vs H' G' M' r' s' m'=>?_) q⟩;show spO X.K X.mg n F (vs++[]) H' Q _;rw[YA1];exact RelF.give hK r' z.1 (zdA F (λd qi w v H2 G2 M2 r2 s2 m2=>w v H2 G2 M2 r2 (s'.trans s2) (m'.trans m2)) (λnm qi w C H2 G2 M2 hc r2 s2 m2=>⟨nm,C,qi,M2,S,Z,G2,rfl,w,hc,r2⟩) z.2)
@[reducible] def zeN(i:Nat)(C:Addr)(m:Str)(n:Nat)(F:FnF)(y:Str->Sto->Prop)(R:WOA):WOE:=λS qj Q=>match S[i]? with
 |some (.val (.obj a))=>(∃o,qj a=some o/\o.C=C/\∀x∈o.fs,x.1≠m)/\R S qj λds S1=>ds.length+1=n/\upF F (.obj a::ds) S1 Q y
 |_=>False
def zfK(h:zg3 R):zg3 (zeN i C m n F y R):=λS qj Q Q' l q=>by
 unfold zeN at q ⊢;split at q
 .exact⟨q.1,h S qj _ _ (λds S1 z=>⟨z.1,zdA F l (λ_ _ w=>w) z.2⟩) q.2⟩
 .exact q.elim
def RelF.at{qj:Sto}{M H G:Hp}{S:Env}{Z:St}{a:Addr}{o:Ob}(r:RelF b qj M S Z H G)(h:qj a=some o):∃dx as,H a=some (.ins o.C dx (kvF o.fs as)):=by
 obtain⟨G1,u,r1⟩:=r;obtain⟨ad,k⟩:=r1.kn;obtain⟨dx,h1,_⟩:=k.obj a o h;exact⟨dx,ad a,r1.stp.fr a _ (u.mb a (by rw[h1];simp)).2.2 (zf0 h1)⟩
def zhh{qj:Sto}{M G:Hp}{S:Env}{Z:St}{H:Hp}{Q:VK}{i:Nat}{C:Addr}{m:Str}{n:Nat}{F:FnF}{R:WOA}{E:XK}{t:TA}{x:Str}(hK:b.K=X.K)(hR:zg3 R)(r:RelF b qj M S Z H G)(q:zeN i C m n F y R S qj λd qi=>∀v H' G' M',RepF b qi M' S Z H' G' d v->Same G G'->Dm M M'->Q v H')(hE:∀nm C qi M' H' G',y nm qi->X.mg nm=some (.ref C)->RelF b qi M' S Z H' G'->Same G G'->Dm M M'->E (.ref C) none H')(ht:∀ Z H Q,tOA b R Z H Q->t Z H Q) :
  zmb C m (spO X.K X.mg n F) [] E (tOE b (λS qj Q=>vW i S λd=>Q d qj)) t Z H Q:=by
 unfold zeN at q;split at q
 .rename_i a ea
  obtain⟨⟨o,h1,h2,h3⟩,q⟩:=q;refine⟨S,G,qj,M,r,?_⟩;show vW i S _;unfold vW;rw[ea];intro v H1 G1 M1 r1 s1 m1;obtain⟨dx,as,h4⟩:=r1.rel.at h1;obtain⟨Ga,oa,ra,e⟩:=r1;have ev:v=V.ref a:=e;subst ev;rw[h2]at h4;refine⟨a,dx,kvF o.fs as,rfl,h4,zfw h3,ht _ _ _ ⟨S,G1,qj,M1,⟨Ga,oa,ra⟩,hR S qj _ _ (λds S1 z vs H' G' M' r' s' m'=>?_) q⟩⟩;show spO X.K X.mg n F (V.ref a::(vs++[])) H' Q _;rw[YA1];have r2:RepsF b S1 M' S Z H' G' (.obj a::ds) (V.ref a::vs):=by
   obtain⟨Gb,ob,rb,eb⟩:=r';exact⟨Gb,ob,rb,V.ref a,vs,rfl,rfl,eb⟩
  exact RelF.give hK r2 z.1 (zdA F (λd qi w v H2 G2 M2 r2 s2 m2=>w v H2 G2 M2 r2 ((s1.trans s').trans s2) ((m1.trans m').trans m2)) (λnm qi w C H2 G2 M2 hc r2 s2 m2=>hE nm C qi M2 H2 G2 w hc r2 ((s1.trans s').trans s2) ((m1.trans m').trans m2)) z.2)
 .exact q.elim
def zoS{Z:St}{H:Hp}{Q:VK}{i:Nat}{C:Addr}{m:Str}{n:Nat}{F:FnF}{R:WOA}{sp:Sp}{E:XK}{t:TA}{x:Str}(hK:b.K=X.K)(hsp:sp=spO X.K X.mg n F)(hE:E=XO b X.mg y)(hR:zg3 R)(hv:∀qj M G1,DE X (reB b qj M G1) (.Name x p) (vW i))(q:tOE b (zeN i C m n F y R) Z H Q)(ht:∀ Z H Q,tOA b R Z H Q->t Z H Q) :
  zmb C m sp [] E (tOE b (λS qj Q=>vW i S λd=>Q d qj)) t Z H Q:=by
 subst hsp hE;obtain⟨S,G,qj,M,r,q⟩:=q;exact zhh (X:=X) (x:=x) hK hR r q (λnm C qi M' H' G' w hc r2 _ _=>⟨nm,C,qi,M',S,Z,G',rfl,w,hc,r2⟩) ht
def ztG(T:Met X.prog X.w X.K X.mg X.base (CXN X.prog X.w) C m k ps (spO X.K X.mg n F))(hv:∀qj M G1,DE X (reB b qj M G1) (.Name x p) (vW i))(hR:OA X b (e::es) R)(hx:zbT (CXN X.prog X.w) X (XO b X.mg y))
  (he:starEach (e::es) X.env=(false,eval e X.env)::starEach es X.env:=by rfl) (hpl:(backTo pos (starEach es X.env)).any (·.1)=false:=by rfl)
  (ht:eval (.Call (.Attribute (.Name x p) m apos) (e::es) [] pos) X.env=(do
   let ov <-eval (.Name x p) X.env
   standAt apos.atName
   let(f,first) <-holding [ov] (getMethod ov m pl)
   callWith pos f first (backTo pos (starEach (e::es) X.env)) (backToKw pos (keywordEach [] X.env))):=by rfl) (hK:b.K=X.K:=by rfl) (hr:Room k X.A:=by decreasing_trivial) :
  OE X b (.Call (.Attribute (.Name x p) m apos) (e::es) [] pos) (zeN i C m n F y R)where
 mono:=zfK hR.mono
 pe:=by
  obtain⟨f,fd,FO,hc,hm,hb⟩:=T.ex;exact zas (zrw (zkr (A:=λ_=>vW i) hv).pe hc hm FO hr hb .nil hx hR.pa he hpl ht) λZ H Q q=>zoS hK rfl rfl hR.mono hv q λ_ _ _ z=>z
@[reducible] def retO(A:WOE):WF:=λE qj S=>A S qj λd qi=>E.rt qi d
def zuA(hA:OE X b e A):OS X b (.Return (some e) pos) (retO A)where
 mono:=λE E' qj S l q=>hA.mono S qj _ _ (λd qi z=>l.rt qi d z) q
 ps:=zbj (zfM hA.pe) λD Z H ⟨S,G,qj,M,r,q⟩=>⟨S,G,qj,M,r,hA.mono S qj _ _ (λd qi z v H' G' M' ⟨G1,o,r',e⟩ s' m'=>z v H' G' M' G1 r'.kn o r'.stp m' e) q⟩
@[reducible] def asgO(t:Tg)(A:WOE):WF:=λE qj S=>A S qj λd qi=>gD t d S (E.nx qi)
def zjt(h:zg3 A):zpY (asgO t A):=λE E' qj S l q=>h S qj _ _ (λd qi z=>zb8 t d S (λS' z=>l.nx qi S' z) z) q
def ziS(mA:zg3 A)(D:Ends)(Z:St)(H:Hp)(h:tOS b (asgO t A) D Z H):tAsg (tOE b A) (gOf b.K t) D Z H:=by
 obtain⟨S,G,qj,M,r,q⟩:=h;refine⟨S,G,qj,M,r,mA S qj _ _ (λd qi z v H' G' M' ⟨G1,o,r',e⟩ s' m'=>?_) q⟩;exact zfj (c:=reB b qi M' G1) t d v S Z r' e (zb8 t d S (λS' w Z' r2=>w Z' H' G' M' ⟨G1,o,r2⟩ s' m') z)
def zjA(i:Nat)(hA:OE X b e A)(hi:X.N[i]?=some x:=by rfl)(hx:Loc X.env.scope x:=by first|exact Or.inl rfl|exact Or.inr rfl)(hs:swapsWith e (some (.Name x p)) pos.line X.env=pure false:=by rfl)(hf:X.fn x=true\/X.env.scope.names.lookup x=some .local:=by first|exact .inl rfl|exact .inr rfl|assumption)(hN:X.N.Nodup:=by decreasing_trivial):OS X b (.Assign [.Name x p] e pos) (asgO (.nm i) A):=
 ⟨zjt hA.mono,zbj (zdG hN hi hx hA.pe hs hf) λD Z H h=>ziS (t:=.nm i) hA.mono D Z H h⟩
def ztL(t:Tg)(hA:OE X b e A)(hg:PG X tg (gOf b.K t))(hs:swapsWithSole [tg] e pos.line X.env=pure false:=by rfl)(hw:swappedStores [tg] e X.env=pure none:=by rfl)
  (h1:(assignEach [tg] X.env).map (·.2)=[assign tg X.env]:=by rfl):OS X b (.Assign [tg] e pos) (asgO t A):=
 ⟨zjt hA.mono,zbj (zhl hA.pe hg hs hw h1) λD Z H h=>ziS hA.mono D Z H h⟩
end
theorem znK :∀{fs:List (Str×List D)}{as:List Addr}{j:Nat}{xs:List D},fs[j]?=some (f,xs)->kvF (fs.set j (f,ys)) as=kvF fs as
 |[],_,_,_,h=>by simp at h
 |_::_,[],0,_,_=>rfl
 |_::_,[],_+1,_,_=>rfl
 |x::fs,a::as,0,xs,h=>by
  have:x=(f,xs):=by simpa using h
  subst this;rfl
 |x::fs,a::as,j+1,xs,h=>by
  show(x.1,V.ref a)::kvF (fs.set j (f,ys)) as=(x.1,V.ref a)::kvF fs as;rw[znK (by simpa using h)]
theorem zlj:∀{fs:List (Str×List D)}{as:List Addr}{j:Nat}{xs:List D},(∀i y,i<j->fs[i]?=some y->y.1≠f)->fs[j]?=some (f,xs)->as.length=fs.length->∃a,as[j]?=some a/\(kvF fs as).lookup f=some (.ref a)
 |[],_,_,_,_,h,_=>by simp at h
 |_::_,[],_,_,_,_,h=>by simp at h
 |x::fs,a::as,0,xs,_,h,_=>by
  have:x=(f,xs):=by simpa using h
  subst this;exact⟨a,rfl,by show((f,V.ref a)::kvF fs as).lookup f=_;simp⟩
 |x::fs,a::as,j+1,xs,hn,h,hl=>by
  obtain⟨b,h1,h2⟩:=zlj (fs:=fs) (as:=as) (j:=j) (λi y hi e=>hn (i+1) y (by omega) (by simpa using e)) (by simpa using h) (by simpa using hl);refine⟨b,by simpa using h1,?_⟩;show((x.1,V.ref a)::kvF fs as).lookup f=_;rw[YAO]
  have:(f==x.1)=false:=by rw[YAU];exact YAK (hn 0 x (by omega) rfl)
  rw[this];exact h2
def setF(o:Ob)(j:Nat)(f:Str)(ys:List D):Ob:=⟨o.C,o.fs.set j (f,ys)⟩
section
variable{b:Bo}
def IsF(o:Ob)(f:Str)(j:Nat)(xs:List D):Prop:=o.fs[j]?=some (f,xs)/\∀i y,i<j->o.fs[i]?=some y->y.1≠f
def Kn.at(k:Kn K β G qj M ad)(h:qj p=some o)(hf:IsF o f j xs):∃dx a vs,M p=some (.ins o.C dx (kvF o.fs (ad p)))/\(kvF o.fs (ad p)).lookup f=some (.ref a)/\(ad p)[j]?=some a/\M a=some (.lst vs)/\Reps (nub K β G) G xs vs:=by
 obtain⟨dx,h1,h2⟩:=k.obj p o h;obtain⟨a,h3,h4⟩:=zlj hf.2 hf.1 h2;obtain⟨vs,h5,h6⟩:=k.lst p o j a _ h h3 hf.1;exact⟨dx,a,vs,h1,h4,h3,h5,h6⟩
def Kn.put(k:Kn K β G qj M ad)(h:qj p=some o)(hf:IsF o f j xs)(ha:(ad p)[j]?=some a)(hm:M a=some (.lst vs))(hy:Reps (nub K β G) G ys ws):Kn K β G (upS qj p (setF o j f ys)) (upd M a (.lst ws)) ad:=by
 have ins:∀q u,qj q=some u->q≠a:=λq u hq z=>by
  obtain⟨dx,h1,_⟩:=k.obj q u hq;rw[z,hm]at h1;cases h1
 have some':∀q,upS qj p (setF o j f ys) q≠none->qj q≠none:=λq hq z=>by
  by_cases e:q=p
  .subst e;rw[h]at z;cases z
  .rw[zdj e]at hq;exact hq z
 refine⟨λq u hq=>?_,λq u i c x hq hc hx=>?_,λq r i l c hq hr=>k.dis q r i l c (some' q hq) (some' r hr),λc u hc=>?_,λc hc=>?_⟩
 .by_cases e:q=p
  .subst e;rw[zbg]at hq;cases hq;obtain⟨dx,h1,h2⟩:=k.obj q o h;exact⟨dx,by rw[upd_ne (ins q o h)];show M q=some (.ins o.C dx (kvF (o.fs.set j (f,ys)) (ad q)));rw[znK hf.1];exact h1,by show(ad q).length=(o.fs.set j (f,ys)).length;rw[YB3];exact h2⟩
  .rw[zdj e]at hq;obtain⟨dx,h1,h2⟩:=k.obj q u hq;exact⟨dx,by rw[upd_ne (ins q u hq)];exact h1,h2⟩
 .by_cases e:q=p
  .subst e;rw[zbg]at hq;cases hq;by_cases ij:i=j
   .subst ij;rw[ha]at hc;cases hc;have hx':(o.fs.set i (f,ys))[i]?=some x:=hx;rw[YAi (YAe.mp hf.1).1]at hx';cases hx';exact⟨ws,zah,hy⟩
   .have hx':(o.fs.set j (f,ys))[i]?=some x:=hx;rw[YAl (YAK ij)]at hx';obtain⟨us,h1,h2⟩:=k.lst q o i c x h hc hx'
    have:c≠a:=λz=>ij (k.dis q q i j c (by rw[h];simp) (by rw[h];simp) hc (z▸ha)).2
    exact⟨us,by rw[upd_ne this];exact h1,h2⟩
  .rw[zdj e]at hq;obtain⟨us,h1,h2⟩:=k.lst q u i c x hq hc hx
   have:c≠a:=λz=>e (k.dis q p i j c (by rw[hq];simp) (by rw[h];simp) hc (z▸ha)).1
   exact⟨us,by rw[upd_ne this];exact h1,h2⟩
 .by_cases e:c=a
  .subst e;rw[zah]at hc;cases hc;exact λz=>z
  .rw[upd_ne e]at hc;exact k.kin c u hc
 .by_cases e:c=a
  .subst e;exact k.ap c (by rw[hm];simp)
  .rw[upd_ne e]at hc;exact k.ap c hc
def RelF.put'(u:Out b M G1)(r:Rel (reB b qj M G1) S Z H G)(k:Kn b.K b.β G1 qj M ad)(h:qj p=some o)(hf:IsF o f j xs)(ha:(ad p)[j]?=some a)(hm:M a=some (.lst vs))(hy:Reps (nub b.K b.β G) G ys ws):Out b (upd M a (.lst ws)) G/\Rel (reB b (upS qj p (setF o j f ys)) (upd M a (.lst ws)) G) S Z (upd H a (.lst ws)) G/\Kn b.K b.β G (upS qj p (setF o j f ys)) (upd M a (.lst ws)) ad/\Dm M (upd M a (.lst ws)):=by
 have ma:M a≠none:=by rw[hm];simp
 have ab:=(u.mb a ma).2.2;have hH:∀c w,M c=some w->H c=some w:=λc w hc=>r.stp.fr c w (u.mb c (by rw[hc];simp)).2.2 (zf0 hc);have dom:∀c,upd M a (.lst ws) c≠none->M c≠none:=λc hc=>by
  by_cases e:c=a
  .subst e;exact ma
  .rw[upd_ne e]at hc;exact hc
 have dm:Dm M (upd M a (.lst ws)):=λc hc=>by
  by_cases e:c=a
  .subst e;rw[zah];simp
  .rw[upd_ne e];exact hc
 have ef:Eff b.β M (upd M a (.lst ws)) H G (upd H a (.lst ws)) G:=by
  refine⟨Same.refl _,λc w hc=>?_,λc w n hc hw=>?_,λc w hc=>?_,λc hc=>.inl (dom c hc),λc hc=>⟨r.apart c (dom c hc),(u.mb c (dom c hc)).2.2⟩,λc hc=>.inl hc,?_,λcc q s d hb=>⟨q,s,d,by rw[upd_ne (YAK ab)];exact hb⟩,dm⟩
  .rw[upd_ne (λz=>by rw[z,r.apart a ma]at hc;cases hc)];exact r.gh c w hc
  .rw[upd_ne (λz=>by rw[z]at hc;exact ma hc)];exact hw
  .by_cases e:c=a
   .subst e;rw[zah]at hc ⊢;exact hc
   .rw[upd_ne e]at hc ⊢;exact hH c w hc
  .obtain⟨cc,q,s,d,ns,hb,z⟩:=r.bx.ex;exact⟨⟨cc,q,s,d,ns,by rw[upd_ne (YAK ab)];exact hb,z⟩,r.bx.still⟩
 have k':=(k.mono r.stp.gg r.apart).put h hf ha hm hy;exact⟨u.eff r ef,r.eff (λc hc=>⟨(u.mb c hc).1,(u.mb c hc).2.2⟩) ef ⟨ad,k'⟩,k',dm⟩
def RelF.put(u:Out b M G1)(r:Rel (reB b qj M G1) S Z H G)(k:Kn b.K b.β G1 qj M ad)(h:qj p=some o)(hf:IsF o f j xs)(ha:(ad p)[j]?=some a)(hm:M a=some (.lst vs))(hy:Reps (nub b.K b.β G) G ys ws):RelF b (upS qj p (setF o j f ys)) (upd M a (.lst ws)) S Z (upd H a (.lst ws)) G/\Dm M (upd M a (.lst ws)):=
 let⟨h1,h2,_,h4⟩:=RelF.put' u r k h hf ha hm hy
 ⟨⟨G,h1,h2⟩,h4⟩
end
section
variable{X:Cx}{b:Bo}{c:Bk}{e:Expr}{pos p fpos apos cpos:Pos}
def zqG(h:Reps (nub K β G) G ds vs)(s:Same G G'):Reps (nub K β G') G' ds vs:=Reps.back (c':=nub K β G) (c:=nub K β G') rfl rfl (λ_ e=>e) (h.mono s)
def appO(i:Nat)(f:Str)(C:Addr)(A:Sto->WE):WF:=λE qj S=>match S[i]? with
 |some (.val (.obj q))=>∃o j xs,qj q=some o/\o.C=C/\IsF o f j xs/\A qj S λd=>xs.length<100000/\E.nx (upS qj q (setF o j f (xs++[d.old]))) S
 |_=>False
def zqC(i:Nat)(hA:∀qj M G1,DE X (reB b qj M G1) e (A qj))(hc:Cls X.K C)(hn:NoAttr X.K C f)(hN:X.N[i]?=some x:=by rfl)(hv:Vis X.env.scope x:=by first|exact Or.inl rfl|exact Or.inr (Or.inl rfl)|exact Or.inr (Or.inr rfl))
  (hd:(x==("__debug__":Str))=false:=by decide) (hcd:(x==("__classdict__":Str))=false:=by decide)
  (hb0:attributeBase (.Name x p) f X.env (eval (.Name x p) X.env)=eval (.Name x p) X.env:=by rfl)
  (hbase:attributeBase (.Attribute (.Name x p) f fpos) "append" X.env (eval (.Attribute (.Name x p) f fpos) X.env)=eval (.Attribute (.Name x p) f fpos) X.env:=by rfl)
  (hfew:((backTo cpos (starEach [e] X.env)).all (λx=>!x.1)&&(backToKw cpos (keywordEach [] X.env)).all (λx=>x.1.isSome)
   && decide (([e]:List Expr).length+([]:List Keyword).length+(if ([]:List Keyword).isEmpty then 0 else 1)<30))=true:=by rfl)
  (hline:(apos.endLine==cpos.line)=true:=by rfl) (hs:starEach [e] X.env=(false,eval e X.env)::starEach [] X.env:=by rfl)
  (hsw:swapsWith (.Call (.Attribute (.Attribute (.Name x p) f fpos) "append" apos) [e] [] cpos) none pos.line X.env=pure false:=by rfl) (hK:b.K=X.K:=by rfl):OS X b (.Expr (.Call (.Attribute (.Attribute (.Name x p) f fpos) "append" apos) [e] [] cpos) pos) (appO i f C A)where
 mono:=λE E' qj S l q=>by
  unfold appO at q ⊢;split at q
  .obtain⟨o,j,xs,h1,h2,h3,q⟩:=q;exact⟨o,j,xs,h1,h2,h3,(hA qj (λ_=>none) (λ_=>none)).mono S _ _ (λd z=>⟨z.1,l.nx _ _ z.2⟩) q⟩
  .exact q.elim
 ps:=λpins s Z H D I ⟨S,G,qj,M,⟨G1,u,r⟩,q⟩=>zj9 (zpk YB7 PySem.F.slot_list_append PySem.F.type_list_append zgJ (znd (zbw hN hv hd hcd) hb0) (zaC (hA qj M G1).pe zbf hs) hbase hfew hline hs rfl) hsw pins s Z H D I (by
  unfold appO at q;split at q
  .rename_i a0 ei
   obtain⟨o,j,xs,h1,h2,h3,q⟩:=q;obtain⟨ad,k⟩:=r.kn;obtain⟨dx,a,vs,k1,k2,k3,k4,k5⟩:=k.at h1 h3;obtain⟨v,ev,rv⟩:=r.slot i _ ei;have rv':v=V.ref a0:=rv;subst rv';have hM:∀c w,M c=some w->H c=some w:=λc w hc=>r.stp.fr c w (u.mb c (by rw[hc];simp)).2.2 (zf0 hc);refine⟨.ref a0,ev,a0,o.C,dx,_,.ref a,rfl,hM _ _ k1,h2▸hc,h2▸hn,k2,.inl ⟨rfl,vs,SqL.of (hM _ _ k4)⟩,S,G,r,(hA qj M G1).mono S _ _ (λd z w H' G' t e=>?_) q⟩;have r':=r.step t;have ab:=(u.mb a (by rw[k4];simp)).2.2;have hy:Reps (nub b.K b.β G') G' (xs++[d.old]) (vs++[w]):=(zqG k5 r'.stp.gg).append (.one (Rep.hand (c:=reB b qj M G1) (c':=nub b.K b.β G') rfl rfl e));obtain⟨r2,dm⟩:=RelF.put u r' k h1 h3 k3 k4 hy;exact⟨a,vs,w,rfl,rfl,t.fr a _ ab (hM _ _ k4),by rw[<-k5.length,YAX];have:=z.1;omega,z.2 Z _ G' _ r2 t.gg dm⟩
  .exact q.elim)
def fixW(qj:Sto)(i:Nat)(f:Str)(C:Addr)(B:WE):WE:=λS Q=>match S[i]? with
 |some (.val (.obj q))=>∃o j xs,qj q=some o/\o.C=C/\IsF o f j xs/\B S λy=>itD xs y λd=>Q d.old
 |_=>False
def Knw(c:Bk)(qj:Sto):Prop:=∃M ad,Kn c.K c.β c.G0 qj M ad/\∀a o,M a=some o->c.H0 a=some o
def zqU(h:(reB b qj M G1).P):Knw (reB b qj M G1) qj:=let⟨ad,k⟩:=h;⟨M,ad,k,λ_ _ e=>zf0 e⟩
def Rel.obj(r:Rel c S Z H G)(kw:Knw c qj)(h:qj q=some o)(hf:IsF o f j xs):∃dx fs a vs,H q=some (.ins o.C dx fs)/\fs.lookup f=some (.ref a)/\H a=some (.lst vs)/\Reps (nub c.K c.β G) G xs vs/\a≠c.β/\G a=none:=by
 obtain⟨M,ad,k,sub⟩:=kw;obtain⟨dx,a,vs,k1,k2,k3,k4,k5⟩:=k.at h hf;have ma:M a≠none:=by rw[k4];simp
 refine⟨dx,_,a,vs,r.stp.fr q _ (k.ap q (by rw[k1];simp)).2 (sub _ _ k1),k2,r.stp.fr a _ (k.ap a ma).2 (sub _ _ k4),zqG k5 r.stp.gg,(k.ap a ma).2,?_⟩;cases e:G a with
 |none=>rfl
 |some w=>
  rcases r.stp.nw a (by rw[e];simp)with z|z|⟨w',z,st⟩
  .exact absurd (k.ap a ma).1 z
  .rw[sub _ _ k4]at z;cases z
  .rw[sub _ _ k4]at z;cases z;exact st.elim
end
section
variable{X:Cx}{b:Bo}{c:Bk}{e:Expr}{qj:Sto}{C:Addr}{f:Str}{pos p fpos lp:Pos}
def zu1(i:Nat)(hB:DE X c e B)(hk:c.P->Knw c qj)(hc:Cls X.K C)(hn:NoAttr X.K C f)(hs:zkT e:=by intro _ _;rfl)(hN:X.N[i]?=some x:=by rfl)(hv:Vis X.env.scope x:=by first|exact Or.inl rfl|exact Or.inr (Or.inl rfl)|exact Or.inr (Or.inr rfl))
  (hd:(x==("__debug__":Str))=false:=by decide) (hcd:(x==("__classdict__":Str))=false:=by decide) (hb0:attributeBase (.Name x p) f X.env (eval (.Name x p) X.env)=eval (.Name x p) X.env:=by rfl) (hK:c.K=X.K:=by rfl):DE X c (.Subscript (.Attribute (.Name x p) f fpos) e pos) (fixW qj i f C B)where
 mono:=λS Q Q' k q=>by
  unfold fixW at q ⊢;split at q
  .obtain⟨o,j,xs,h1,h2,h3,q⟩:=q;exact⟨o,j,xs,h1,h2,h3,hB.mono S _ _ (λy z=>zlf (λd w=>k _ w) z) q⟩
  .exact q.elim
 pe:=zas (zgo (hK▸zqK (X:=X)) (znd (zbw hN hv hd hcd) hb0) hB.pe hs) λZ H Q ⟨S,G,r,q⟩=>by
  unfold fixW at q;split at q
  .rename_i a0 ei
   obtain⟨o,j,xs,h1,h2,h3,q⟩:=q;obtain⟨dx,fs,a,vs,g1,g2,g3,g4,g5,g6⟩:=r.obj (hk r.kn) h1 h3;obtain⟨v,ev,rv⟩:=r.slot i _ ei;have rv':v=V.ref a0:=rv;subst rv';refine⟨.ref a0,ev,a0,o.C,dx,fs,.ref a,rfl,g1,h2▸hc,h2▸hn,g2,S,G,r,hB.mono S _ _ (λy z w H1 G1 t1 e1=>?_) q⟩;cases y with
   |int k=>
    cases e1;have z:(match atI xs k with|some d=>_|none=>False):=z;split at z
    .rename_i d' e'
     obtain⟨w',f',rw'⟩:=zkh g4 e';exact .inl ⟨a,vs,k,w',rfl,rfl,SqL.of (t1.fr a _ g5 g3),f',z w' H1 G1 t1 ((Rep.hand (c:=nub c.K c.β G) (c':=c) rfl rfl rw').mono t1.gg)⟩
    .exact z.elim
   |_=>exact z.elim
  .exact q.elim
def lstF(qj:Sto)(i:Nat)(f:Str)(C:Addr):WL:=λS Q=>match S[i]? with
 |some (.val (.obj q))=>∃o j xs,qj q=some o/\o.C=C/\IsF o f j xs/\Q (xs.map D.old)
 |_=>False
def zv4(i:Nat)(hk:c.P->Knw c qj)(hc:Cls X.K C)(hn:NoAttr X.K C f)(hN:X.N[i]?=some x:=by rfl)(hv:Vis X.env.scope x:=by first|exact Or.inl rfl|exact Or.inr (Or.inl rfl)|exact Or.inr (Or.inr rfl))
  (hd:(x==("__debug__":Str))=false:=by decide) (hcd:(x==("__classdict__":Str))=false:=by decide) (hb0:attributeBase (.Name x p) f X.env (eval (.Name x p) X.env)=eval (.Name x p) X.env:=by rfl) (hg:Gl X "list":=by rfl) (he:starEach [.Attribute (.Name x p) f fpos] X.env=(false,eval (.Attribute (.Name x p) f fpos) X.env)::starEach [] X.env:=by rfl) (hK:c.K=X.K:=by rfl) (hm:X.mg "list"=none:=by decreasing_trivial):DF X c (.Call (.Name "list" lp) [.Attribute (.Name x p) f fpos] [] pos) (lstF qj i f C)where
 mono:=λS Q Q' k q=>by
  unfold lstF at q ⊢;split at q
  .obtain⟨o,j,xs,h1,h2,h3,q⟩:=q;exact⟨o,j,xs,h1,h2,h3,k _ q⟩
  .exact q.elim
 pe:=zas (zck zdV hg hm YBt (zaC (znd (zbw hN hv hd hcd) hb0) zbf he) (by decide) (by decide) he rfl) λZ H Q ⟨S,G,r,q⟩=>by
  unfold lstF at q;split at q
  .rename_i a0 ei
   obtain⟨o,j,xs,h1,h2,h3,q⟩:=q;obtain⟨dx,fs,a,vs,g1,g2,g3,g4,g5,g6⟩:=r.obj (hk r.kn) h1 h3;obtain⟨v,ev,rv⟩:=r.slot i _ ei;have rv':v=V.ref a0:=rv;subst rv';refine⟨.ref a0,ev,a0,o.C,dx,fs,.ref a,rfl,g1,h2▸hc,h2▸hn,g2,a,vs,rfl,.inl (SqL.of g3),λl hl=>q l vs _ _ (Stp.own r.gh r.bx hl) zah (zap r.gh hl) hl (Reps.hand (c:=nub c.K c.β G) (c':=c) rfl rfl g4)⟩
  .exact q.elim
end
def spR(K:qk)(n:Nat)(F:Sto->Fn):Sp:=λvs H Q _=>∃ β G qj ds,Same G H/\BoxD β H G/\(∃M ad,Kn K β G qj M ad/\∀a o,M a=some o->H a=some o)/\Reps (nub K β G) G ds vs/\vs.length=n /\
 up (F qj) ds λd=>∀v H' G',Stp β H G H' G'->Rep ⟨K,β,H,G,True⟩ G' d v->Q v H'
abbrev rdB(K:qk)(β:Addr)(H G:Hp)(qj:Sto):Bk:=⟨K,β,H,G,∃M ad,Kn K β G qj M ad/\∀a o,M a=some o->H a=some o⟩
def zb2(h:(rdB K β H G qj).P):Knw (rdB K β H G qj) qj:=h
def zdS{P:Program}{w:World}{K:qk}{mg:Str->Option Value}{base:Heap}{x qual:Str}{st:Stmt}{f:Addr}{fd:FuncData}{N ps:List Str}{k:Nat}{B:Sto->WS}(F:Fun K x qual st f fd)
  (hB:∀{cdv:Value}{A:Around}{outer:List PySem.Env}{s:Shared}{H:Hp}{E:XK}{β:Addr}{G:Hp}(qj:Sto),N.Nodup->Room k (A.deeper (PyProof.Rows.envOfC qual (zao st) s.heap.objs.size f cdv)) ->
   DSs (cxOf CX0 P w K mg base N qual (zao st) f cdv A outer s H E).nox (rdB K β H G qj) (zbe st) (B qj)) (qj:FnScope N ps (zao st):=by exact⟨rfl,rfl,rfl,by decide +kernel,rfl,by decide +kernel,by decide +kernel⟩):FnOk P w K mg base CX0 (k+1) f fd ps (spR K ps.length λSo=>fnW N.length (B So)):=by
 refine F.ok qj (λvs H Q E ⟨β,G,So,ds,_,_,_,_,h,_⟩=>h) (λcdv A outer s H vs Q E hr ⟨β,G,So,ds,gh,bx,kn,hv,hl,P',q,hP⟩=>?_);have h:=@hB cdv A outer s H E β G So qj.nd hr;have r0:Rel (rdB K β H G So) (zaI N.length ds) (L2.zdq N vs) H G:=(zdh (N:=N) gh bx hv).hyp kn;refine⟨_,h.pss,zaI N.length ds,G,r0,h.mono {nx:=λ_=>P' .non,rt:=P',bk:=λ_=>False,ct:=λ_=>False} _ _ ⟨λS z Z H' G' r s'=>hP _ z .non H' G' r.stp rfl,λd z v H' G' t e=>hP _ z v H' G' t (Rep.reb (c:=⟨K,β,H,G,True⟩) (c':=rdB K β H G So) rfl rfl (λ_ _ w=>w) e),λS z=>z.elim,λS z=>z.elim⟩ q⟩
section
variable{X:Cx}{c:Bk}{e:Expr}{es:List Expr}{qj:Sto}{pos p apos:Pos}
def Rel.know(r:Rel c S Z H G)(kw:Knw c qj):∃M ad,Kn c.K c.β G qj M ad/\∀a o,M a=some o->H a=some o:=by
 obtain⟨M,ad,k,sub⟩:=kw;refine⟨M,ad,k.mono r.stp.gg λa ma=>?_,λa o h=>r.stp.fr a o (k.ap a (by rw[h];simp)).2 (sub a o h)⟩;cases e:G a with
 |none=>rfl
 |some w=>
  cases y:M a with
  |none=>exact absurd y ma
  |some u=>
   rcases r.stp.nw a (by rw[e];simp)with z|z|⟨w',z,st⟩
   .exact absurd (k.ap a ma).1 z
   .rw[sub _ _ y]at z;cases z
   .rw[sub _ _ y]at z;cases z;exact absurd st (k.kin a _ y)
def Rel.read(r:Rel c S Z H G)(kw:Knw c qj)(hK:c.K=X.K)(e:Reps c G ds vs)(hn:ds.length=n)(q:up (F qj) ds λd=>∀v H' G',Stp c.β H G H' G'->Rep c G' d v->Q v H'):spR X.K n F vs H Q E:=by
 obtain⟨M,ad,k,sub⟩:=r.know kw;exact⟨c.β,G,qj,ds,r.gh,r.bx,⟨M,ad,hK▸k,sub⟩,Reps.back (c':=c) (c:=nub X.K c.β G) hK rfl (λ_ _=>rfl) e,by rw[<-e.length];exact hn,
  zbY (F qj) ds _ _ (λd z v H2 G2 t2 e2=>z v H2 G2 t2 (Rep.back (c':=⟨X.K,c.β,H,G,True⟩) (c:=c) hK.symm rfl (λa h=>r.new0 h) e2)) q⟩
@[reducible] def zoD(qj:Sto)(n:Nat)(F:Sto->Fn)(R:WL):WE:=λS Q=>R S λds=>ds.length=n/\up (F qj) ds Q
def zod(C:Cal X.prog X.w X.K X.mg X.base x k ps (spR X.K n F))(hR:DA X c (e::es) R)(hk:c.P->Knw c qj)(hg:Gl X x:=by rfl)
  (hdb:(x==("__debug__":Str))=false:=by decide) (he:starEach (e::es) X.env=(false,eval e X.env)::starEach es X.env:=by rfl) (hpl:(backTo pos (starEach es X.env)).any (·.1)=false:=by rfl) (hK:c.K=X.K:=by rfl) (hr:Room k X.A:=by decreasing_trivial) :
  DE X c (.Call (.Name x p) (e::es) [] pos) (zoD qj n F R)where
 mono:=λS Q Q' k q=>hR.mono S _ _ (λds z=>⟨z.1,zbY (F qj) ds _ _ k z.2⟩) q
 pe:=by
  obtain⟨f,fd,FO,hm,hkp,hb⟩:=C.ex;refine zas (zdU FO hr hg hm hkp hb .nil zko hR.pa hdb he hpl) λZ H Q ⟨S,G,r,q⟩=>⟨S,G,r,hR.mono S _ _ (λds z vs H' G' t e=>?_) q⟩;show spR X.K n F (vs++[]) H' Q E0;rw[YA1];exact(r.step t).read (hk r.kn) hK e z.1 (zbY (F qj) ds _ _ (λd w v H2 G2 t2 e2=>w v H2 G2 (t.trans t2) e2) z.2)
def zcj(qj:Sto)(i:Nat)(C:Addr)(m:Str)(n:Nat)(F:Sto->Fn)(R:WL):WE:=λS Q=>match S[i]? with
 |some (.val (.obj a))=>(∃o,qj a=some o/\o.C=C/\∀x∈o.fs,x.1≠m)/\R S λds=>ds.length+1=n/\up (F qj) (.obj a::ds) Q
 |_=>False
def zmw(h:zfy R):zbO (zcj qj i C m n F R):=λS Q Q' k q=>by
 unfold zcj at q ⊢;split at q
 .exact⟨q.1,h S _ _ (λds z=>⟨z.1,zbY (F qj) _ _ _ k z.2⟩) q.2⟩
 .exact q.elim
def zmg(hk:c.P->Knw c qj)(hK:c.K=X.K)(hR:zfy R)(ht:∀ Z H Q,tDs c R Z H Q->t Z H Q)(q:tD c (zcj qj i C m n F R) Z H Q) :
  zmb C m (spR X.K n F) [] E0 (λZ H Q=>∃v,Z[i]?=some (some v)/\Q v H) t Z H Q:=by
 obtain⟨S,G,r,q⟩:=q;unfold zcj at q;split at q
 .rename_i a ei
  obtain⟨⟨o,h1,h2,h3⟩,q⟩:=q;obtain⟨v,ev,rv⟩:=r.slot i _ ei;have rv':v=V.ref a:=rv;subst rv';obtain⟨M,ad,k,sub⟩:=r.know (hk r.kn);obtain⟨dx,g1,_⟩:=k.obj a o h1;refine⟨.ref a,ev,a,dx,_,rfl,h2▸sub _ _ g1,zfw h3,ht _ _ _ ⟨S,G,r,hR S _ _ (λds z vs H' G' t e=>?_) q⟩⟩;show spR X.K n F (V.ref a::(vs++[])) H' Q E0;rw[YA1];exact(r.step t).read (hk r.kn) hK (ds:=.obj a::ds) ⟨V.ref a,vs,rfl,rfl,e⟩ z.1 (zbY (F qj) _ _ _ (λd w v H2 G2 t2 e2=>w v H2 G2 (t.trans t2) e2) z.2)
 .exact q.elim
def zbt(T:Met X.prog X.w X.K X.mg X.base CX0 C m k ps (spR X.K n F))(hk:c.P->Knw c qj)(hN:X.N[i]?=some x:=by rfl)(hv:Vis X.env.scope x:=by first|exact Or.inl rfl|exact Or.inr (Or.inl rfl)|exact Or.inr (Or.inr rfl))
  (hd:(x==("__debug__":Str))=false:=by decide) (hcd:(x==("__classdict__":Str))=false:=by decide)
  (ht:eval (.Call (.Attribute (.Name x p) m apos) [] [] pos) X.env=(do
   let ov <-eval (.Name x p) X.env
   standAt apos.atName
   let(f,first) <-holding [ov] (getMethod ov m pl)
   callWith pos f first (backTo pos (starEach [] X.env)) (backToKw pos (keywordEach [] X.env))):=by rfl) (hK:c.K=X.K:=by rfl) (hr:Room k X.A:=by decreasing_trivial) :
  DE X c (.Call (.Attribute (.Name x p) m apos) [] [] pos) (zcj qj i C m n F (λ_ Q=>Q []))where
 mono:=zmw (λ_ Q Q' k q=>k _ q)
 pe:=by
  obtain⟨f,fd,FO,hc,hm,hb⟩:=T.ex;exact zas (zqf (zbw hN hv hd hcd) hc hm FO hr hb .nil zko ht) λZ H Q q=>zmg hk hK (λ_ Q Q' k q=>k _ q) (λZ H Q ⟨S,G,r,q⟩=>q [] H G r.refl rfl) q
end
def zaR{α:Type}:List Str->List α->Str->Option α
 |k::ks,x::xs,z=>if k=z then some x else zaR ks xs z
 |_,_,_=>none
theorem zel:∀{ks:List Str}{vs:List V}{z:Str},valV (kvD ks vs) (Sum.inr z)=zaR ks vs z
 |[],_,_=>rfl
 |_::_,[],_=>rfl
 |k::ks,v::vs,z=>by
  show valV (((Sum.inr k:Key),v)::kvD ks vs) (Sum.inr z)=if k=z then some v else zaR ks vs z;by_cases e:k=z
  .rw[if_pos e,ze5 (p:=((Sum.inr k:Key),v)) (by rw[e])]
  .rw[if_neg e,zeO (p:=((Sum.inr k:Key),v)) (λy=>e (Sum.inr.inj y)),zel]
theorem zeL :∀{ks:List Str}{xs:List D}{vs:List V}{z:Str}{d:D},Reps c G xs vs->zaR ks xs z=some d->∃v,zaR ks vs z=some v/\Rep c G d v
 |[],_,_,_,_,_,h=>by simp[zaR]at h
 |_::_,[],_,_,_,_,h=>by simp[zaR]at h
 |k::ks,x::xs,vs,z,d,⟨v,ws,h1,h2,h3⟩,h=>by
  subst h1;unfold zaR at h ⊢;by_cases e:k=z
  .rw[if_pos e]at h ⊢;cases h;exact⟨v,rfl,h2⟩
  .rw[if_neg e]at h ⊢;exact zeL h3 h
def optD(o:Option D)(Q:D->Prop):Prop:=match o with|some d=>Q d|none=>False
def zgx(k:∀d,Q d->Q' d)(q:optD o Q):optD o Q':=by
 cases o with
 |none=>exact q
 |some d=>exact k _ q
def zay:F2
 |.dct _ ks xs,.str z,Q=>optD (zaR ks xs z) Q
 |.fdc ks xs,.str z,Q=>optD (zaR ks xs z) Q
 |_,_,_=>False
def zoI:zbi zay:=λx y Q Q' k q=>by
 unfold zay at q ⊢;split at q
 .exact zgx k q
 .exact zgx k q
 .exact q.elim
section
variable{X:Cx}{c:Bk}{a i:Expr}{pos p:Pos}
def zar(hA:DE X c a A)(hB:DE X c i B)(hs:NoSl i:=by intro _ _;rfl)(hu:X.A.units+1<cLine:=by decreasing_trivial):DE X c (.Subscript a i pos) (binW zay A B)where
 mono:=zeg zoI hA.mono hB.mono
 pe:=zas (znS hu hA.pe hB.pe hs) λZ H Q ⟨S,G,r,q⟩=>⟨S,G,r,hA.mono S _ _ (λx zx vx H1 G1 t1 e1=>⟨S,G1,r.step t1,hB.mono S _ _ (λy zy vy H2 G2 t2 e2=>by
  unfold zay at zy;split at zy
  .rename_i n ks xs z
   obtain⟨d0,vs,h1,h2,_,h4,h5⟩:=e1;subst h1;have ey:vy=V.str z:=e2;subst ey;cases e:zaR ks xs z with
   |none=>rw[e]at zy;exact zy.elim
   |some d=>
    rw[e]at zy;obtain⟨v,f1,f2⟩:=zeL h5 e;refine⟨d0,v,rfl,?_,zy v H2 G2 (t1.trans t2) (f2.mono t2.gg)⟩
    have:=DGet.k (k:=Sum.inr z) (t2.gh _ _ (t2.gg _ _ h2))
    rw[zel,f1]at this;exact this
  .rename_i ks xs z
   obtain⟨d0,vs,o,h1,h2,h4,h5⟩:=e1;subst h1;have ey:vy=V.str z:=e2;subst ey;cases e:zaR ks xs z with
   |none=>rw[e]at zy;exact zy.elim
   |some d=>
    rw[e]at zy;obtain⟨v,f1,f2⟩:=zeL h5 e;refine⟨d0,v,rfl,?_,zy v H2 G2 (t1.trans t2) (f2.mono t2.gg)⟩
    have:DGet H2 d0 (V.str z) (valV (kvD ks vs) (Sum.inr z)):=.inl ⟨_,.inr z,.inr ⟨o,t2.gh _ _ (t2.gg _ _ h2)⟩,rfl,rfl⟩
    rw[zel,f1]at this;exact this
  .exact zy.elim) zx⟩) q⟩
def zd2:CallR X (.type "dict") (λxs H Q=>∃a kvs,xs=[.ref a]/\Rd H a (.dK kvs)/\∀l,H l=none->Q (.ref l) (upd H l (.dK kvs))):=by
 intro pins s Z H xs us Q I r h;obtain⟨a,kvs,rfl,ha,q⟩:=h;obtain⟨u,rfl,rx⟩:=zeC r;cases rx;exact zpl I ha λp s' hp I'=>⟨.ref p,_,I',rfl,q p hp⟩
end
def putKs(ks:List Str)(z:Str):List Str:=if ks.contains z then ks else ks++[z]
def putVs{α:Type}(ks:List Str)(vs:List α)(z:Str)(w:α):List α:=if ks.contains z then List.zipWith (λk x=>if k=z then w else x) ks vs else vs++[w]
theorem zn8:∀{ks:List Str}{vs:List V},ks.length=vs.length->(kvD ks vs).any (λkv=>decide (kv.1=(Sum.inr z:Key)))=ks.contains z
 |[],[],_=>rfl
 |k::ks,v::vs,h=>by
  show(decide ((Sum.inr k:Key)=Sum.inr z) || (kvD ks vs).any _)=_;rw[zn8 (by simpa using h),List.contains_cons];congr 1;by_cases e:k=z
  .subst e;simp
  .rw[YAp (λy=>e (Sum.inr.inj y))];symm;rw[YAU];exact λy=>e y.symm
theorem znY :∀{ks:List Str}{vs:List V},ks.length=vs.length->(kvD ks vs).map (λkv=>if kv.1=(Sum.inr z:Key)then(kv.1,w)else kv)=kvD ks (List.zipWith (λk x=>if k=z then w else x) ks vs)
 |[],[],_=>rfl
 |k::ks,v::vs,h=>by
  show(if (Sum.inr k:Key)=Sum.inr z then((Sum.inr k:Key),w)else(Sum.inr k,v))::(kvD ks vs).map _=(Sum.inr k,if k=z then w else v)::kvD ks _;rw[znY (by simpa using h)];congr 1;by_cases e:k=z
  .subst e;simp
  .rw[if_neg (λy=>e (Sum.inr.inj y)),if_neg e]
def zhB(h:ks.length=vs.length):putK (kvD ks vs) (Sum.inr z) w=kvD (putKs ks z) (putVs ks vs z w):=by
 unfold putK putKs putVs;rw[zn8 h];by_cases e:ks.contains z=true
 .rw[if_pos e,if_pos e,if_pos e,znY h]
 .rw[if_neg e,if_neg e,if_neg e];unfold kvD;rw[List.zip_append h,YAC];rfl
theorem zl7(hd:Rep c G d w):∀{ks:List Str}{xs:List D}{vs:List V},Reps c G xs vs->Reps c G (List.zipWith (λk x=>if k=z then d else x) ks xs) (List.zipWith (λk x=>if k=z then w else x) ks vs)
 |[],_,_,_=>rfl
 |_::_,[],_,h=>by cases h;rfl
 |k::ks,x::xs,_,⟨v,ws,h1,h2,h3⟩=>by
  subst h1;refine⟨if k=z then w else v,_,rfl,?_,zl7 hd h3⟩;show Rep c G (if k=z then d else x) (if k=z then w else v);by_cases e:k=z
  .rw[if_pos e,if_pos e];exact hd
  .rw[if_neg e,if_neg e];exact h2
def zeV(hd:Rep c G d w)(h:Reps c G xs vs):Reps c G (putVs ks xs z d) (putVs ks vs z w):=by
 unfold putVs;by_cases e:ks.contains z=true
 .rw[if_pos e,if_pos e];exact zl7 hd h
 .rw[if_neg e,if_neg e];exact h.append (.one hd)
def zhT(h:ks.length=vs.length):(putKs ks z).length=(putVs ks vs z w).length:=by
 unfold putKs putVs;by_cases e:ks.contains z=true
 .rw[if_pos e,if_pos e,List.length_zipWith,<-h];simp
 .rw[if_neg e,if_neg e,YAk,YAk,h];rfl
section
variable{X:Cx}{c:Bk}{p1 p2 p3 p4 p5 p6 p7 p8 p9 p10 p11 p12:Pos}
def zqh(ib iw iv i:Nat):WS:=λE S=>match S[ib]?,S[iw]?,S[iv]? with
 |some (.val (.dct _ ks xs)),some (.val (.str z)),some (.val d)=>i<S.length/\ks.length<1000/\E.rt (.dct true (putKs ks z) (putVs ks xs z d))
 |_,_,_=>False
def ztl(ib iw iv i:Nat)(hi:X.N[i]?=some x:=by rfl)(hx:X.env.scope.names.lookup x=some .local:=by rfl)(hdx:(x==("__debug__":Str))=false:=by decide)(hcx:(x==("__classdict__":Str))=false:=by decide)
  (hb:PE X (.Name nb p3) (tVar ib)) (hw:PE X (.Name nw p6) (tVar iw)) (hv:PE X (.Name nv p7) (tVar iv)) (nb':i≠ib:=by decide) (nw':i≠iw:=by decide) (nv':i≠iv:=by decide)
  (hg:Gl X "dict":=by rfl) (he:starEach [.Name nb p3] X.env=(false,eval (.Name nb p3) X.env)::starEach [] X.env:=by rfl) (hm:X.mg "dict"=none:=by decreasing_trivial)
  (hs1:swapsWith (.Call (.Name "dict" p2) [.Name nb p3] [] p4) (some (.Name x p1)) p5.line X.env=pure false:=by rfl) (hs2:swapsWith (.Name nv p7) (some (.Subscript (.Name x p8) (.Name nw p6) p9)) p10.line X.env=pure false:=by rfl)
  (hu:X.A.units+1<cLine:=by decreasing_trivial) (hN:X.N.Nodup:=by decreasing_trivial) :
  DSs X c [.Assign [.Name x p1] (.Call (.Name "dict" p2) [.Name nb p3] [] p4) p5,.Assign [.Subscript (.Name x p8) (.Name nw p6) p9] (.Name nv p7) p10,.Return (some (.Name x p11)) p12] (zqh ib iw iv i)where
 mono:=λE E' S l q=>by
  unfold zqh at q ⊢;split at q
  .exact⟨q.1,q.2.1,l.rt _ q.2.2⟩
  .exact q.elim
 pss:=by
  have pvx:∀{p:Pos},PE X (.Name x p) (tVar i):=λ{p}=>zbw hi (.inl hx) hdx hcx;refine zfu (zaY (zdG hN hi (.inl hx) (zck zd2 hg hm YCd (zaC hb zbf he) (by decide) (by decide) he rfl) hs1 (.inr hx)) (zaY (zkv hu pvx hw hv hs2) (zd1 (zfM pvx)))) λD Z H ⟨S,G,r,q⟩=>?_;unfold zqh at q;split at q
  .rename_i n ks xs z d e1 e2 e3
   obtain⟨hl,q⟩:=q;rw[r.len]at hl;obtain⟨v1,s1,a,vs,h1,h2,_,h4,h5⟩:=r.slot ib _ e1;obtain⟨v2,s2,r2⟩:=r.slot iw _ e2;obtain⟨v3,s3,r3⟩:=r.slot iv _ e3;subst h1;have e:v2=V.str z:=r2;subst e;have qe:∀{j:Nat}{l:Addr},i≠j->(Z.set i (some (.ref l)))[j]?=Z[j]?:=λh=>YAl h;refine⟨.ref a,s1,a,_,rfl,.inl (r.gh _ _ h2),λl hl0=>?_⟩;have at_:(Z.set i (some (.ref l)))[i]?=some (some (.ref l)):=YAi hl;have len:(kvD ks vs).length<sizeLine:=by
    unfold kvD;rw[YAb,YBi,<-h4,YBH,YAX];have:=q.1;omega
   refine⟨v3,(qe nv').trans s3,.ref l,at_,.str z,(qe nw').trans s2,l,_,rfl,DPut.k (k:=.inr z) zah len,?_⟩;rw[zka,zhB h4];refine⟨.ref l,at_,?_⟩;have gl:=zap r.gh hl0;have sg:Same G (upd G l (.dK (kvD (putKs ks z) (putVs ks vs z v3)))):=zb0 gl;exact q.2 (.ref l) _ _ (r.stp.trans (Stp.new r.gh r.bx hl0)) ⟨l,_,rfl,zah,λ_=>r.new0 hl0,zhT h4,(zeV r3 h5).mono sg⟩
  .exact q.elim
end
def Stp.wrS(s:Stp β H G H2 G2)(h0:H p=none)(hb:p≠β)(g2:G2 p=none):Stp β H G (upd H2 p o) (upd G2 p o):=
 ⟨s.gg.trans (zb0 g2),λa u e=>by
  by_cases z:a=p
  .subst z;rw[zah]at e ⊢;exact e
  .rw[upd_ne z]at e ⊢;exact s.gh a u e,
 λa u n e=>by
  have z:a≠p:=λz=>by rw[z,h0]at e;cases e
  rw[upd_ne z];exact s.fr a u n e,
 λa e=>by
  by_cases z:a=p
  .subst z;exact .inr (.inl h0)
  .rw[upd_ne z]at e;exact s.nw a e,
 ⟨by
   obtain⟨cc,q,r,d,ns,h,p1,p2,p3,p4,hc,w⟩:=s.bx.ex;exact⟨cc,q,r,d,ns,by rw[upd_ne (YAK hb)];exact h,p1,p2,p3,p4,by rw[upd_ne (zau hc g2)];exact hc,w⟩,by rw[upd_ne (YAK hb)];exact s.bx.still⟩,
 s.b0,λcc q r d h=>by
  obtain⟨q1,r1,d1,h1⟩:=s.bc cc q r d h;exact⟨q1,r1,d1,by rw[upd_ne (YAK hb)];exact h1⟩⟩
structure DP(X:Cx)(c:Bk)(pos:Pos)(keys:List (Option Expr))(values:List Expr)(ks:List Str)(R:WL):Prop where
 mono:zfy R
 ex:∃trs,PPs X pos keys values trs/\∀ Z H (Q:List (V×V)->Hp->Prop),(∃ S G,Rel c S Z H G/\R S λds=>∀vs H' G',Stp c.β H G H' G'->Reps c G' ds vs->Q ((ks.zip vs).map λp=>(V.str p.1,p.2)) H')->zlJ trs Z H Q
section
variable{X:Cx}{c:Bk}{pos kpos:Pos}{keys:List (Option Expr)}{values:List Expr}{e:Expr}{ks:List Str}{R:WL}
def zq2:DP X c pos [] [] [] (λ_ Q=>Q []):=⟨λS Q Q' k q=>k _ q,[],zsH,λZ H Q ⟨S,G,r,q⟩=>q [] H G r.refl rfl⟩
def zcq(hA:DE X c e A)(hR:DP X c pos keys values ks R):DP X c pos (some (.Constant (.str k) n kpos)::keys) (e::values) (k::ks) (λS Q=>A S λd=>R S λds=>Q (d::ds)):=by
 obtain⟨m,trs,h1,h2⟩:=hR;refine⟨λS Q Q' k q=>hA.mono S _ _ (λd z=>m S _ _ (λds y=>k _ y) z) q,_,zpC zqW hA.pe h1,λZ H Q ⟨S,G,r,q⟩=>?_⟩;exact⟨S,G,r,hA.mono S _ _ (λd z v H1 G1 t1 e1=>h2 Z H1 _ ⟨S,G1,r.step t1,m S _ _ (λds y vs H2 G2 t2 e2=>y (v::vs) H2 G2 (t1.trans t2) ⟨v,vs,rfl,e1.mono t2.gg,e2⟩) z⟩) q⟩
theorem zlR:∀{ks:List Str}{vs:List V},ks.length=vs.length->(kvD ks vs).map (·.1)=ks.map (Sum.inr:Str->Key)
 |[],[],_=>rfl
 |k::ks,v::vs,h=>by
  show(Sum.inr k:Key)::(kvD ks vs).map (·.1)=_;rw[zlR (by simpa using h)];rfl
theorem zi8:∀{ks:List Str},ks.Nodup->(ks.map (Sum.inr:Str->Key)).Nodup
 |[],_=>YDd
 |k::ks,h=>by
  rw[YAP]at h;rw[YAm,YAP];refine⟨λm=>?_,zi8 h.2⟩;obtain⟨x,hx,e⟩:=YAM.mp m;exact h.1 (Sum.inr.inj e▸hx)
@[reducible] def zrl(ks:List Str)(R:WL):WE:=λS Q=>R S λxs=>xs.length=ks.length/\Q (.dct true ks xs)
def zqV(hR:DP X c pos keys values ks R)(hn:ks.Nodup:=by decide +kernel)(hl:ks.length<=15:=by decide)(ha:keys.all (·.isSome)=true:=by rfl)(hkl:keys.length=values.length:=by rfl)(h0:keys≠[]:=by intro z;cases z)(h15:keys.length<=15:=by decide):DE X c (.Dict keys values pos) (zrl ks R)where
 mono:=λS Q Q' k q=>hR.mono S _ _ (λds z=>⟨z.1,k _ z.2⟩) q
 pe:=by
  obtain⟨m,trs,h1,h2⟩:=hR;refine zas (zsc h1 ha hkl h0 h15) λZ H Q ⟨S,G,r,q⟩=>λp hp=>?_;have st:=Stp.own (o:=.dK []) r.gh r.bx hp;have pb:=r.neβ hp;refine h2 Z _ _ ⟨S,G,r.step st,m S _ _ (λxs z vs H2 G2 t2 e2=>?_) q⟩;have hlen:ks.length=vs.length:=z.1.symm.trans e2.length;have g2:G2 p=none:=by
   cases w:G2 p with
   |none=>rfl
   |some o=>
    rcases t2.nw p (by rw[w];simp)with y|y|⟨u,y,su⟩
    .exact absurd (zap r.gh hp) y
    .rw[zah]at y;cases y
    .rw[zah]at y;cases y;exact su.elim
  refine⟨t2.fr p _ pb zah,kvD ks vs,by unfold kvD;rw[YAN];rfl,by unfold kvD;rw[YAb,YBi,<-hlen,YBH];exact hl,?_⟩;rw[zeK (kvD ks vs) [] (λk _=>by simp) (by rw[zlR hlen];exact zi8 hn),YC5];exact z.2 (.ref p) _ _ ((st.trans t2).wrS hp pb g2) ⟨p,vs,rfl,zah,λ_=>r.new0 hp,hlen,e2.mono (zb0 g2)⟩
end
def adS(ad:Addr->List Addr)(p:Addr)(as:List Addr):Addr->List Addr:=λq=>if q=p then as else ad q
def zdt:adS ad p as p=as:=by unfold adS;rw[if_pos rfl]
def zgm(h:q≠p):adS ad p as q=ad q:=by unfold adS;rw[if_neg h]
structure Gets(fs fs':List (Str×List D))(as as':List Addr)(j:Nat)(f:Str)(xs:List D)(l:Addr):Prop where
 len:as'.length=fs'.length
 new:fs'[j]?=some (f,xs)
 at_:∀(i:Nat) a,as'[i]?=some a->(i=j/\a=l)\/(i≠j/\as[i]?=some a/\fs'[i]?=fs[i]?)
def Kn.newL(k:Kn K β G qj M ad)(h:qj p=some o)(hl:M l=none)(gl:G l=none)(lb:l≠β)(g:Gets o.fs fs' (ad p) as' j f xs l)(hw:Reps (nub K β G) G xs ws) :
  Kn K β G (upS qj p ⟨o.C,fs'⟩) (upd (upd M l (.lst ws)) p (.ins o.C dx (kvF fs' as'))) (adS ad p as'):=by
 have mp:∀q u,qj q=some u->M q≠none:=λq u hq=>by obtain⟨_,h1,_⟩:=k.obj q u hq;rw[h1];simp
 have pl:p≠l:=λz=>mp p o h (z▸hl);have mlst:∀q u (i:Nat) a x,qj q=some u->(ad q)[i]?=some a->u.fs[i]?=some x->a≠p/\a≠l:=λq u i a x hq ha hx=>by
  obtain⟨vs,h1,_⟩:=k.lst q u i a x hq ha hx;refine⟨λz=>?_,λz=>?_⟩
  .obtain⟨_,h2,_⟩:=k.obj p o h;rw[z,h2]at h1;cases h1
  .rw[z,hl]at h1;cases h1
 have inFs:∀q u (i:Nat) a,qj q=some u->(ad q)[i]?=some a->∃x,u.fs[i]?=some x:=λq u i a hq ha=>by
  obtain⟨_,_,h2⟩:=k.obj q u hq
  have:=(YAe.mp ha).1
  exact⟨_,YAf (by rw[<-h2];exact this)⟩
 have some':∀q,upS qj p ⟨o.C,fs'⟩ q≠none->∃u,qj q=some u:=λq hq=>by
  by_cases e:q=p
  .exact⟨o,e▸h⟩
  .rw[zdj e]at hq;cases z:qj q with
   |none=>exact absurd z hq
   |some u=>exact⟨u,rfl⟩
 refine⟨λq u hq=>?_,λq u i a x hq ha hx=>?_,λq r i n a hq hr ha hb=>?_,λa u ha=>?_,λa ha=>?_⟩
 .by_cases e:q=p
  .subst e;rw[zbg]at hq;cases hq;exact⟨dx,by rw[zah,zdt],by rw[zdt];exact g.len⟩
  .rw[zdj e]at hq;obtain⟨d,h1,h2⟩:=k.obj q u hq;have ql:q≠l:=λz=>mp q u hq (z▸hl);exact⟨d,by rw[upd_ne e,upd_ne ql,zgm e];exact h1,by rw[zgm e];exact h2⟩
 .by_cases e:q=p
  .subst e;rw[zbg]at hq;cases hq;rw[zdt]at ha;rcases g.at_ i a ha with⟨z1,z2⟩|⟨z1,z2,z3⟩
   .subst z1 z2;have hx':fs'[i]?=some x:=hx;rw[g.new]at hx';cases hx';exact⟨ws,by rw[upd_ne (YAK pl),zah],hw⟩
   .have hx':fs'[i]?=some x:=hx;rw[z3]at hx';obtain⟨vs,h1,h2⟩:=k.lst q o i a x h z2 hx';obtain⟨n1,n2⟩:=mlst q o i a x h z2 hx';exact⟨vs,by rw[upd_ne n1,upd_ne n2];exact h1,h2⟩
  .rw[zdj e]at hq;rw[zgm e]at ha;obtain⟨vs,h1,h2⟩:=k.lst q u i a x hq ha hx;obtain⟨n1,n2⟩:=mlst q u i a x hq ha hx;exact⟨vs,by rw[upd_ne n1,upd_ne n2];exact h1,h2⟩
 .have old:∀q (i:Nat),upS qj p ⟨o.C,fs'⟩ q≠none->(adS ad p as' q)[i]?=some a->(q=p/\i=j/\a=l)\/((q=p->i≠j)/\(ad q)[i]?=some a/\a≠l):=λq i hq ha=>by
   obtain⟨u,hu⟩:=some' q hq;by_cases e:q=p
   .subst e;rw[zdt]at ha;rcases g.at_ i a ha with⟨z1,z2⟩|⟨z1,z2,z3⟩
    .exact .inl ⟨rfl,z1,z2⟩
    .obtain⟨x,hx⟩:=inFs q u i a hu z2;exact .inr ⟨λ_=>z1,z2,(mlst q u i a x hu z2 hx).2⟩
   .rw[zgm e]at ha;obtain⟨x,hx⟩:=inFs q u i a hu ha;exact .inr ⟨λz=>absurd z e,ha,(mlst q u i a x hu ha hx).2⟩
  rcases old q i hq ha with⟨a1,a2,a3⟩|⟨a1,a2,a3⟩
  .rcases old r n hr hb with⟨b1,b2,b3⟩|⟨b1,b2,b3⟩
   .exact⟨a1.trans b1.symm,a2.trans b2.symm⟩
   .exact absurd a3 b3
  .rcases old r n hr hb with⟨b1,b2,b3⟩|⟨b1,b2,b3⟩
   .exact absurd b3 a3
   .obtain⟨u,hu⟩:=some' q hq;obtain⟨w,hw'⟩:=some' r hr;exact k.dis q r i n a (by rw[hu];simp) (by rw[hw'];simp) a2 b2
 .by_cases e:a=p
  .subst e;rw[zah]at ha;cases ha;exact λz=>z
  .rw[upd_ne e]at ha;by_cases e':a=l
   .subst e';rw[zah]at ha;cases ha;exact λz=>z
   .rw[upd_ne e']at ha;exact k.kin a u ha
 .by_cases e:a=p
  .subst e;exact k.ap a (mp a o h)
  .rw[upd_ne e]at ha;by_cases e':a=l
   .subst e';exact⟨gl,lb⟩
   .rw[upd_ne e']at ha;exact k.ap a ha
def putO(f:Str)(xs:List D):List (Str×List D)->List (Str×List D)
 |[]=>[(f,xs)]
 | (g,y)::r=>if g=f then(g,xs)::r else(g,y)::putO f xs r
def putA(f:Str)(l:Addr):List (Str×List D)->List Addr->List Addr
 |[],_=>[l]
 | (g,_)::r,a::as=>if g=f then l::as else a::putA f l r as
 |_::_,[]=>[]
theorem zog :∀{fs:List (Str×List D)}{as:List Addr},as.length=fs.length->putF f (.ref l) (kvF fs as)=kvF (putO f xs fs) (putA f l fs as)
 |[],[],_=>rfl
 | (g,y)::fs,a::as,h=>by
  show(if g=f then(g,V.ref l)::kvF fs as else(g,V.ref a)::putF f (.ref l) (kvF fs as))=kvF (if g=f then(g,xs)::fs else(g,y)::putO f xs fs) (if g=f then l::as else a::putA f l fs as);by_cases e:g=f
  .rw[if_pos e,if_pos e,if_pos e];rfl
  .rw[if_neg e,if_neg e,if_neg e,zog (xs:=xs) (by simpa using h)];rfl
theorem puts :∀{fs:List (Str×List D)}{as:List Addr},as.length=fs.length->∃j,Gets fs (putO f xs fs) as (putA f l fs as) j f xs l
 |[],[],_=>⟨0,rfl,rfl,λi a h=>by
  cases i with
  |zero=>exact .inl ⟨rfl,by simpa[putA]using h.symm⟩
  |succ i=>simp[putA]at h⟩
 | (g,y)::fs,a::as,h=>by
  unfold putO putA;by_cases e:g=f
  .rw[if_pos e,if_pos e];subst e;refine⟨0,by simpa using h,rfl,λi c hc=>?_⟩;cases i with
   |zero=>exact .inl ⟨rfl,by simpa using hc.symm⟩
   |succ i=>exact .inr ⟨by omega,by simpa using hc,rfl⟩
  .rw[if_neg e,if_neg e];obtain⟨j,g1,g2,g3⟩:=puts (f:=f) (xs:=xs) (l:=l) (fs:=fs) (as:=as) (by simpa using h);refine⟨j+1,by simpa using g1,by simpa using g2,λi c hc=>?_⟩;cases i with
   |zero=>exact .inr ⟨by omega,by simpa using hc,rfl⟩
   |succ i=>
    rcases g3 i c (by simpa using hc)with⟨z1,z2⟩|⟨z1,z2,z3⟩
    .exact .inl ⟨by omega,z2⟩
    .exact .inr ⟨by omega,by simpa using z2,by simpa using z3⟩
section
variable{X:Cx}{b:Bo}{e:Expr}{pos p fpos:Pos}
def setO(i:Nat)(f:Str)(C:Addr)(F:Sto->WL):WF:=λE qj S=>match S[i]? with
 |some (.val (.obj q))=>F qj S λxs=>∃o,qj q=some o/\o.C=C/\o.fs.length<100/\E.nx (upS qj q ⟨o.C,putO f (xs.map D.old) o.fs⟩) S
 |_=>False
def zij(i:Nat)(hF:∀qj M G1,DF X (reB b qj M G1) e (F qj))(hc:Cls X.K C)(hn:NoAttr X.K C f)(hN:X.N[i]?=some x:=by rfl)(hv:Vis X.env.scope x:=by first|exact Or.inl rfl|exact Or.inr (Or.inl rfl)|exact Or.inr (Or.inr rfl))
  (hd:(x==("__debug__":Str))=false:=by decide) (hcd:(x==("__classdict__":Str))=false:=by decide) (hs:swapsWith e (some (.Attribute (.Name x p) f fpos)) pos.line X.env=pure false:=by rfl):OS X b (.Assign [.Attribute (.Name x p) f fpos] e pos) (setO i f C F)where
 mono:=λE E' qj S l q=>by
  unfold setO at q ⊢;split at q
  .exact(hF qj (λ_=>none) (λ_=>none)).mono S _ _ (λxs ⟨o,h1,h2,h3,h4⟩=>⟨o,h1,h2,h3,l.nx _ _ h4⟩) q
  .exact q.elim
 ps:=λpins s Z H Ds I ⟨S,G,qj,M,⟨G1,u,r⟩,q⟩=>zuw (zbw hN hv hd hcd) (hF qj M G1).pe hs pins s Z H Ds I (by
  unfold setO at q;split at q
  .rename_i a0 ei
   refine⟨S,G,r,(hF qj M G1).mono S _ _ (λxs ⟨o,h1,h2,h3,h4⟩ l vs H1 G' t hl gl hl0 hv=>?_) q⟩;obtain⟨v,ev,rv⟩:=r.slot i _ ei;have rv':v=V.ref a0:=rv;subst rv';have r1:=r.step t;obtain⟨ad,k⟩:=r.kn;have k1:Kn b.K b.β G' qj M ad:=k.mono r1.stp.gg r1.apart;obtain⟨dx,g1,g2⟩:=k1.obj a0 o h1;have qm:M a0≠none:=by rw[g1];simp
   have qb:=(u.mb a0 qm).2.2;have lb:l≠b.β:=r.neβ hl0;have hM:∀c w,M c=some w->H c=some w:=λc w hc=>r.stp.fr c w (u.mb c (by rw[hc];simp)).2.2 (zf0 hc);have hM1:∀c w,M c=some w->H1 c=some w:=λc w hc=>t.fr c w (u.mb c (by rw[hc];simp)).2.2 (hM c w hc);have ml:M l=none:=by
    cases z:M l with
    |none=>rfl
    |some w=>rw[hM l w z]at hl0;cases hl0
   have ql:a0≠l:=λz=>qm (z▸ml);obtain⟨j,g⟩:=puts (f:=f) (xs:=xs.map D.old) (l:=l) g2;have hw:Reps (nub b.K b.β G') G' (xs.map D.old) vs:=Reps.hand (c:=reB b qj M G1) (c':=nub b.K b.β G') rfl rfl hv;have k2:=k1.newL (dx:=dx) h1 ml gl lb g hw;refine⟨.ref a0,ev,a0,o.C,dx,_,rfl,hM1 _ _ g1,h2▸hc,h2▸hn,by unfold kvF;rw[YAb,YBi,g2,YBH];omega,?_⟩;rw[zog (xs:=xs.map D.old) g2];have dm:Dm M (upd (upd M l (.lst vs)) a0 (.ins o.C dx (kvF (putO f (xs.map D.old) o.fs) (putA f l o.fs (ad a0))))):=λc hc=>by
    by_cases e:c=a0
    .subst e;rw[zah];simp
    .rw[upd_ne e];by_cases e':c=l
     .subst e';rw[zah];simp
     .rw[upd_ne e'];exact hc
   have ef:Eff b.β M (upd (upd M l (.lst vs)) a0 (.ins o.C dx (kvF (putO f (xs.map D.old) o.fs) (putA f l o.fs (ad a0))))) H G (upd H1 a0 (.ins o.C dx (kvF (putO f (xs.map D.old) o.fs) (putA f l o.fs (ad a0))))) G':=by
    refine⟨t.gg,λc w hc=>?_,λc w n hc hw=>?_,λc w hc=>?_,λc hc=>?_,λc hc=>k2.ap c hc,t.nw,?_,λcc q1 r1 d1 hb=>?_,dm⟩
    .rw[upd_ne (λz=>by rw[z,r1.apart a0 qm]at hc;cases hc)];exact t.gh c w hc
    .rw[upd_ne (λz=>by rw[z]at hc;exact qm hc)];exact t.fr c w n hw
    .by_cases e:c=a0
     .subst e;rw[zah]at hc ⊢;exact hc
     .rw[upd_ne e]at hc ⊢;by_cases e':c=l
      .subst e';rw[zah]at hc;cases hc;exact hl
      .rw[upd_ne e']at hc;exact hM1 c w hc
    .by_cases e:c=a0
     .subst e;exact .inl qm
     .rw[upd_ne e]at hc;by_cases e':c=l
      .subst e';exact .inr hl0
      .rw[upd_ne e']at hc;exact .inl hc
    .obtain⟨cc,q1,r2,d1,ns,hb,z⟩:=t.bx.ex;exact⟨⟨cc,q1,r2,d1,ns,by rw[upd_ne (YAK qb)];exact hb,z⟩,t.bx.still⟩
    .obtain⟨q2,r2,d2,hb'⟩:=t.bc cc q1 r1 d1 hb;exact⟨q2,r2,d2,by rw[upd_ne (YAK qb)];exact hb'⟩
   exact h4 Z _ G' _ ⟨G',u.eff r ef,r.eff (λc hc=>⟨(u.mb c hc).1,(u.mb c hc).2.2⟩) ef ⟨_,k2⟩⟩ t.gg dm
  .exact q.elim)
end
section
variable{X:Cx}{b:Bo}{pos p:Pos}{y:Str->Sto->Prop}
@[reducible] def zsX(C:Addr)(F:FnF)(y:Str->Sto->Prop):WOE:=λ_ qj Q=>∀a,qj a=none->upF F [.obj a] (upS qj a ⟨C,[]⟩) (λd qg=>d=.non/\Q (.obj a) qg) y
def Kn.new(k:Kn K β G qj M ad)(hm:M a=none)(ga:G a=none)(ab:a≠β):Kn K β G (upS qj a ⟨C,[]⟩) (upd M a (.ins C dx [])) (adS ad a []):=by
 have mp:∀q u,qj q=some u->M q≠none:=λq u hq=>by obtain⟨_,h1,_⟩:=k.obj q u hq;rw[h1];simp
 have nl:∀{q:Addr}{i:Nat}{c:Addr},(adS ad a [] q)[i]?=some c->q≠a/\(ad q)[i]?=some c:=λ{q i c} h=>by
  by_cases e:q=a
  .subst e;rw[zdt]at h;simp at h
  .rw[zgm e]at h;exact⟨e,h⟩
 refine⟨λq u hq=>?_,λq u i c x hq hc hx=>?_,λq r i n c hq hr hc hd=>?_,λc u hc=>?_,λc hc=>?_⟩
 .by_cases e:q=a
  .subst e;rw[zbg]at hq;cases hq;exact⟨dx,by rw[zah,zdt];rfl,by rw[zdt];rfl⟩
  .rw[zdj e]at hq;obtain⟨d,h1,h2⟩:=k.obj q u hq;exact⟨d,by rw[upd_ne e,zgm e];exact h1,by rw[zgm e];exact h2⟩
 .obtain⟨e,hc'⟩:=nl hc;rw[zdj e]at hq;obtain⟨vs,h1,h2⟩:=k.lst q u i c x hq hc' hx;exact⟨vs,by rw[upd_ne (λz=>by rw[z,hm]at h1;cases h1)];exact h1,h2⟩
 .obtain⟨e1,c1⟩:=nl hc;obtain⟨e2,c2⟩:=nl hd;rw[zdj e1]at hq;rw[zdj e2]at hr;exact k.dis q r i n c hq hr c1 c2
 .by_cases e:c=a
  .subst e;rw[zah]at hc;cases hc;exact λz=>z
  .rw[upd_ne e]at hc;exact k.kin c u hc
 .by_cases e:c=a
  .subst e;exact⟨ga,ab⟩
  .rw[upd_ne e]at hc;exact k.ap c hc
def zsT(T:Mk X.K C f)(FO:FnOk X.prog X.w X.K X.mg X.base (CXN X.prog X.w) k f fd ps (spO X.K X.mg 1 F))(hm:X.mg x=some (.ref C))(hb:Binds X.K fd ps [])(hx:zbT (CXN X.prog X.w) X (XO b X.mg y))(hg:Gl X x:=by rfl)
  (hdb:(x==("__debug__":Str))=false:=by decide) (hK:b.K=X.K:=by rfl) (hr:Room (k+1) X.A:=by decreasing_trivial):OE X b (.Call (.Name x p) [] [] pos) (zsX C F y)where
 mono:=λS qj Q Q' l q a ha=>zdA F (λd qg z=>⟨z.1,l _ _ z.2⟩) (λ_ _ z=>z) (q a ha)
 pe:=zas (zpB T FO hr hg hm hb .nil hx hdb) λZ H Q ⟨S,G,qj,M,⟨G1,u,r⟩,q⟩=>by
  intro a dx ha hdx ne;obtain⟨ad,kn⟩:=r.kn;have k1:Kn b.K b.β G qj M ad:=kn.mono r.stp.gg r.apart;have hM:∀c w,M c=some w->H c=some w:=λc w hc=>r.stp.fr c w (u.mb c (by rw[hc];simp)).2.2 (zf0 hc);have free:∀{c},H c=none->M c=none:=λ{c} h=>by
   cases z:M c with
   |none=>rfl
   |some w=>rw[hM c w z]at h;cases h
  have ma:=free ha;have sa:qj a=none:=by
   cases z:qj a with
   |none=>rfl
   |some o=>obtain⟨_,h1,_⟩:=k1.obj a o z;rw[ma]at h1;cases h1
  have ab:a≠b.β:=r.neβ ha;have db:dx≠b.β:=r.neβ hdx;have k2:=k1.new (a:=a) (dx:=dx) (C:=C) ma (zap r.gh ha) ab;have ha':upd H dx (.own a) a=none:=by rw[upd_ne (YAK ne)];exact ha
  have dm:Dm M (upd M a (.ins C dx [])):=λc hc=>by
   by_cases e:c=a
   .subst e;rw[zah];simp
   .rw[upd_ne e];exact hc
  have keep:∀c w,H c=some w->upd (upd H dx (.own a)) a (.ins C dx []) c=some w:=λc w hc=>by
   rw[upd_ne (λz=>by rw[z,ha]at hc;cases hc),upd_ne (λz=>by rw[z,hdx]at hc;cases hc)];exact hc
  have ef:Eff b.β M (upd M a (.ins C dx [])) H G (upd (upd H dx (.own a)) a (.ins C dx [])) G:=by
   refine⟨Same.refl _,λc w hc=>keep c w (r.gh c w hc),λc w _ _ hc=>keep c w hc,λc w hc=>?_,λc hc=>?_,λc hc=>k2.ap c hc,λc hc=>.inl hc,(r.bx.new hdx).new ha',λcc q1 r1 d1 hb=>⟨q1,r1,d1,keep _ _ hb⟩,dm⟩
   .by_cases e:c=a
    .subst e;rw[zah]at hc ⊢;exact hc
    .rw[upd_ne e]at hc;exact keep c w (hM c w hc)
   .by_cases e:c=a
    .subst e;exact .inr ha
    .rw[upd_ne e]at hc;exact .inl hc
  have rs:RepsF b (upS qj a ⟨C,[]⟩) (upd M a (.ins C dx [])) S Z (upd (upd H dx (.own a)) a (.ins C dx [])) G [.obj a] [.ref a]:=
   ⟨G,u.eff r ef,r.eff (λc hc=>⟨(u.mb c hc).1,(u.mb c hc).2.2⟩) ef ⟨_,k2⟩,.ref a,[],rfl,rfl,rfl⟩
  refine RelF.give hK rs rfl (zdA F (λd qg z v H2 G2 M2 r2 s2 m2=>?_) (λnm qg z C2 H2 G2 M2 hc r2 s2 m2=>⟨nm,C2,qg,M2,S,Z,G2,rfl,z,hc,r2⟩) (q a sa));obtain⟨z1,z2⟩:=z;subst z1;obtain⟨Ga,oa,ra,ea⟩:=r2;have ev:v=V.non:=ea;exact⟨ev,z2 (.ref a) H2 G2 M2 ⟨Ga,oa,ra,rfl⟩ s2 (dm.trans m2)⟩
end
section
variable{X:Cx}{b:Bo}{e:Expr}{es:List Expr}{pos p npos:Pos}
@[reducible] def zsh(n:Nat)(F:Fn)(R:WOA):WOE:=λS qj Q=>R S qj λds S1=>ds.length=n/\up F ds λd=>Q d S1
def zqP(C:Cal X.prog X.w X.K X.mg X.base x k ps (spD X.K n F))(hR:OA X b (e::es) R)(hg:Gl X x:=by rfl)
  (hdb:(x==("__debug__":Str))=false:=by decide) (he:starEach (e::es) X.env=(false,eval e X.env)::starEach es X.env:=by rfl) (hpl:(backTo pos (starEach es X.env)).any (·.1)=false:=by rfl) (hK:b.K=X.K:=by rfl) (hr:Room k X.A:=by decreasing_trivial) :
  OE X b (.Call (.Name x p) (e::es) [] pos) (zsh n F R)where
 mono:=λS qj Q Q' l q=>hR.mono S qj _ _ (λds S1 z=>⟨z.1,zbY F ds _ _ (λd w=>l d S1 w) z.2⟩) q
 pe:=by
  obtain⟨f,fd,FO,hm,hk,hb⟩:=C.ex;refine zas (zdU FO hr hg hm hk hb .nil zko hR.pa hdb he hpl) λZ H Q ⟨S,G,qj,M,r,q⟩=>⟨S,G,qj,M,r,hR.mono S qj _ _ (λds S1 z vs H' G' M' r' s' m'=>?_) q⟩;show spD X.K n F (vs++[]) H' Q E0;rw[YA1];obtain⟨Ga,oa,ra,ea⟩:=r';exact⟨b.β,G',ds,ra.gh,ra.bx,Reps.back (c':=reB b S1 M' Ga) (c:=⟨X.K,b.β,λ_=>none,G',True⟩) hK rfl (λ_ _=>rfl) ea,by rw[<-ea.length];exact z.1,
   zbY F ds _ _ (λd w v H2 G2 t2 e2=>w v H2 G2 M' ⟨Ga,oa,ra.step t2,Rep.back (c':=⟨X.K,b.β,H',G',True⟩) (c:=reB b S1 M' Ga) hK.symm rfl (λa h=>ra.new0 h) e2⟩ (s'.trans t2.gg) m') z.2⟩
@[reducible] def ifNO(A:WOE)(U V:WF):WF:=λE qj S=>A S qj λd S1=>truD d λt=>if t=true then V E S1 S else U E S1 S
def zqR{A:WOE}{U V:WF}{x y:List Stmt}(hA:OE X b e A)(hU:OSs X b x U)(hV:OSs X b y V)(he:∀whole,isTrue e X.env whole=(do let v <-whole;standAt e.pos;holding [v] (truthy v)):=by intro _;rfl)(hK:b.K=X.K:=by rfl):OS X b (.If (.UnaryOp .Not e npos) x y pos) (ifNO A U V)where
 mono:=λE E' qj S l q=>hA.mono S qj _ _ (λd S1 z=>zgj d (λt z=>by
  cases t
  .exact hU.mono _ _ S1 S l z
  .exact hV.mono _ _ S1 S l z) z) q
 ps:=zbj (zmI (zqD (zlm hA.pe he)) hU.pss hV.pss) λD Z H ⟨S,G,qj,M,r,q⟩=>⟨S,G,qj,M,r,hA.mono S qj _ _ (λd S1 z v H' G' M' r' s' m'=>by
  obtain⟨Ga,oa,ra,ea⟩:=r';unfold truD at z;split at z
  .rename_i k hk
   refine⟨k,hK▸zj7 ra.gh ea hk,?_⟩;cases k
   .exact⟨S,G',S1,M',⟨Ga,oa,ra⟩,hU.mono _ _ S1 S (zep s' m') z⟩
   .exact⟨S,G',S1,M',⟨Ga,oa,ra⟩,hV.mono _ _ S1 S (zep s' m') z⟩
  .exact z.elim) q⟩
end
section
variable{X:Cx}{b:Bo}{c:Bk}{e:Expr}{es:List Expr}{pos cpos p np:Pos}
@[reducible] def zqu(n:Nat)(F:FnX)(y:Str->Sto->Prop)(R:WOA):WOE:=λS qj Q=>R S qj λds S1=>ds.length=n/\upX F ds (λd=>Q d S1) λnm=>y nm S1
def zsx(C:CalX X.prog X.w X.K X.mg X.base x k ps (spDX X.K X.mg n F))(hR:OA X b (e::es) R)(hx:zbT (CXN X.prog X.w) X (XO b X.mg y))(hg:Gl X x:=by rfl)
  (hdb:(x==("__debug__":Str))=false:=by decide) (he:starEach (e::es) X.env=(false,eval e X.env)::starEach es X.env:=by rfl) (hpl:(backTo pos (starEach es X.env)).any (·.1)=false:=by rfl) (hK:b.K=X.K:=by rfl) (hr:Room k X.A:=by decreasing_trivial) :
  OE X b (.Call (.Name x p) (e::es) [] pos) (zqu n F y R)where
 mono:=λS qj Q Q' l q=>hR.mono S qj _ _ (λds S1 z=>⟨z.1,zee F (λd w=>l d S1 w) (λ_ w=>w) z.2⟩) q
 pe:=by
  obtain⟨f,fd,FO,hm,hk,hb⟩:=C.ex;refine zas (zdU FO hr hg hm hk hb .nil hx hR.pa hdb he hpl) λZ H Q ⟨S,G,qj,M,r,q⟩=>⟨S,G,qj,M,r,hR.mono S qj _ _ (λds S1 z vs H' G' M' r' s' m'=>?_) q⟩;show spDX X.K X.mg n F (vs++[]) H' Q _;rw[YA1];obtain⟨Ga,oa,ra,ea⟩:=r';exact⟨b.β,G',ds,ra.gh,ra.bx,Reps.back (c':=reB b S1 M' Ga) (c:=⟨X.K,b.β,λ_=>none,G',True⟩) hK rfl (λ_ _=>rfl) ea,by rw[<-ea.length];exact z.1,
   zee F (λd w v H2 G2 t2 e2=>w v H2 G2 M' ⟨Ga,oa,ra.step t2,Rep.back (c':=⟨X.K,b.β,H',G',True⟩) (c:=reB b S1 M' Ga) hK.symm rfl (λa h=>ra.new0 h) e2⟩ (s'.trans t2.gg) m') (λnm w C H2 G2 hc t2=>⟨nm,C,S1,M',S,Z,G2,rfl,w,hc,Ga,oa,ra.step t2⟩) z.2⟩
def XD(c:Bk)(mg:Str->Option Value)(y:Str->Prop):XK:=λv _ H'=>∃nm C G',v=.ref C/\y nm/\mg nm=some (.ref C)/\Stp c.β c.H0 c.G0 H' G'
@[reducible] def zeb(n:Nat)(F:FnX)(y:Str->Prop)(R:WL):WE:=λS Q=>R S λds=>ds.length=n/\upX F ds Q y
def zey(C:CalX X.prog X.w X.K X.mg X.base x k ps (spDX X.K X.mg n F))(hR:DA X c (e::es) R)(hx:zbT (CXN X.prog X.w) X (XD c X.mg y))(hg:Gl X x:=by rfl)
  (hdb:(x==("__debug__":Str))=false:=by decide) (he:starEach (e::es) X.env=(false,eval e X.env)::starEach es X.env:=by rfl) (hpl:(backTo pos (starEach es X.env)).any (·.1)=false:=by rfl) (hK:c.K=X.K:=by rfl) (hr:Room k X.A:=by decreasing_trivial) :
  DE X c (.Call (.Name x p) (e::es) [] pos) (zeb n F y R)where
 mono:=λS Q Q' l q=>hR.mono S _ _ (λds z=>⟨z.1,zee F l (λ_ w=>w) z.2⟩) q
 pe:=by
  obtain⟨f,fd,FO,hm,hk,hb⟩:=C.ex;refine zas (zdU FO hr hg hm hk hb .nil hx hR.pa hdb he hpl) λZ H Q ⟨S,G,r,q⟩=>⟨S,G,r,hR.mono S _ _ (λds z vs H' G' t ea=>?_) q⟩;show spDX X.K X.mg n F (vs++[]) H' Q _;rw[YA1];have ra:=r.step t;exact⟨c.β,G',ds,t.gh,t.bx,Reps.back (c':=c) (c:=⟨X.K,c.β,λ_=>none,G',True⟩) hK rfl (λ_ _=>rfl) ea,by rw[<-ea.length];exact z.1,
   zee F (λd w v H2 G2 t2 e2=>w v H2 G2 (t.trans t2) (Rep.back (c':=⟨X.K,c.β,H',G',True⟩) (c:=c) hK.symm rfl (λa h=>ra.new0 h) e2)) (λnm w C H2 G2 hc t2=>⟨nm,C,G2,rfl,w,hc,ra.stp.trans t2⟩) z.2⟩
end
end Fd
namespace L2
open PySem PySem.Spec PyProof.Rows PySem.W
section
variable{X:Cx}{CX:CXT}{E:XK}{x:Str}{i:Nat}{p pos:Pos}{e:Expr}{es:List Expr}{t:TA}
def zt4(X:Cx)(CX:CXT)(i:Nat)(E:XK)(t:TA):TE:=λZ H Q=>∃f fd k ps sp,Z[i]?=some (some (V.ref f))/\FnOk X.prog X.w X.K X.mg X.base CX k f fd ps sp/\Room k X.A/\PySem.W.keepIn X.K (.ref f)=true/\Binds X.K fd ps []/\t Z H λvs H1=>sp (vs++[]) H1 Q E
def zpW(hN:X.N[i]?=some x)(hv:Vis X.env.scope x)(hx:zbT CX X E)(ha:PA X (e::es) t)(hd:(x==("__debug__":Str))=false:=by decide)(hcd:(x==("__classdict__":Str))=false:=by decide)
  (he:starEach (e::es) X.env=(false,eval e X.env)::starEach es X.env:=by rfl) (hpl:(backTo pos (starEach es X.env)).any (·.1)=false:=by rfl):PE X (.Call (.Name x p) (e::es) [] pos) (zt4 X CX i E t):=by
 intro pins s Z H Q I ⟨f,fd,k,ps,sp,ev,F,hr,hk,hb,h⟩;obtain⟨m,hn,hl⟩:=id I.loc;obtain⟨u,r,l⟩:=hl i x _ hN ev hv;obtain rfl:u=Value.ref f:=r;have go:wpAny (model X.prog X.w) X.A (callWith pos (.ref f) [] (backTo pos (starEach (e::es) X.env)) (backToKw pos (keywordEach [] X.env))) (EP X pins Z Q) X.xe s:=
  YBN (h₀:=X.base) I.ok.mod.kin hk (thn (ha pos pins s Z H _ I h) λus s1 ⟨vs,H1,I1,r,q⟩=>⟨I1.kIn,zjF F hr hb .nil hx I1 r q⟩) he hpl
 rcases l with⟨hk,hm⟩|⟨hk,c,hc,hcell⟩
 .exact YA4 (YCO (wpAny_loadName_local I.ok.kind hk hn hm go) hd)
 .rcases hk with hk|hk
  .exact YA4 (YCO (wpAny_loadName_cell I.ok.kind hk hc hcell go) hd)
  .exact YA4 (YCO (wpAny_loadName_free I.ok.kind hk hc hcell go hcd) hd)
end
end L2
namespace Fd
open PySem L2
structure Tab(X:Cx)(n:Nat)(T:List (Addr×FnX)):Prop where
 ex:∀q∈T,∃fd k ps,FnOk X.prog X.w X.K X.mg X.base (CXN X.prog X.w) k q.1 fd ps (spDX X.K X.mg n q.2)/\Room k X.A/\PySem.W.keepIn X.K (.ref q.1)=true/\Binds X.K fd ps []
section
variable{X:Cx}{c:Bk}{e:Expr}{es:List Expr}{pos p:Pos}{y:Str->Prop}
def zl0(i n:Nat)(T:List (Addr×FnX))(y:Str->Prop)(R:WL):WE:=λS Q=>match S[i]? with
 |some (.val (.obj f))=>∃F,(f,F)∈T/\R S λds=>ds.length=n/\upX F ds Q y
 |_=>False
def zru(hT:Tab X n T)(hR:DA X c (e::es) R)(hx:zbT (CXN X.prog X.w) X (XD c X.mg y))(hN:X.N[i]?=some x:=by rfl)(hv:Vis X.env.scope x:=by first|exact Or.inl rfl|exact Or.inr (Or.inl rfl)|exact Or.inr (Or.inr rfl))
  (hd:(x==("__debug__":Str))=false:=by decide) (hcd:(x==("__classdict__":Str))=false:=by decide) (he:starEach (e::es) X.env=(false,eval e X.env)::starEach es X.env:=by rfl) (hpl:(backTo pos (starEach es X.env)).any (·.1)=false:=by rfl) (hK:c.K=X.K:=by rfl) :
  DE X c (.Call (.Name x p) (e::es) [] pos) (zl0 i n T y R)where
 mono:=λS Q Q' l q=>by
  unfold zl0 at q ⊢;split at q
  .obtain⟨F,h1,q⟩:=q;exact⟨F,h1,hR.mono S _ _ (λds z=>⟨z.1,zee F l (λ_ w=>w) z.2⟩) q⟩
  .exact q.elim
 pe:=zas (zpW hN hv hx hR.pa hd hcd he hpl) λZ H Q ⟨S,G,r,q⟩=>by
  unfold zl0 at q;split at q
  .rename_i f ei
   obtain⟨F,h1,q⟩:=q;obtain⟨fd,k,ps,FO,hr,hk,hb⟩:=hT.ex _ h1;obtain⟨v,ev,rv⟩:=r.slot i _ ei;have rv':v=V.ref f:=rv;subst rv';refine⟨f,fd,k,ps,_,ev,FO,hr,hk,hb,S,G,r,hR.mono S _ _ (λds z vs H' G' t ea=>?_) q⟩;show spDX X.K X.mg n F (vs++[]) H' Q _;rw[YA1];have ra:=r.step t;exact⟨c.β,G',ds,t.gh,t.bx,Reps.back (c':=c) (c:=⟨X.K,c.β,λ_=>none,G',True⟩) hK rfl (λ_ _=>rfl) ea,by rw[<-ea.length];exact z.1,
    zee F (λd w v H2 G2 t2 e2=>w v H2 G2 (t.trans t2) (Rep.back (c':=⟨X.K,c.β,H',G',True⟩) (c:=c) hK.symm rfl (λa h=>ra.new0 h) e2)) (λnm w C H2 G2 hc t2=>⟨nm,C,G2,rfl,w,hc,ra.stp.trans t2⟩) z.2⟩
  .exact q.elim
end
end Fd
namespace L2
open PySem PySem.Spec PyProof.Rows
def EnAt(d:Addr)(es:Array DictEntry)(ep:Nat)(h:Heap):Prop:=∃o,h.get? d=some o/\o.data=.dict es ep
def EnAt.keep(x:EnAt d es ep h)(k:∀o,h.get? d=some o->h'.get? d=some o):EnAt d es ep h':=let⟨o,e,z⟩:=x;⟨o,k _ e,z⟩
section
variable{prog:Program}{w:World}{A:Around}{E:Value->Shared->Prop}{s:Shared}{it d v:Addr}{i ep:Nat}{es:Array DictEntry}
def zot:Builtin.Dict_items.ownsTuple "dict_keyiterator"=false:=by decide
def zlD(hit:s.heap.IsKeyIter it d i es.size ep)(hm:EnAt d es ep s.heap)(hi:i<es.size)
  (q:∀h',h'.IsKeyIter it d (i+1) es.size ep->Heap.SameBut it s.heap h'->Q (some es[i].key) {s with heap:=h'}):wpAny (model prog w) A (pyNext (.ref it)) Q E s:=by
 obtain⟨o,ho,hc,hd⟩:=id hit;obtain⟨od,h1,h2⟩:=hm;unfold pyNext;refine YAa (YBJ (YAH (name:=Str.ofString "__next__") hit.typeIs YBa (YA2 YBa hit.typeIs F.entry_dict_keyiterator_next ?_ (F.args_dict_keyiterator_next_1 _))));refine YAa (YAd (YAa (YAa (YAa (YBm hit.typeIs (YAd (YAa (wpAny_fieldsOf ho hd ?_))))))));simp only[zot,YBA,YCk];show wpAny _ _ (if (Value.ref d==Value.none)=true then _ else _) _ _ s;refine zgh YBc (YAa (YAd (YAa (YCX h1 h2 ?_))));refine zgh (by simp) (YAa (YAd (YAa (YC9 h1 h2 ?_))));refine zgh (by simp) (YAd ?_);simp only[show ¬ ((i:Int)<0)from by omega,YCk,YBG,YBh hi];refine YAa (YAa (YBm hit.typeIs (YAd (YAa (wpAny_isOneOf_keyiter hit.typeIs ?_)))));show wpAny _ _ (setField (.ref it) 1 (rawInt ((i:Int)+1)) >>= _) _ _ s;refine YAa (YBD ho hd (by simp) ?_);have hit':(s.heap.update it (Obj.mapFields (·.setIfInBounds 1 (rawInt ((i:Int)+1))))).IsKeyIter it d (i+1) es.size ep:=
  ⟨_,YAR _ ho (YBQ (YBB hd _)),(YCh ..).trans hc,by rw[YBB hd];simp[rawInt]⟩
 generalize s.heap.update it (Obj.mapFields (·.setIfInBounds 1 (rawInt ((i:Int)+1))))=h3,(YBX s.heap it (Obj.mapFields (·.setIfInBounds 1 (rawInt ((i:Int)+1)))):Heap.SameBut it s.heap _)=sb at hit' ⊢;refine YAa (YAW (YAa (wpAny_isOneOf_keyiter (s:={s with heap:=h3}) hit'.typeIs ?_)));show wpAny _ _ (pure es[i].key) _ _ _;exact YAd (YAd ⟨_,rfl,YAd (q _ hit' sb)⟩)
def znV(hh:A.handled=none)(hit:s.heap.IsKeyIter it d es.size es.size ep)(hm:EnAt d es ep s.heap)
  (q:∀h',Heap.ExtBut it s.heap h'->Q none {s with heap:=h'}):wpAny (model prog w) A (pyNext (.ref it)) Q E s:=by
 obtain⟨o,ho,hc,hd⟩:=id hit;obtain⟨od,h1,h2⟩:=hm;unfold pyNext;refine YAa (YBJ (YAH (name:=Str.ofString "__next__") hit.typeIs YBa (YA2 YBa hit.typeIs F.entry_dict_keyiterator_next ?_ (F.args_dict_keyiterator_next_1 _))));refine YAa (YAd (YAa (YAa (YAa (YBm hit.typeIs (YAd (YAa (wpAny_fieldsOf ho hd ?_))))))));simp only[zot,YBA,YCk];show wpAny _ _ (if (Value.ref d==Value.none)=true then _ else _) _ _ s;refine zgh YBc (YAa (YAd (YAa (YCX h1 h2 ?_))));refine zgh (by simp) (YAa (YAd (YAa (YC9 h1 h2 ?_))));refine zgh (by simp) (YAd ?_);simp only[show ¬ ((es.size:Int)<0)from by omega,YCk,YBG,Array.getElem?_eq_none (YAo _)];refine YAa (YAa (YBm hit.typeIs (YAd ?_)));show wpAny _ _ (setField (.ref it) 0 .none >>= _) _ _ s;refine YAa (YBD ho hd (by simp) ?_);show wpAny _ _ (newExc (.type "StopIteration") [] >>= _) _ _ _;refine YAa ?_;simp only[newExc,newTuple];refine YAa (YAI ?_ (by size_fits));refine YAa (m:=firstArgMember _ _) (wpAny_of_eq (a:=Value.none) (by first|rfl|(simp only[firstArgMember];rfl)) ?_);refine YAI ?_ (by size_fits);simp only[raiseNew];refine YAa (wpAny_handled ?_);rw[show A.in1.handled=none from hh];refine YAa (YAd (wpAny_throw ?_));refine YAa (YBV (T:="StopIteration") (b:=true) ⟨_,YAn _ rfl,rfl⟩ YCM ?_);exact YAd (q _ (((YBX ..).extBut.push _).push _))
def zor(hh:A.handled=none)(I d:Addr)(hne:d≠I)(es:Array DictEntry)(ep:Nat):Walks prog w A I [I,d] [I] es.size (λi v=>(es.map (·.key))[i]?=some v) (λi h=>h.IsKeyIter I d i es.size ep/\EnAt d es ep h)where
 sub:=λb hb=>by simp at hb;simp[hb]
 frame:=λ_ _ _ st hk=>⟨st.1.at λo e=>hk I (by simp) o e,st.2.keep λo e=>hk d (by simp) o e⟩
 item:=λi s Q E hi st q=>zlD st.1 st.2 hi λh' a b=>q _ h' s.toks (by simp[hi]) ⟨a,st.2.keep λo e=>b.extBut d o hne e⟩ λb' o hb e=>b.extBut b' o (λh=>hb (by simp[h])) e
 done:=λs Q E st q=>znV hh st.1 st.2 λh' a=>q h' s.toks λb o hb e=>a b o (λh=>hb (by simp[h])) e
 self:=λ_ _ _ _ st q=>wpAny_pyIter_keyiter st.1 q
def zk4(hd:(d==sysModules)=false)(hT:s.TypeIs (.ref d) "dict")(hm:EnAt d es ep s.heap)
  (q:Q (.ref s.heap.objs.size) {s with heap:=s.heap.push {cls:=.type "dict_keyiterator",data:=.fields #[.ref d,.int 0 0,.int es.size 0,.int ep 0]}}):wpAny (model prog w) A (pyIter (.ref d)) Q E s:=by
 obtain⟨o,e1,e2⟩:=hm;refine wpAny_pyIter_slot hT F.slot_dict_iter (YA2 F.slot_dict_iter hT F.entry_dict_iter ?_ (F.args_dict_iter_1 _));unfold Builtin.«dict.__iter__»;refine YAa ?_;unfold Builtin.Dict.dictSlotNone;refine YAa (wpAny_notOrdered_dict hT ?_);show wpAny _ _ (pure (Value.ref d)) _ _ s;refine YAd ?_;show wpAny _ _ (Builtin.Dict.showsAll d >>= _) _ _ s;unfold Builtin.Dict.showsAll;rw[if_neg (by rw[hd];exact YBc)];refine YAa (YAd (YAa (YCX e1 e2 (YAa (YC9 e1 e2 ?_)))));refine YAa (YAI (YAd ⟨_,rfl,"dict_keyiterator",_,⟨_,YAn _ rfl,rfl⟩,YBa.lookup,?_⟩))
 simpa[rawInt]using q
def znZ(hh:A.handled=none)(hd:(d==sysModules)=false)(hT:∀h,(∀o,s.heap.get? d=some o->h.get? d=some o)->Shared.TypeIs {s with heap:=h} (.ref d) "dict")(hm:EnAt d es ep s.heap)(hz:es.size<=1000)
  (q:∀h' tk c,(∀b o,s.heap.get? b=some o->h'.get? b=some o)->h'.get? s.heap.objs.size=some {cls:=.type "list",dict:=none,data:=.seq (es.map (·.key)) c,slots:=#[]}->Q (.ref s.heap.objs.size) {s with heap:=h',toks:=tk}) :
  wpAny (model prog w) A (call (.type "list") [.ref d]) Q E s:=by
 refine callType_codes (Q₁:=λobj s₁=>obj=.ref s.heap.objs.size/\s₁={s with heap:=s.heap.push {cls:=.type "list",data:=.seq #[]}}) F.called_list (F.typeCall_list_1 _) F.entry_list_init (code_list_new _ ⟨rfl,rfl⟩) λobj s₁ h₁=>?_;obtain⟨rfl,rfl⟩:=h₁;have hS:(s.heap.push {cls:=.type "list",data:=.seq #[]}).get? s.heap.objs.size=some {cls:=.type "list",data:=.seq #[]}:=YAn _ rfl;have dlt:d<s.heap.objs.size:=let⟨o,e,_⟩:=hm;YAh e
 have k1:∀b o,s.heap.get? b=some o->(s.heap.push {cls:=.type "list",data:=.seq #[]}).get? b=some o:=λb o e=>YAc _ e;have z1:(s.heap.push {cls:=.type "list",data:=.seq #[]}).objs.size=s.heap.objs.size+1:=YBq ..;refine⟨⟨_,hS,rfl⟩,F.args_list_init_2 _ _,?_⟩;generalize s.heap.push {cls:=.type "list",data:=.seq #[]}=h1 at *;show wpAny _ _ (do let old <-Builtin.List.listItems (.ref s.heap.objs.size);Builtin.List.listUpdate (.ref s.heap.objs.size) (λ_=>#[]);letGo old.toList.reverse;Builtin.List.listExtendWith (.ref s.heap.objs.size) (.ref d) .none) _ _ {s with heap:=h1};refine YAa ?_;unfold Builtin.List.listItems;refine YAa (YBg hS rfl (YAd ?_));show wpAny _ _ (updateSeq s.heap.objs.size (λ_=>#[]) >>=λ_=>letGo (#[]:Array Value).toList.reverse >>=λ_=>Builtin.List.listExtendWith (.ref s.heap.objs.size) (.ref d) .none) _ _ {s with heap:=h1};refine YAa (YDa (s:={s with heap:=h1}) hS rfl ?_);have hS2:=YAR (Obj.mapSeq (λ_=>(#[]:Array Value))) hS rfl;have o2:∀b o,b≠s.heap.objs.size->h1.get? b=some o->(h1.update s.heap.objs.size (Obj.mapSeq (λ_=>(#[]:Array Value)))).get? b=some o:=λb o hb e=>(YAJ _ _ (YAK hb)).trans e;have z2:(h1.update s.heap.objs.size (Obj.mapSeq (λ_=>(#[]:Array Value)))).objs.size=s.heap.objs.size+1:=by rw[Heap.size_update];exact z1
 refine YAa (YDf ?_);generalize h1.update s.heap.objs.size (Obj.mapSeq (λ_=>(#[]:Array Value)))=h2 at *;have low:∀b o,s.heap.get? b=some o->h2.get? b=some o:=λb o e=>o2 b o (YAs (YAh e)) (k1 b o e);have hm2:EnAt d es ep h2:=hm.keep λo e=>low _ _ e;have ty:Shared.TypeIs {s with heap:=h2} (.ref d) "dict":=hT h2 λo e=>low _ _ e;unfold Builtin.List.listExtendWith;refine YAa (YCI ty ?_);simp only[show Builtin.List.listSameRef (.ref s.heap.objs.size) (.ref d)=false by simp[Builtin.List.listSameRef,YBz dlt],show(Value.type "dict"==Value.type "list")=false by decide,show(Value.type "dict"==Value.type "tuple")=false by decide,Bool.or_false,YBA,YCk];refine YAa (zk4 (s:={s with heap:=h2}) hd ty hm2 ?_);rw[show({s with heap:=h2}:Shared).heap.objs.size=s.heap.objs.size+1 from z2];have hI:(h2.push {cls:=.type "dict_keyiterator",data:=.fields #[.ref d,.int 0 0,.int es.size 0,.int ep 0]}).IsKeyIter (s.heap.objs.size+1) d 0 es.size ep:=⟨_,by rw[<-z2];exact YAn _ rfl,rfl,rfl⟩;have k3:∀b o,h2.get? b=some o->(h2.push {cls:=.type "dict_keyiterator",data:=.fields #[.ref d,.int 0 0,.int es.size 0,.int ep 0]}).get? b=some o:=λb o e=>YAc _ e;generalize h2.push {cls:=.type "dict_keyiterator",data:=.fields #[.ref d,.int 0 0,.int es.size 0,.int ep 0]}=h3 at *;have ty3:Shared.TypeIs {s with heap:=h3} (.ref d) "dict":=hT h3 λo e=>k3 _ _ (low _ _ e);refine YAa (YAW ?_);unfold Builtin.List.listLengthHint;refine YAa (YC6 ty3 PySem.F.slot_dict_len.lookup ?_);dsimp only;rw[zhV];dsimp only;refine YAa (YBV ty3 isSubtype_dict_dict ?_);refine zgh (by decide) (zqq (by decide +kernel) (YAa (YCI ty3 (YAd ?_))));refine zqq (by decide +kernel) (YAa (YCe (YAa ?_)));show wpAny _ _ (updateSeq s.heap.objs.size (·.push .none) >>=λ_=>updateSeq s.heap.objs.size (·.pop)) _ _ _;have hS3:=k3 _ _ hS2;refine YAa (YDa (s:={s with heap:=h3}) hS3 rfl ?_);have hS4:=YAR (Obj.mapSeq (·.push Value.none)) hS3 rfl;refine YDa (hz:=by seq_fits) hS4 rfl ?_;have hS5:=YAR (Obj.mapSeq (·.pop)) hS4 rfl;have o4:∀b o,b≠s.heap.objs.size->h3.get? b=some o->((h3.update s.heap.objs.size (Obj.mapSeq (·.push Value.none))).update s.heap.objs.size (Obj.mapSeq (·.pop))).get? b=some o:=λb o hb e=>
  (YAJ _ _ (YAK hb)).trans ((YAJ _ _ (YAK hb)).trans e)
 have nS:s.heap.objs.size∉[s.heap.objs.size+1,d]:=by
  simp only[YAv,YAB,YB8,not_or];exact⟨YAs (YCr _),YBz dlt⟩
 have W:=(zor (prog:=prog) (w:=w) (A:=A.in1.in1) hh (s.heap.objs.size+1) d (YAs (YCi dlt)) es ep).toS;refine YAd ⟨plainId_quiet PySem.F.plain_extend_loop _,codeAny_extend_loopS W (by rw[YAX];omega) _ nS _ es.size 0 _ _ _ rfl (YBI _) ⟨hI.at λo e=>o4 _ _ (YBz (YCr _)) e,(hm2.keep λo e=>k3 _ _ e).keep λo e=>o4 _ _ (YAs dlt) e⟩ hS5 (ItemsOf.nil _) λs' acc' c' hm' hS' hacc=>?_⟩;have ev:acc'=es.map (·.key):=by
  apply Array.ext
  .rw[hacc.1,Array.size_map]
  .intro j j1 j2
   have:(es.map (·.key))[j]?=some acc'[j]:=hacc.2 j acc'[j] (by simp[j1])
   rw[YBh j2]at this;exact(Option.some.inj this).symm
 subst ev;obtain⟨hh',g',d',tk',o'⟩:=s';have eg:g'=s.gens:=hm'.gens;have ed:d'=s.drawn:=hm'.drawn;have eo:o'=s.os:=hm'.os;subst eg ed eo;exact⟨rfl,q hh' tk' c' (λb o e=>hm'.heap b o (by
  have hb1:=YAh e;simp only[YAv,YAB,YB8,not_or];exact⟨YAs hb1,YAs (YCi hb1)⟩) (o4 b o (YAs (YAh e)) (k3 b o (low b o e)))) hS'⟩
end
section
variable{X:Cx}{e:Expr}{st:Stmt}
def zsS(h:PE X e t):PE X e (λZ H Q=>t Z H λv H1=>∃a kvs,v=.ref a/\H1 a=some (.dK kvs)/\∀o,Q v (upd H1 a (.frz o (.dK kvs)))):=λpins s Z H Q I q=>
 thn (h pins s Z H _ I q) λu s1 ⟨v,H1,I1,r,a,kvs,ev,ha,q1⟩=>by
  obtain⟨o,ho⟩:=(I1.hok a _ ha).ex;exact⟨v,_,I1.freeze ha ho,r,q1 o⟩
def zs8(h:PS X st t):PS X st (λD Z H=>t {D with nx:=λZ1 H1=>∃a kvs,H1 a=some (.dK kvs)/\∀o,D.nx Z1 (upd H1 a (.frz o (.dK kvs)))} Z H):=λpins s Z H D I q=>
 thn (h pins s Z H _ I q) λf s1 z=>by
  cases f with
  |next=>
   obtain⟨Z1,H1,I1,a,kvs,ha,q1⟩:=z;obtain⟨o,ho⟩:=(I1.hok a _ ha).ex;exact⟨Z1,_,I1.freeze ha ho,q1 o⟩
  |brk=>exact z
  |cont=>exact z
  |ret u=>exact z
end
theorem zf9 :∀{es:List DictEntry}{vs:List (Key×Value)},Pairs (za2 P w) es vs->es.length=vs.length/\∀(i:Nat) e,es[i]?=some e->∃p,vs[i]?=some p/\RelV (kV p.1) e.key
 |_,_,.nil=>⟨rfl,λi e h=>by simp at h⟩
 |_,_,.cons h1 _ h3=>by
  obtain⟨l,f⟩:=zf9 h3;refine⟨by simp[l],λi e h=>?_⟩;cases i with
  |zero=>simp at h;subst h;exact⟨_,rfl,ztJ h1⟩
  |succ i=>rw[YAz]at h ⊢;exact f i e h
def Itk(d:Addr)(o:Obj)(kvs:List (Key×V)):It:=
 ⟨λi H=>i<kvs.length/\H d=some (.frz o (.dK kvs)),λi H v H'=>H'=H/\∃p,kvs[i]?=some p/\v=kV p.1,λi H=>i=kvs.length/\H d=some (.frz o (.dK kvs))⟩
def znW{P:Program}{w:World}{K:qk}{tg:Expr}{it d:Addr}{o:Obj}{kvs:List (Key×V)}{ents:Array DictEntry}{ep:Nat}(ho:o.data=.dict ents ep) :
  Turn P w K tg (Itk d o kvs) [it] it (λi h=>h.IsKeyIter it d i ents.size ep)where
 mem:=by simp
 obj:=λk h st c hc=>by
  rw[YAw.mp hc];obtain⟨u,e,_,z⟩:=st;exact⟨u,e,λv q=>by rw[z]at q;cases q⟩
 keep:=λk h h' ⟨u,e,r⟩ q=>⟨u,q it (by simp) u e,r⟩
 item:=by
  intro X hP hw hK hc k pins s Z H E I hf st hg;subst hP hw hK;obtain⟨hk,hd⟩:=hg;obtain⟨eo,z,hS,vs,rel,o',es',ep',e',xd,dd,kk,pp,nn⟩:=I.hok d _ hd;rw[eo]at e';cases e';rw[ho]at dd;cases dd;have hlen:kvs.length=vs.length:=rel.length;obtain⟨l,f⟩:=zf9 pp;have hke:k<ents.size:=by rw[<-YBe,l,<-hlen];exact hk
  refine zlD st ⟨o,eo,ho⟩ hke λh' a b=>⟨_,rfl,?_⟩;obtain⟨f0,f1,f2,f3,f4,f5⟩:=hf it (by simp);have I1:Inv X pins Z H {s with heap:=h',toks:=s.toks}:=I.turned (t':=s.toks) (λc u hb e=>b.extBut c u hb e) f0 f1 f3 f4 f5;obtain⟨p,hp,rk⟩:=f k ents[k] (by rw[YCo,YBh hke]);obtain⟨q,hq⟩:∃q,kvs[k]?=some q:=⟨_,YAf hk⟩;have e1:q.1=p.1:=(zju rel hq hp).1;obtain⟨u,g1,g2,g3⟩:=id a;exact zma (s:={s with heap:=h'}) g1 g2 g3 (by decide) ⟨kV p.1,H,I1,rk,⟨rfl,q,hq,by rw[e1]⟩,a,λc hc=>(hf c hc).1⟩
 done:=by
  intro X hP hw hK hc k pins s Z H E I hf st hg;subst hP hw hK;obtain⟨hk,hd⟩:=hg;obtain⟨eo,z,hS,vs,rel,o',es',ep',e',xd,dd,kk,pp,nn⟩:=I.hok d _ hd;rw[eo]at e';cases e';rw[ho]at dd;cases dd;have hlen:kvs.length=vs.length:=rel.length;obtain⟨l,f⟩:=zf9 pp;have hke:k=ents.size:=by rw[<-YBe,l,<-hlen];exact hk
  subst hke;refine znV (I.ok.hd hc) st ⟨o,eo,ho⟩ λh' eb=>⟨rfl,?_⟩;obtain⟨f0,f1,f2,f3,f4,f5⟩:=hf it (by simp);exact I.turned (t':=s.toks) (λb u hb e=>eb b u hb e) f0 f1 f3 f4 f5
 self:=λ_ _ _ _ _ st h=>wpAny_pyIter_keyiter st h
def zvs(td:TE):TI:=λZ H R=>td Z H λx H1=>∃d o kvs,x=.ref d/\H1 d=some (.frz o (.dK kvs))/\R (Itk d o kvs) H1
def zrZ{X:Cx}{tg e:Expr}{td:TE}(ho:PE X e td):PI X tg e (zvs td):=by
 intro pins s Z H R I h;refine thn (ho pins s Z H _ I h) λu s1 ⟨x,H1,I1,rx,d,o,kvs,ex,hd,q⟩=>?_;subst ex;obtain rfl:u=Value.ref d:=rx;obtain⟨eo,z,hS,vs,rel,o',es',ep',e',xd,dd,kk,pp,nn⟩:=I1.hok d _ hd;rw[eo]at e';cases e';refine zk4 hS ⟨o,eo,xd.1⟩ ⟨o,eo,dd⟩ ?_;refine⟨s1.heap.objs.size,[s1.heap.objs.size],_,_,H1,rfl,I1.kept (t':=s1.toks) λb u e=>YAc _ e,znW dd,⟨_,YAn _ rfl,rfl,rfl⟩,λb hb=>?_,q⟩;rw[YAw.mp hb];exact I1.fpOk (YAo _) (I1.hok.fresh (YAo _))
def zjg(hc:X.calm=true):CallR X (.type "list") (λvs H Q=>∃d kvs,vs=[.ref d]/\Rd H d (.dK kvs)/\kvs.length<=1000/\∀l,H l=none->Q (.ref l) (upd H l (.lst (kvs.map λp=>kV p.1)))):=by
 intro pins s Z H vs us Q I r h;obtain⟨d,kvs,rfl,hd,hz,q⟩:=h;obtain⟨u,rfl,rx⟩:=zeC r;cases rx;obtain⟨z,sy,xs,rel,o,es,ep,h1,h2,h3,h4,h5,h6⟩:=zjO I.hok hd;obtain⟨l,f⟩:=zf9 h5;have lx:xs.length=kvs.length:=rel.length.symm;have hsz:es.size=kvs.length:=by rw[<-YBe,l,lx]
 refine znZ (I.ok.hd hc) sy (λh' k=>⟨o,k _ h1,h2.1⟩) ⟨o,h1,h3⟩ (by omega) λh' tk c' k g=>?_;refine⟨.ref s.heap.objs.size,upd H s.heap.objs.size (.lst (kvs.map λp=>kV p.1)),I.laid (t':=tk) k (YAo _) ⟨by rw[YAb,YAX];omega,es.toList.map (·.key),c',?_,by rw[g,<-Array.toList_map,Array.toArray_toList]⟩,rfl,q _ (I.hok.fresh (YAo _))⟩;have go:∀{es:List DictEntry}{xs:List (Key×Value)}{kvs:List (Key×V)},Pairs (za2 X.prog X.w) es xs->KV kvs xs->Vals (kvs.map λp=>kV p.1) (es.map (·.key)):=by
  intro es xs kvs hp
  induction hp generalizing kvs with
  |nil=>intro h;cases h;exact .nil
  |cons a _ _ ih=>intro h;cases h with|cons b t=>exact .cons (by show RelV (kV _) _;rw[b.1];exact ztJ a) (ih t)
 exact go h5 rel
end L2
set_option maxHeartbeats 200000
namespace Fd
open PySem L2
def noD:Env->Bool
 |[]=>true
 |.dic _ _::_=>false
 |_::r=>noD r
def zkp:Nat->Env->Bool
 |_,[]=>true
 |0,_::r=>noD r
 |_+1,.dic _ _::_=>false
 |i+1,_::r=>zkp i r
theorem zlE:∀{S:Env},noD S=true->∀(j:Nat) ks xs,S[j]?≠some (.dic ks xs)
 |[],_,j,ks,xs=>by simp
 |.dic _ _::_,h,_,_,_=>by cases h
 |.un::r,h,0,ks,xs=>by simp
 |.val _::r,h,0,ks,xs=>by simp
 |.own _::r,h,0,ks,xs=>by simp
 |.un::r,h,j+1,ks,xs=>by rw[YAz];exact zlE (S:=r) h j ks xs
 |.val _::r,h,j+1,ks,xs=>by rw[YAz];exact zlE (S:=r) h j ks xs
 |.own _::r,h,j+1,ks,xs=>by rw[YAz];exact zlE (S:=r) h j ks xs
theorem zh2:∀{i:Nat}{S:Env},zkp i S=true->∀(j:Nat) ks xs,S[j]?=some (.dic ks xs)->j=i
 |_,[],_,j,ks,xs,e=>by simp at e
 |0,s::r,h,0,ks,xs,e=>rfl
 |0,s::r,h,j+1,ks,xs,e=>absurd (by rw[YAz]at e;exact e) (zlE (S:=r) h j ks xs)
 |_+1,.dic _ _::_,h,_,_,_,_=>by cases h
 |i+1,.un::r,h,0,ks,xs,e=>by simp at e
 |i+1,.val _::r,h,0,ks,xs,e=>by simp at e
 |i+1,.own _::r,h,0,ks,xs,e=>by simp at e
 |i+1,.un::r,h,j+1,ks,xs,e=>by rw[zh2 (i:=i) (S:=r) h j ks xs (by rw[YAz]at e;exact e)]
 |i+1,.val _::r,h,j+1,ks,xs,e=>by rw[zh2 (i:=i) (S:=r) h j ks xs (by rw[YAz]at e;exact e)]
 |i+1,.own _::r,h,j+1,ks,xs,e=>by rw[zh2 (i:=i) (S:=r) h j ks xs (by rw[YAz]at e;exact e)]
section
variable{c:Bk}{S:Env}{Z:St}{H G:Hp}{i:Nat}
def Rel.putDic(r:Rel c S Z H G)(hl:H l=some (.dK (kvD ks vs)))(hg:G l=none)(h0:c.H0 l=none)(hb:l≠c.β)(h:Reps c G xs vs)(hn:ks.length=vs.length):Rel c (S.set i (.dic ks xs)) (Z.set i (some (.ref l))) H G:=by
 refine⟨by simp[r.len],r.stp,λj s e=>?_,λj k a xs' ys e1 e2 e3 e4=>?_,r.kn⟩
 .by_cases z:i=j
  .subst z;have hi:i<S.length:=by have:=(YAe.mp e).1;simpa using this
   rw[YAi hi]at e;cases e;exact⟨l,vs,by rw[YAi (by rw[<-r.len];exact hi)],hl,hg,h0,hb,h,hn⟩
  .rw[YAl z]at e ⊢;exact r.slot j s e
 .have nn:∀{j:Nat}{xs},(S.set i (.dic ks xs'))[j]?=some (.own xs)->True:=λ_=>trivial;have nj:i≠j:=λz=>by
   subst z;have hi:i<S.length:=by have:=(YAe.mp e1).1;simpa using this
   rw[YAi hi]at e1;cases e1
  have nk:i≠k:=λz=>by
   subst z;have hi:i<S.length:=by have:=(YAe.mp e2).1;simpa using this
   rw[YAi hi]at e2;cases e2
  rw[YAl nj]at e1 e3;rw[YAl nk]at e2 e4;exact r.dis j k a xs' ys e1 e2 e3 e4
def Rel.writeD(r:Rel c S Z H G)(hi:S[i]?=some (.dic ks xs))(hs:Z[i]?=some (some (.ref l)))(h:Reps c G ys ws)(hn:ks'.length=ws.length)(ho:zkp i S=true) :
  Rel c (S.set i (.dic ks' ys)) Z (upd H l (.dK (kvD ks' ws))) G:=by
 obtain⟨a,vs,h1,h2,h3,h4,h5,h6,h7⟩:=r.slot i _ hi;rw[hs]at h1;cases h1;have hil:i<S.length:=(YAe.mp hi).1;refine⟨by simp[r.len],⟨r.stp.gg,λb u e=>?_,λb u n e=>?_,r.stp.nw,?_,r.stp.b0,λcc p q d e=>by
  obtain⟨p',q',d',e'⟩:=r.stp.bc cc p q d e;exact⟨p',q',d',by rw[upd_ne (YAK h5)];exact e'⟩⟩,λj s e=>?_,λj k b xs' ys' e1 e2 e3 e4=>?_,r.kn⟩
 .rw[upd_ne (λz=>by rw[z,h3]at e;cases e)];exact r.gh b u e
 .rw[upd_ne (λz=>by rw[z,h4]at e;cases e)];exact r.stp.fr b u n e
 .obtain⟨cc,p,q,d,ns,e,z⟩:=r.bx.ex;exact⟨⟨cc,p,q,d,ns,by rw[upd_ne (YAK h5)];exact e,z⟩,r.bx.still⟩
 .by_cases z:i=j
  .subst z;rw[YAi hil]at e;cases e;exact⟨l,ws,hs,zah,h3,h4,h5,h,hn⟩
  .rw[YAl z]at e;have q:=r.slot j s e;cases s with
   |un=>trivial
   |val d=>exact q
   |own zs=>
    obtain⟨b,us,g1,g2,g3⟩:=q;have nb:b≠l:=λy=>by rw[y,h2]at g2;cases g2
    exact⟨b,us,g1,by rw[upd_ne nb];exact g2,g3⟩
   |dic k2 zs=>exact absurd (zh2 ho j k2 zs e).symm z
 .have f:∀(m:Nat) zs,(S.set i (.dic ks' ys))[m]?=some (.own zs)->S[m]?=some (.own zs):=λm zs e=>by
   by_cases z:i=m
   .subst z;rw[YAi hil]at e;cases e
   .rw[YAl z]at e;exact e
  exact r.dis j k b _ _ (f j _ e1) (f k _ e2) e3 e4
end
def dcV:D->Option (List Str×List D)
 |.dct _ ks xs=>some (ks,xs)
 |.fdc ks xs=>some (ks,xs)
 |_=>none
def zgW(h:Rep c G d v)(e:dcV d=some (ks,xs)):∃a vs,v=.ref a/\Rd G a (.dK (kvD ks vs))/\ks.length=vs.length/\Reps c G xs vs:=by
 cases d with
 |dct n ks' xs'=>cases e;obtain⟨a,vs,h1,h2,_,h4,h5⟩:=h;exact⟨a,vs,h1,.inl h2,h4,h5⟩
 |fdc ks' xs'=>cases e;obtain⟨a,vs,o,h1,h2,h4,h5⟩:=h;exact⟨a,vs,h1,.inr ⟨o,h2⟩,h4,h5⟩
 |_=>cases e
def zgF(s:Same G H):Rd G a u->Rd H a u
 |.inl h=>.inl (s _ _ h)
 |.inr ⟨o,h⟩=>.inr ⟨o,s _ _ h⟩
def dcD(d:D)(Q:List Str->List D->Prop):Prop:=match dcV d with|some p=>Q p.1 p.2|none=>False
def zeS(k:∀a b,Q a b->Q' a b)(q:dcD d Q):dcD d Q':=by
 unfold dcD at q ⊢;split at q
 .exact k _ _ q
 .exact q.elim
section
variable{X:Cx}{c:Bk}{e ie ve:Expr}{es:List Expr}{rest:List Stmt}{pos p p2 cp tp pos2:Pos}
@[reducible] def dcpW(i:Nat)(A:WE):WS:=λE S=>A S λd=>dcD d λks xs=>E.nx (S.set i (.dic ks xs))
def zvn(i:Nat)(hA:DE X c e A)(hi:X.N[i]?=some x:=by rfl)(hx:Loc X.env.scope x:=by first|exact Or.inl rfl|exact Or.inr rfl)(hg:Gl X "dict":=by rfl)(he:starEach [e] X.env=(false,eval e X.env)::starEach [] X.env:=by rfl)
  (hs:swapsWith (.Call (.Name "dict" p2) [e] [] cp) (some (.Name x p)) pos.line X.env=pure false:=by rfl) (hf:X.fn x=true\/X.env.scope.names.lookup x=some .local:=by first|exact .inl rfl|exact .inr rfl|assumption) (hm:X.mg "dict"=none:=by decreasing_trivial) (hN:X.N.Nodup:=by decreasing_trivial):DS X c (.Assign [.Name x p] (.Call (.Name "dict" p2) [e] [] cp) pos) (dcpW i A)where
 mono:=λE E' S l q=>hA.mono S _ _ (λd z=>zeS (λa b y=>l.nx _ y) z) q
 ps:=zbj (zdG hN hi hx (zck zd2 hg hm YCd (zaC hA.pe zbf he) (by decide) (by decide) he rfl) hs hf) λD Z H ⟨S,G,r,q⟩=>⟨S,G,r,hA.mono S _ _ (λd z v H' G' t e=>by
  unfold dcD at z;split at z
  .rename_i pr ed
   obtain⟨a,vs,h1,h2,h3,h4⟩:=zgW e ed;subst h1;refine⟨a,_,rfl,zgF t.gh h2,λl hl=>?_⟩;have r1:=r.step t;have r2:=r1.step (Stp.own (o:=.dK (kvD pr.1 vs)) r1.gh r1.bx hl);exact z _ _ G' (r2.putDic zah (zap r1.gh hl) (r1.new0 hl) (r1.neβ hl) h4 h3) t.gg
  .exact z.elim) q⟩
def dstW(i:Nat)(I A:WE):WS:=λE S=>match S[i]? with
 |some (.dic ks xs)=>zkp i S=true/\ks.length<1000/\A S λd=>I S λk=>(match k with|.str z=>E.nx (S.set i (.dic (putKs ks z) (putVs ks xs z d)))|_=>False)
 |_=>False
def zkg(i:Nat)(hA:DE X c e A)(hI:DE X c ie I)(hN:X.N[i]?=some x:=by rfl)(hv:Vis X.env.scope x:=by first|exact Or.inl rfl|exact Or.inr (Or.inl rfl)|exact Or.inr (Or.inr rfl))
  (hd:(x==("__debug__":Str))=false:=by decide) (hcd:(x==("__classdict__":Str))=false:=by decide) (hs:swapsWith e (some (.Subscript (.Name x p) ie tp)) pos.line X.env=pure false:=by rfl) (hu:X.A.units+1<cLine:=by decreasing_trivial):DS X c (.Assign [.Subscript (.Name x p) ie tp] e pos) (dstW i I A)where
 mono:=λE E' S l q=>by
  unfold dstW at q ⊢;split at q
  .exact⟨q.1,q.2.1,hA.mono S _ _ (λd z=>hI.mono S _ _ (λk y=>by
    cases k<;>first|exact l.nx _ y|exact y) z) q.2.2⟩
  .exact q.elim
 ps:=zbj (zkv hu (zbw hN hv hd hcd) hI.pe hA.pe hs) λD Z H ⟨S,G,r,q⟩=>by
  unfold dstW at q;split at q
  .rename_i ks xs ek
   obtain⟨ho,hk,q⟩:=q;refine⟨S,G,r,hA.mono S _ _ (λd z v H1 G1 t1 e1=>?_) q⟩;obtain⟨a,vs,h1,h2,h3,h4,h5,h6,h7⟩:=(r.step t1).slot i _ ek;refine⟨.ref a,h1,S,G1,r.step t1,hI.mono S _ _ (λk y w H2 G2 t2 e2=>?_) z⟩;cases k with
   |str z=>
    have ew:w=V.str z:=e2;subst ew;have len:(kvD ks vs).length<sizeLine:=by
     unfold kvD;rw[YAb,YBi,<-h7,YBH,YAX];omega
    refine⟨a,_,rfl,DPut.k (k:=.inr z) (t2.fr a _ h5 h2) len,?_⟩;rw[zhB h7];exact y Z _ G2 (((r.step t1).step t2).writeD ek h1 (zeV (e1.mono t2.gg) (h6.mono t2.gg)) (zhT h7) ho) (t1.gg.trans t2.gg)
   |_=>exact y.elim
  .exact q.elim
noncomputable def zkD(i:Nat)(I A:WE):WS:=λE S=>match S[i]? with
 |some (.dic ks xs)=>zkp i S=true/\ks.length<1000/\I S λk=>(match k with
  |.str z=>(match zaR ks xs z with
   |some (.int a)=>A S λd=>intD d λb=>E.nx (S.set i (.dic (putKs ks z) (putVs ks xs z (.int (a+b)))))
   |_=>False)
  |_=>False)
 |_=>False
def ztK(i:Nat)(hI:DE X c ie I)(hA:DE X c e A)(hN:X.N[i]?=some x:=by rfl)(hv:Vis X.env.scope x:=by first|exact Or.inl rfl|exact Or.inr (Or.inl rfl)|exact Or.inr (Or.inr rfl))
  (hd:(x==("__debug__":Str))=false:=by decide) (hcd:(x==("__classdict__":Str))=false:=by decide)
  (ha:∀ov iv new,augStore ie ov iv new=(do holding [new,ov,iv] (setItem ov iv new);release [new,ov,iv] [];pure .next):=by intros;rfl) (hu:X.A.units+1<cLine:=by decreasing_trivial):DS X c (.AugAssign (.Subscript (.Name x p) ie tp) .Add e pos) (zkD i I A)where
 mono:=λE E' S l q=>by
  unfold zkD at q ⊢;split at q
  .refine⟨q.1,q.2.1,hI.mono S _ _ (λk y=>?_) q.2.2⟩;split at y
   .split at y
    .exact hA.mono S _ _ (λd w=>znU (λb=>l.nx _) w) y
    .exact y.elim
   .exact y.elim
  .exact q.elim
 ps:=zbj (zsf hu (zbw hN hv hd hcd) hI.pe hA.pe zs5 ha) λD Z H ⟨S,G,r,q⟩=>by
  unfold zkD at q;split at q
  .rename_i ks xs ek
   obtain⟨ho,hk,q⟩:=q;obtain⟨a,vs,h1,h2,h3,h4,h5,h6,h7⟩:=r.slot i _ ek;refine⟨.ref a,h1,S,G,r,hI.mono S _ _ (λk y w H1 G1 t1 e1=>?_) q⟩;split at y
   .rename_i z
    have ew:w=V.str z:=e1;subst ew;split at y
    .rename_i n en
     obtain⟨v,f1,f2⟩:=zeL h6 en;have ev:v=V.int n:=f2;subst ev;have g0:=DGet.k (k:=Sum.inr z) (t1.fr a _ h5 h2);rw[zel,f1]at g0;refine⟨a,_,rfl,g0,S,G1,r.step t1,hA.mono S _ _ (λd z2 u H2 G2 t2 e2=>?_) y⟩;cases d with
     |int b=>
      have eu:u=V.int b:=e2;subst eu;have len:(kvD ks vs).length<sizeLine:=by
       unfold kvD;rw[YAb,YBi,<-h7,YBH,YAX];omega
      refine⟨n,b,rfl,rfl,_,DPut.k (k:=.inr z) (t2.fr a _ h5 (t1.fr a _ h5 h2)) len,?_⟩;rw[zhB h7];exact z2 Z _ G2 (((r.step t1).step t2).writeD ek h1 (zeV (d:=.int (n+b)) rfl (h6.mono (t1.gg.trans t2.gg))) (zhT h7) ho) (t1.gg.trans t2.gg)
     |_=>exact z2.elim
    .exact y.elim
   .exact y.elim
  .exact q.elim
def ogW(i:Nat)(B:WE):WE:=λS Q=>match S[i]? with
 |some (.dic ks xs)=>B S λy=>(match y with|.str z=>optD (zaR ks xs z) Q|_=>False)
 |_=>False
def d_og(i:Nat)(hB:DE X c e B)(hs:NoSl e:=by intro _ _;rfl)(hN:X.N[i]?=some x:=by rfl)(hv:Vis X.env.scope x:=by first|exact Or.inl rfl|exact Or.inr (Or.inl rfl)|exact Or.inr (Or.inr rfl))
  (hd:(x==("__debug__":Str))=false:=by decide) (hcd:(x==("__classdict__":Str))=false:=by decide) (hu:X.A.units+1<cLine:=by decreasing_trivial):DE X c (.Subscript (.Name x p) e pos) (ogW i B)where
 mono:=λS Q Q' k q=>by
  unfold ogW at q ⊢;split at q
  .exact hB.mono S _ _ (λy z=>by
    cases y<;>first|exact zgx k z|exact z) q
  .exact q.elim
 pe:=zas (znS hu (zbw hN hv hd hcd) hB.pe hs) λZ H Q ⟨S,G,r,q⟩=>by
  unfold ogW at q;split at q
  .rename_i ks xs ek
   obtain⟨a,vs,h1,h2,h3,h4,h5,h6,h7⟩:=r.slot i _ ek;refine⟨.ref a,h1,S,G,r,hB.mono S _ _ (λy z w H1 G1 t1 e1=>?_) q⟩;cases y with
   |str z0=>
    have ew:w=V.str z0:=e1;subst ew;have z:optD (zaR ks xs z0) _:=z;cases e0:zaR ks xs z0 with
    |none=>rw[e0]at z;exact z.elim
    |some d=>
     rw[e0]at z;obtain⟨v,f1,f2⟩:=zeL h6 e0;have g0:=DGet.k (k:=Sum.inr z0) (t1.fr a _ h5 h2);rw[zel,f1]at g0;exact⟨a,v,rfl,g0,z v H1 G1 t1 (f2.mono t1.gg)⟩
   |_=>exact z.elim
  .exact q.elim
end
end Fd
set_option maxHeartbeats 400000
namespace Fd
open PySem L2
def del(G:Hp)(a:Addr):Hp:=λb=>if b=a then none else G b
def zlI(h:b≠a):del G a b=G b:=by unfold del;rw[if_neg h]
def zlg:del G a a=none:=by unfold del;rw[if_pos rfl]
def Stp.lend(s:Stp β H (upd G a o) H2 G3)(ga:G a=none)(bx:BoxD β H G):Stp β H G H2 (del G3 a):=by
 have na:∀b u,G b=some u->b≠a:=λb u e z=>by rw[z,ga]at e;cases e
 refine⟨λb u e=>?_,λb u e=>?_,s.fr,λb e=>?_,⟨?_,?_⟩,s.b0,s.bc⟩
 .rw[zlI (na b u e)];exact s.gg b u (by rw[upd_ne (na b u e)];exact e)
 .by_cases z:b=a
  .rw[z,zlg]at e;cases e
  .rw[zlI z]at e;exact s.gh b u e
 .have z:b≠a:=λz=>e (by rw[z,zlg]);rw[zlI z]at e;rcases s.nw b e with y|y
  .rw[upd_ne z]at y;exact .inl y
  .exact .inr y
 .obtain⟨cc,p,r,d,ns,h,p1,p2,p3,p4,hc,q⟩:=s.bx.ex;obtain⟨c0,p',r',d',ns',h',_,_,_,_,hc',_⟩:=bx.ex;obtain⟨x1,x2,x3,h2⟩:=s.bc c0 p' r' d' h';rw[h]at h2;have e:cc=c0:=by unfold boxO at h2;injection h2 with h2;injection h2 with h2;injection h2 with h2;injection h2
  subst e;exact⟨cc,p,r,d,ns,h,p1,p2,p3,p4,by rw[zlI (na cc _ hc')];exact hc,q⟩
 .unfold del;split
  .rfl
  .exact s.bx.still
def zsg:D->Prop
 |.non=>True
 |.bl _=>True
 |.int _=>True
 |.str _=>True
 |_=>False
def zp9(f:zsg d)(h:Rep c' G' d v):Rep c G d v:=by
 cases d<;>first|exact h|exact f.elim
section
variable{X:Cx}{c:Bk}{e ie ve:Expr}{es:List Expr}{rest:List Stmt}{pos p p1 p2 p3 cp tp pos2:Pos}
def zgq(i n:Nat)(F:Fn)(R:WL):WE:=λS Q=>match S[i]? with
 |some (.dic ks xs)=>R S λds=>ds.length+1=n/\up F (.dct true ks xs::ds) λd=>zsg d/\Q d
 |_=>False
def zom(i:Nat)(C:Cal X.prog X.w X.K X.mg X.base f k ps (spD X.K n F))(hR:DA X c (e::es) R)(hN:X.N[i]?=some x:=by rfl)(hv:Vis X.env.scope x:=by first|exact Or.inl rfl|exact Or.inr (Or.inl rfl)|exact Or.inr (Or.inr rfl))
  (hd:(x==("__debug__":Str))=false:=by decide) (hcd:(x==("__classdict__":Str))=false:=by decide) (hg:Gl X f:=by rfl)
  (hdb:(f==("__debug__":Str))=false:=by decide) (he:starEach (.Name x p2::e::es) X.env=(false,eval (.Name x p2) X.env)::starEach (e::es) X.env:=by rfl) (hpl:(backTo pos (starEach (e::es) X.env)).any (·.1)=false:=by rfl) (hK:c.K=X.K:=by rfl) (hr:Room k X.A:=by decreasing_trivial) :
  DE X c (.Call (.Name f p) (.Name x p2::e::es) [] pos) (zgq i n F R)where
 mono:=λS Q Q' k q=>by
  unfold zgq at q ⊢;split at q
  .exact hR.mono S _ _ (λds z=>⟨z.1,zbY F _ _ _ (λd w=>⟨w.1,k d w.2⟩) z.2⟩) q
  .exact q.elim
 pe:=by
  obtain⟨fa,fd,FO,hm,hk,hb⟩:=C.ex;refine zas (zdU FO hr hg hm hk hb .nil zko (zaC (zbw hN hv hd hcd) hR.pa he) hdb he hpl) λZ H Q ⟨S,G,r,q⟩=>?_;unfold zgq at q;split at q
  .rename_i ks xs ek
   obtain⟨a,vs,h1,h2,h3,h4,h5,h6,h7⟩:=r.slot i _ ek;refine⟨.ref a,h1,S,G,r,hR.mono S _ _ (λds z us H' G' t ea=>?_) q⟩;show spD X.K n F (.ref a::us++[]) H' Q E0;rw[YA1];have r1:=r.step t;obtain⟨a',vs',g1,g2,g3,g4,g5,g6,g7⟩:=r1.slot i _ ek;rw[h1]at g1;cases g1;have sg:Same G' (upd G' a (.dK (kvD ks vs'))):=zb0 g3;have bx':BoxD c.β H' (upd G' a (.dK (kvD ks vs'))):=by
    obtain⟨cc,p,r,d,ns,h,p1,p2,p3,p4,hc,q⟩:=t.bx.ex;exact⟨⟨cc,p,r,d,ns,h,p1,p2,p3,p4,sg _ _ hc,q⟩,by rw[upd_ne (YAK g5)];exact t.bx.still⟩
   refine⟨c.β,upd G' a (.dK (kvD ks vs')),.dct true ks xs::ds,λb u e=>?_,bx',⟨.ref a,us,rfl,⟨a,vs',rfl,zah,λ_=>rfl,g7,?_⟩,?_⟩,by rw[YAy,<-ea.length];exact z.1,zbY F _ _ _ (λd w v H2 G2 t2 e2=>?_) z.2⟩
   .by_cases y:b=a
    .subst y;rw[zah]at e;cases e;exact g2
    .rw[upd_ne y]at e;exact t.gh b u e
   .exact(Reps.back (c':=c) (c:=⟨X.K,c.β,λ_=>none,upd G' a (.dK (kvD ks vs')),True⟩) hK rfl (λ_ _=>rfl) g6).mono sg
   .exact(Reps.back (c':=c) (c:=⟨X.K,c.β,λ_=>none,upd G' a (.dK (kvD ks vs')),True⟩) hK rfl (λ_ _=>rfl) ea).mono sg
   .exact w.2 v H2 _ (t.trans (t2.lend g3 t.bx)) (zp9 w.1 e2)
  .exact q.elim
def zkk(i:Nat):WS:=λE S=>match S[i]? with
 |some (.dic ks xs)=>E.rt (.dct true ks xs)
 |_=>False
def zty(i:Nat)(hN:X.N[i]?=some x:=by rfl)(hv:Vis X.env.scope x:=by first|exact Or.inl rfl|exact Or.inr (Or.inl rfl)|exact Or.inr (Or.inr rfl))
  (hd:(x==("__debug__":Str))=false:=by decide) (hcd:(x==("__classdict__":Str))=false:=by decide):DS X c (.Return (some (.Name x p)) pos) (zkk i)where
 mono:=λE E' S l q=>by
  unfold zkk at q ⊢;split at q
  .exact l.rt _ q
  .exact q.elim
 ps:=zbj (zfM (zbw hN hv hd hcd)) λD Z H ⟨S,G,r,q⟩=>by
  unfold zkk at q;split at q
  .rename_i ks xs ek
   obtain⟨a,vs,h1,h2,h3,h4,h5,h6,h7⟩:=r.slot i _ ek;refine⟨.ref a,h1,q (.ref a) H (upd G a (.dK (kvD ks vs))) (r.stp.still h2 h4 h5 h3) ⟨a,vs,rfl,zah,λ_=>h4,h7,h6.mono (zb0 h3)⟩⟩
  .exact q.elim
@[reducible] def dc2W(i:Nat)(A V I:WE)(B:WS):WS:=λE S=>i<S.length/\A S λd=>dcD d λks xs=>ks.length<1000/\V (S.set i .un) λv=>I (S.set i .un) λk=>(match k with|.str z=>B E (S.set i (.val (.fdc (putKs ks z) (putVs ks xs z v))))|_=>False)
def zu6(i:Nat){x:Str}{A V I:WE}{B:WS}(hA:DE X c e A)(hV:DE X c ve V)(hI:DE X c ie I)(hB:DSs X c rest B)(hi:X.N[i]?=some x:=by rfl)(hx:Loc X.env.scope x:=by first|exact Or.inl rfl|exact Or.inr rfl)(hv:Vis X.env.scope x:=by first|exact Or.inl rfl|exact Or.inr (Or.inl rfl)|exact Or.inr (Or.inr rfl))
  (hd:(x==("__debug__":Str))=false:=by decide) (hcd:(x==("__classdict__":Str))=false:=by decide) (hg:Gl X "dict":=by rfl) (he:starEach [e] X.env=(false,eval e X.env)::starEach [] X.env:=by rfl)
  (hs:swapsWith (.Call (.Name "dict" p2) [e] [] cp) (some (.Name x p)) pos.line X.env=pure false:=by rfl) (hs2:swapsWith ve (some (.Subscript (.Name x p3) ie tp)) pos2.line X.env=pure false:=by rfl) (hf:X.fn x=true\/X.env.scope.names.lookup x=some .local:=by first|exact .inl rfl|exact .inr rfl|assumption) (hm:X.mg "dict"=none:=by decreasing_trivial) (hu:X.A.units+1<cLine:=by decreasing_trivial) (hN:X.N.Nodup:=by decreasing_trivial) :
  DSs X c (.Assign [.Name x p] (.Call (.Name "dict" p2) [e] [] cp) pos::.Assign [.Subscript (.Name x p3) ie tp] ve pos2::rest) (dc2W i A V I B)where
 mono:=λE E' S l q=>⟨q.1,hA.mono S _ _ (λd z=>zeS (λa b y=>⟨y.1,hV.mono _ _ _ (λv w=>hI.mono _ _ _ (λk u=>by
  cases k<;>first|exact hB.mono _ _ _ l u|exact u) w) y.2⟩) z) q.2⟩
 pss:=zfu (zaY (zdG hN hi hx (zck zd2 hg hm YCd (zaC hA.pe zbf he) (by decide) (by decide) he rfl) hs hf) (zaY (zs8 (zkv hu (zbw hi hv hd hcd) hI.pe hV.pe hs2)) hB.pss)) λD Z H ⟨S,G,r,q⟩=>⟨S,G,r,hA.mono S _ _ (λd z v H' G' t e=>by
  have hil:i<Z.length:=by rw[<-r.len];exact q.1
  unfold dcD at z;split at z
  .rename_i pr ed
   obtain⟨a,vs,h1,h2,h3,h4⟩:=zgW e ed;subst h1;refine⟨a,_,rfl,zgF t.gh h2,λl hl=>?_⟩;have r1:=r.step t;have t1:Stp c.β H' G' (upd H' l (.dK (kvD pr.1 vs))) G':=Stp.own r1.gh r1.bx hl;have r2:Rel c (S.set i .un) (Z.set i (some (.ref l))) (upd H' l (.dK (kvD pr.1 vs))) G':=(r1.step t1).unput;have lb:l≠c.β:=r1.neβ hl;refine⟨_,_,r2,hV.mono _ _ _ (λdv y w H2 G2 t2 e2=>?_) z.2⟩;have r3:=r2.step t2;have at_:(Z.set i (some (L2.V.ref l)))[i]?=some (some (.ref l)):=YAi hil;refine⟨.ref l,at_,_,_,r3,hI.mono _ _ _ (λk u wk H3 G3 t3 e3=>?_) y⟩;cases k with
   |str zz=>
    have ek:wk=L2.V.str zz:=e3;subst ek;have hl3:H3 l=some (.dK (kvD pr.1 vs)):=t3.fr l _ lb (t2.fr l _ lb zah);have len:(kvD pr.1 vs).length<sizeLine:=by
     unfold kvD;rw[YAb,YBi,<-h3,YBH,YAX];have:=z.1;omega
    refine⟨l,_,rfl,DPut.k (k:=.inr zz) hl3 len,l,_,zah,λo=>?_⟩;rw[zka,zhB h3];have g3:G3 l=none:=by
     have nn:∀{Ga Gb Ha Hb:Hp}{o:HO},Stp c.β Ha Ga Hb Gb->Ga l=none->Ha l=some o->¬ ze1 o->Gb l=none:=λ{Ga Gb Ha Hb o} tt g h ns=>by
      cases zz:Gb l with
      |none=>rfl
      |some u=>
       rcases tt.nw l (by rw[zz];simp)with y|y|⟨u',y,su⟩
       .exact absurd g y
       .rw[h]at y;cases y
       .rw[h]at y;cases y;exact absurd su ns
     exact nn t3 (nn t2 (zap r1.gh hl) zah (λz=>z)) (t2.fr l _ lb zah) (λz=>z)
    have tt:Stp c.β H' G' H3 G3:=(t1.trans t2).trans t3;have tw:Stp c.β H' G' (upd H3 l (.frz o (.dK (kvD (putKs pr.1 zz) (putVs pr.1 vs zz w))))) (upd G3 l (.frz o (.dK (kvD (putKs pr.1 zz) (putVs pr.1 vs zz w))))):=tt.wrS hl lb g3;have rp:Rep c (upd G3 l (.frz o (.dK (kvD (putKs pr.1 zz) (putVs pr.1 vs zz w))))) (.fdc (putKs pr.1 zz) (putVs pr.1 pr.2 zz dv)) (.ref l):=⟨l,_,o,rfl,zah,zhT h3,(zeV (e2.mono t3.gg) (h4.mono tt.gg)).mono (zb0 g3)⟩;exact⟨_,_,(r1.step tw).put rp,hB.mono _ _ _ (zgA (t.gg.trans tw.gg)) u⟩
   |_=>exact u.elim
  .exact z.elim) q.2⟩
@[reducible] def zuy:WE:=λ_ Q=>Q (.fdc [] [])
def zr3:DE X c (.Dict [] [] pos) zuy where
 mono:=λS Q Q' k q=>k _ q
 pe:=zas (zsS zpv) λZ H Q ⟨S,G,r,q⟩=>λl hl=>⟨l,[],rfl,zah,λo=>by
  rw[zka];exact q (.ref l) _ _ (Stp.new r.gh r.bx hl) ⟨l,[],o,rfl,zah,rfl,rfl⟩⟩
@[reducible] def zjx(A:WE):WL:=λS Q=>A S λd=>dcD d λks xs=>ks.length<=1000/\Q (ks.map D.str)
theorem znb:∀{ks:List Str}{vs:List V},ks.length=vs.length->(kvD ks vs).map (λp=>kV p.1)=ks.map V.str
 |[],[],_=>rfl
 |k::ks,v::vs,h=>by
  show kV (Sum.inr k)::(kvD ks vs).map (λp=>kV p.1)=_;rw[znb (by simpa using h)];rfl
def zly(hA:DE X c e A)(hg:Gl X "list":=by rfl)(he:starEach [e] X.env=(false,eval e X.env)::starEach [] X.env:=by rfl)(hc:X.calm=true:=by rfl)(hm:X.mg "list"=none:=by decreasing_trivial):DF X c (.Call (.Name "list" lp) [e] [] pos) (zjx A)where
 mono:=λS Q Q' k q=>hA.mono S _ _ (λd z=>zeS (λa b y=>⟨y.1,k _ y.2⟩) z) q
 pe:=zas (zck (zjg hc) hg hm YBt (zaC hA.pe zbf he) (by decide) (by decide) he rfl) λZ H Q ⟨S,G,r,q⟩=>⟨S,G,r,hA.mono S _ _ (λd z v H' G' t e=>by
  unfold dcD at z;split at z
  .rename_i pr ed
   obtain⟨a,vs,h1,h2,h3,h4⟩:=zgW e ed;subst h1;refine⟨a,_,rfl,zgF t.gh h2,by unfold kvD;rw[YAb,YBi,<-h3,YBH];exact z.1,λl hl=>?_⟩;rw[znb h3];exact z.2 l _ _ _ (t.trans (Stp.own t.gh t.bx hl)) zah (zap t.gh hl) (t.free hl) (reps_strs.mpr rfl)
  .exact z.elim) q⟩
@[reducible] def zrM(A:WE):WL:=λS Q=>A S λd=>(match d with|.fdc ks _=>Q (ks.map D.str)|_=>False)
def zq7(ha:G a=some (.frz o (.dK (kvD ks vs))))(hl:ks.length=vs.length):ItOk c (Itk a o (kvD ks vs)) (ks.map D.str) G:=by
 intro i H2 G2 s1 s2 bx h0;have hh:H2 a=some (.frz o (.dK (kvD ks vs))):=s2 _ _ (s1 _ _ ha);have hz:(kvD ks vs).length=ks.length:=by unfold kvD;rw[YAb,YBi,<-hl,YBH]
 refine⟨λe=>⟨by rw[e,hz,YAb],hh⟩,λd e=>?_⟩;have hi:i<ks.length:=by have:=(YAe.mp e).1;simpa using this
 refine⟨⟨by rw[hz];exact hi,hh⟩,λx H3 y=>?_⟩;obtain⟨rfl,p,hp,rfl⟩:=y;have e1:((kvD ks vs).map (λp=>kV p.1))[i]?=some (kV p.1):=by rw[YAu,hp];rfl
 rw[znb hl,YAu]at e1;rw[YAu]at e;cases hk:ks[i]? with
 |none=>rw[hk]at e;cases e
 |some k=>
  rw[hk]at e e1;cases e;exact⟨G2,Stp.refl s2 bx,(Option.some.inj e1).symm⟩
def zsP(hA:DE X c e A):DI X c tg e (zrM A)where
 mono:=λS Q Q' k q=>hA.mono S _ _ (λd z=>by
  cases d<;>first|exact k _ z|exact z) q
 pi:=zlL (zrZ hA.pe) λZ H R ⟨S,G,r,q⟩=>⟨S,G,r,hA.mono S _ _ (λd z v H' G' t e=>by
  cases d with
  |fdc ks xs=>
   obtain⟨a,vs,o,h1,h2,h4,h5⟩:=e;exact⟨a,o,_,h1,t.gh _ _ h2,z _ H' G' t (zq7 h2 h4)⟩
  |_=>exact z.elim) q⟩
end
end Fd
set_option maxHeartbeats 400000
set_option maxHeartbeats 400000
namespace Fd
open PySem L2
def zgN:upS (upS qj p o) p u=upS qj p u:=by
 funext a
 by_cases e:a=p
 .subst e;rw[zbg,zbg]
 .rw[zdj e,zdj e,zdj e]
section
variable{X:Cx}{c:Bk}{o e:Expr}{A B:WE}{apos cpos:Pos}
def lstD(x:D)(Q:List D->Prop):Prop:=match x with|.lst _ xs=>Q xs|_=>False
def zvQ(k:∀xs,Q xs->Q' xs)(q:lstD x Q):lstD x Q':=by
 cases x<;>first|exact k _ q|exact q
end
end Fd
set_option maxHeartbeats 400000
namespace Fd
open PySem L2
structure Bd(mg:Str->Option Value):Prop where
 dict:mg "dict"=none
 abs:mg "abs"=none
def lawF(n:Nat)(B:WF):Prop:=B {nx:=λ_ _=>False,rt:=λ_ d=>d=.bl true,bk:=λ_ _=>False,ct:=λ_ _=>False} (λ_=>none) (.un::.val .box::List.replicate n .un)
def absF:FL
 |[.int i],Q=>Q (.int (if i<0 then -i else i))
 |_,_=>False
def zvN:zdF absF:=λds Q Q' k q=>by
 unfold absF at q ⊢;split at q<;>first|exact k _ q|exact q.elim
section
variable{X:Cx}{c:Bk}{b:Bo}{st:Stmt}{e a:Expr}{es:List Expr}{sts x y:List Stmt}{pos p npos bpos:Pos}
def zpN:CallR X (.builtin "abs") (λxs H Q=>∃i,xs=[.int i]/\Q (.int (if i<0 then -i else i)) H):=by
 intro pins s Z H xs us Q I r h;obtain⟨i,rfl,q⟩:=h;obtain⟨u,rfl,t,rfl⟩:=zeC r;exact PyProof.Rows.call_abs_int λu tk=>⟨.int _,H,I.tok _,⟨_,rfl⟩,q⟩
def ztT:zgn c absF (λxs H Q=>∃i,xs=[.int i]/\Q (.int (if i<0 then -i else i)) H):=by
 intro H G ds vs Q gh bx h0 rv q;unfold absF at q;split at q
 .obtain⟨v,rfl,h⟩:=zgy rv;cases h;exact⟨_,rfl,q _ H G (Stp.refl gh bx) rfl⟩
 .exact q.elim
def zvc(hR:DA X c [e] R)(hg:Gl X "abs":=by rfl)(he:starEach [e] X.env=(false,eval e X.env)::starEach [] X.env:=by rfl)(hm:X.mg "abs"=none:=by decreasing_trivial):DE X c (.Call (.Name "abs" p) [e] [] pos) (cbW absF R):=
 zhX zvN zpN ztT hm PyProof.Rows.boot_abs hR hg (by decide) (by decide) he rfl
def zoE{x:Str}{k:Nat}{ps:List Str}{F:Fn}(C:Cal X.prog X.w X.K X.mg X.base x k ps (spD X.K 0 F))(hg:Gl X x:=by rfl)(hdb:(x==("__debug__":Str))=false:=by decide)(hK:c.K=X.K:=by rfl)(hr:Room k X.A:=by decreasing_trivial):DE X c (.Call (.Name x p) [] [] pos) (zal 0 F nilA)where
 mono:=λS Q Q' k q=>⟨q.1,zbY F _ _ _ k q.2⟩
 pe:=by
  obtain⟨f,fd,FO,hm,hk,hb⟩:=C.ex;refine zas (zp8 FO hr hg hm hk hb .nil zko hdb) λZ H Q ⟨S,G,r,q⟩=>?_;show spD X.K 0 F ([]++[]) H Q E0;exact⟨c.β,G,[],r.gh,r.bx,rfl,rfl,zbY F _ _ _ (λd z v H2 G2 t2 e2=>z v H2 G2 t2 (Rep.back (c':=⟨X.K,c.β,H,G,True⟩) (c:=c) hK.symm rfl (λa h=>r.new0 h) e2)) q.2⟩
@[reducible] def za1(A:Sto->WE):WOE:=λS qj Q=>A qj S λd=>Q d qj
def oe_l(h:∀qj M G1,DE X (reB b qj M G1) e (A qj)):OE X b e (za1 A):=zkr h
theorem DA.nox(h:DA X.nox c es W):DA X c es W:=⟨h.mono,PA.nox h.pa⟩
theorem PSs.nox(h:PSs X.nox sts t):PSs X sts t:=λpins s Z H D I hw=>YAT (h pins s Z H D (I.wish _) hw) (λf s1 z=>by
 cases f with
 |next=>obtain⟨Z1,H1,I1,z⟩:=z;exact⟨Z1,H1,I1.unwish,z⟩
 |brk=>obtain⟨Z1,H1,I1,z⟩:=z;exact⟨Z1,H1,I1.unwish,z⟩
 |cont=>obtain⟨Z1,H1,I1,z⟩:=z;exact⟨Z1,H1,I1.unwish,z⟩
 |ret u=>obtain⟨v,Z1,H1,I1,rv,z⟩:=z;exact⟨v,Z1,H1,I1.unwish,rv,z⟩) λ_ _ z=>z.elim
theorem OSs.nox(h:OSs X.nox b sts W):OSs X b sts W:=⟨h.mono,PSs.nox h.pss⟩
@[reducible] def frzF(i:Nat)(A:WF):WF:=λE qj S=>A E qj (frz i S)
def zs4(i:Nat)(h:OS X b st A):OS X b st (frzF i A)where
 mono:=λE E' qj S l q=>h.mono E E' qj _ l q
 ps:=zbj h.ps λD Z H ⟨S,G,qj,M,⟨G1,o,r⟩,q⟩=>by
  obtain⟨G',s',r'⟩:=zoU r i;exact⟨frz i S,G',qj,M,⟨G1,o,r'⟩,h.mono _ _ qj _ (zep s' (Dm.refl M)) q⟩
end
def zur(r:Room k A):A.units+1<cLine:=by have:=Room.units r;omega
def zjE:zbT (CXN X.prog X.w) X (XO b X.mg λ_ _=>False):=by
 rintro pins Z H s _ s' I ⟨ea,C,H',rfl,N,nm,C',qi,M',S,Z',G',ec,y,r⟩;exact y.elim
section
variable{P:Program}{w:World}{K:qk}{mg:Str->Option Value}{base:Heap}{N:List Str}{qual:Str}{scope:Scope}{f:Addr}{cd:Value}{A:Around}{outer:List PySem.Env}{s0:Shared}{H0 H G M:Hp}{E:XK}{β:Addr}
def ziV(hY:∀nm C H' G',Y nm->mg nm=some (.ref C)->Stp β H G H' G'->E (.ref C) none H'):zbT (CXN P w) (cxOf (CXN P w) P w K mg base N qual scope f cd A outer s0 H0 E) (XD ⟨K,β,H,G,True⟩ mg Y):=
 zuV λC H' ⟨nm,C',G',ec,y,hm,t⟩=>by cases ec;exact hY nm C H' G' y hm t
def zvo(hY:∀nm C H' G' qj M' G1,Y nm qj->mg nm=some (.ref C)->(∃ad,Kn K β G1 qj M' ad)->Out ⟨K,β,mi H M,G,M⟩ M' G1->Stp β (ov (mi H M) M') G1 H' G'->E (.ref C) none H'):zbT (CXN P w) (cxOf (CXN P w) P w K mg base N qual scope f cd A outer s0 H0 E) (XO ⟨K,β,mi H M,G,M⟩ mg Y):=
 zuV λC H' ⟨nm,C',qi,M',S,Z,G',ec,y,hm,G1,o,r⟩=>by cases ec;exact hY nm C H' G' qi M' G1 y hm r.kn o r.stp
end
structure TabP(P:Program)(w:World)(K:qk)(mg:Str->Option Value)(base:Heap)(lv n:Nat)(T:List (Addr×FnX)):Prop where
 ex:∀q∈T,∃fd k ps,FnOk P w K mg base (CXN P w) k q.1 fd ps (spDX K mg n q.2)/\k<=lv/\PySem.W.keepIn K (.ref q.1)=true/\Binds K fd ps []
def TabP.at(h:TabP X.prog X.w X.K X.mg X.base lv n T)(hr:Room lv X.A):Tab X n T:=
 ⟨λq hq=>by
  obtain⟨fd,k,ps,h1,h2,h3,h4⟩:=h.ex q hq;exact⟨fd,k,ps,h1,hr.mono h2,h3,h4⟩⟩
def TabP.nil:TabP P w K mg base lv n []:=⟨λq h=>by cases h⟩
def TabP.cons{P:Program}{w:World}{K:qk}{mg:Str->Option Value}{base:Heap}{lv n k:Nat}{T:List (Addr×FnX)}{f:Addr}{fd:FuncData}{ps:List Str}{F:FnX}{x qual:Str}{st:Stmt}(Fu:Fun K x qual st f fd)(h:FnOk P w K mg base (CXN P w) k f fd ps (spDX K mg n F))(hb:Binds K fd ps [])(r:TabP P w K mg base lv n T)(hk:k<=lv:=by decide):TabP P w K mg base lv n ((f,F)::T):=
 ⟨λq hq=>by
  rcases YAv.mp hq with rfl|hq
  .exact⟨fd,k,ps,h,hk,Fu.kp,hb⟩
  .exact r.ex q hq⟩
def zcw:GRow K (x,t,.ref f) (x,.obj f):=⟨rfl,.ref f,rfl,λc G hK=>rfl⟩
end Fd
set_option maxHeartbeats 400000
namespace Fd
open PySem L2
def zvv(K:qk):V->List V->Hp->VK->Prop:=λx vs H Q=>∃(c:Bk)(G:Hp)(n:Bool)(ds:List D)(d:D)(v:V)(j:Nat)(e:D),c.K=K/\Same G H/\Rep c G (.lst n ds) x/\vs=[v]/\Rep c G d v/\inOk d ds/\ds.length<=100000/\ds[j]?=some e/\eqB e d=true/\(∀m,m<j->∀y,ds[m]?=some y->eqB y d=false)/\Q (.int j) H
def zsE(hu:X.A.units+64<cLine):MtR X "list.index" (zvv X.K):=by
 intro pins s Z H x vs v us Q I rx rv ⟨c,G,n,ds,d,v1,j,e,hK,gh,hx,e1,hv,⟨lx,ly,ld⟩,hl,hj,he,hno,q⟩;subst e1;obtain⟨u,rfl,ru⟩:=rv.one;obtain⟨as,qa⟩:=hv.reads hK I gh d ru lx;obtain⟨bs,qb⟩:=hx.reads hK I gh (.lst n ds) rx (by unfold layD;exact ly);unfold toPy at qb;have hxs:=zcR ds ly;have hd:=zc8 d lx;obtain⟨ra,_,er,_⟩:=id hx;subst er;obtain rfl:v=Value.ref ra:=rx;cases qb with
 |@list _ o items n2 _ as2 h1 h2 h3 h4=>
  have ho:s.heap.get? ra=some {cls:=.type "list",dict:=o.dict,data:=.seq items n2,slots:=o.slots}:=by rw[h1,<-h2,<-h3]
  have mp:=SeqAt.readsAll_map _ _ _ hxs h4;have hsz:items.size=ds.length:=by
   have:=congrArg List.length mp
   rw[zgc,YAb,YAb,YBe]at this;exact this
  have at_:∀(m:Nat)(hm:m<items.size)(y:D),ds[m]?=some y->SeqAt.readOf s.heap items[m]=toPy y:=λm hm y hy=>by
   have:=congrArg (λl=>l[m]?) mp
   simp only[zgc,YAu,hy,YCo,YBh hm,YC8,YCU]at this;exact this
  have hjl:j<ds.length:=(YAe.mp hj).1;refine YCA F.slot_list_index ⟨_,ho,rfl⟩ F.entry_list_index (F.args_list_index_2 _ _) (SeqAt.list_indexAt ra items n2 o.dict o.slots u (λy=>PyData.eqv (SeqAt.readOf s.heap y) (toPy d)) j (by omega) (by omega) ?_ ?_) ⟨ho,?_,⟨.int j,H,I.tok _,⟨_,rfl⟩,q⟩⟩
  .show PyData.eqv (SeqAt.readOf s.heap items[j]) (toPy d)=true;rw[at_ j (by omega) e hj];exact he
  .intro m hm hmj;show PyData.eqv (SeqAt.readOf s.heap items[m]) (toPy d)=false;rw[at_ m hm _ (YAf (by omega))];exact hno m hmj _ (YAf (by omega))
  .exact SeqAt.items_eqAt h4 qa hxs hd (by omega)
def ztX(xs:List D)(y:D)(Q:D->Prop):Prop:=inOk y xs/\xs.length<=100000/\∃(j:Nat)(e:D),xs[j]?=some e/\eqB e y=true/\(∀m,m<j->∀z,xs[m]?=some z->eqB z y=false)/\Q (.int j)
@[reducible] def zrK(A B:WE):WE:=λS Q=>A S λx=>lstD x λxs=>B S λy=>ztX xs y Q
def ztE(hA:DE X c o A)(hB:DE X c e B)(hbase:attributeBase o "index" X.env (eval o X.env)=eval o X.env:=by rfl)
  (hfew:((backTo cpos (starEach [e] X.env)).all (λx=>!x.1)&&(backToKw cpos (keywordEach [] X.env)).all (λx=>x.1.isSome)
   && decide (([e]:List Expr).length+([]:List Keyword).length+(if ([]:List Keyword).isEmpty then 0 else 1)<30))=true:=by rfl)
  (hline:(apos.endLine==cpos.line)=true:=by rfl) (hs:starEach [e] X.env=(false,eval e X.env)::starEach [] X.env:=by rfl) (hplain:(backTo cpos (starEach [] X.env)).any (·.1)=false:=by rfl) (hK:c.K=X.K:=by rfl) (hu:X.A.units+64<cLine:=by decreasing_trivial) :
  DE X c (.Call (.Attribute o "index" apos) [e] [] cpos) (zrK A B)where
 mono:=λS Q Q' k q=>hA.mono S _ _ (λx z=>zvQ (λt y=>hB.mono S _ _ (λy ⟨h1,h2,j,e,h3,h4,h5,h6⟩=>⟨h1,h2,j,e,h3,h4,h5,k _ h6⟩) y) z) q
 pe:=zas (zpk YB7 PySem.F.slot_list_index PySem.F.type_list_index (zsE hu) hA.pe (zaC hB.pe zbf hs) hbase hfew hline hs hplain) λZ H Q ⟨S,G,R,q⟩=>⟨S,G,R,hA.mono S _ _ (λx z v H1 G1 t1 e1=>by
  cases x with
  |lst n xs=>
   obtain⟨a,vs,ea,ha,hn,rv⟩:=id e1;subst ea;refine⟨.inl ⟨rfl,vs,SqL.of (t1.gh _ _ ha)⟩,S,G1,R.step t1,hB.mono S _ _ (λy ⟨h1,h2,j,e,h3,h4,h5,h6⟩ v H2 G2 t2 e2=>?_) z⟩;exact⟨c,G2,n,xs,y,v,j,e,hK,t2.gh,e1.mono t2.gg,rfl,e2,h1,h2,h3,h4,h5,h6 _ H2 G2 (t1.trans t2) rfl⟩
  |_=>exact z.elim) q⟩
end Fd
set_option maxHeartbeats 400000
namespace L2
open PySem PySem.Spec PyProof.Rows PySem.W
def zhM:entryFor table "proto.unchain"=some Builtin.«proto.unchain»:=entryFor_of_fast (by kernel_rfl)
def NoCtx(h:Heap)(ea:Addr):Prop:=∃oe vs,h.get? ea=some oe/\oe.data=.fields vs/\vs[2]?=some Value.none
section
variable{prog:Program}{w:World}{A:Around}{E:Value->Shared->Prop}{s:Shared}{ea a:Addr}
def zpI{α:Type}{Q:α->Shared->Prop}{o:Obj}{vs:Array Value}(hh:A.handled=some (.ref ea))(hc:NoCtx s.heap ea)(ho:s.heap.get? a=some o)(hd:o.data=.fields vs)(hz:2<vs.size)(hne:ea≠a)
  (h:E (.ref a) {s with heap:=s.heap.update a (Obj.mapFields (·.setIfInBounds 2 (.ref ea)))}):wpAny (model prog w) A (raiseNew (.ref a):Sem α) Q E s:=by
 obtain⟨oe,us,g1,g2,g3⟩:=hc;unfold raiseNew;refine YAa (wpAny_handled ?_);rw[hh];dsimp only;rw[if_pos (show(Value.ref ea != Value.ref a)=true by simpa using hne)];refine YAa (YAW (wpAny_runValue (codeAny_builtin zhM ?_)));unfold Builtin.«proto.unchain»;dsimp only;refine YAa (YAF g1 g2 g3 ?_);rw[if_pos (by rfl)];refine YAa (YAd (YAd ?_));exact YAa (YBD (x:=.ref ea) ho hd hz (wpAny_throw h))
theorem NoCtx.push(x:NoCtx h ea):NoCtx (h.push o) ea:=let⟨oe,vs,g,r⟩:=x;⟨oe,vs,YAc _ g,r⟩
def NoCtx.lt(x:NoCtx h ea):ea<h.objs.size:=let⟨_,_,g,_⟩:=x;YAh g
def zjb{it:Addr}{x left step:Int}{Q:Option Value->Shared->Prop}(hh:A.handled=some (.ref ea))(hc:NoCtx s.heap ea)(hit:IsRangeIter s.heap it x left step)(hleft:left<=0)(hQ:∀h',Heap.ExtBut it s.heap h'->Q none {s with heap:=h'}):wpAny (model prog w) A (pyNext (.ref it)) Q E s:=by
 have hT:s.TypeIs (.ref it) "range_iterator":=⟨_,hit,rfl⟩;unfold pyNext;refine YAa (YBJ (YAH (name:=Str.ofString "__next__") hT F.slot_range_iterator_next (YA2 F.slot_range_iterator_next hT F.entry_range_iterator_next ?_ (F.args_range_iterator_next_1 _))));show wpAny _ _ (field (.ref it) 0 >>= _) _ _ s;refine YAa (YAF hit rfl (x:=rawInt x) rfl ?_);show wpAny _ _ (field (.ref it) 1 >>= _) _ _ s;refine YAa (YAF hit rfl (x:=rawInt left) rfl ?_);show wpAny _ _ (field (.ref it) 2 >>= _) _ _ s;refine YAa (YAF hit rfl (x:=rawInt step) rfl ?_);show wpAny _ _ (if left<=0 then _ else _) _ _ s;rw[if_pos hleft];refine YAa (YCe (YAa ?_));show wpAny _ _ (newExc (.type "StopIteration") [] >>= _) _ _ _;refine YAa ?_;unfold newExc newTuple;refine YAa (YAI ?_ (by size_fits));refine YAa (m:=firstArgMember _ _) (wpAny_of_eq (a:=Value.none) (by first|rfl|(simp only[firstArgMember];rfl)) ?_);refine YAI ?_ (by size_fits);have g:=YAn (s.heap.push {cls:=.type "tuple",data:=.seq ([]:List Value).toArray}) (o:={cls:=.type "StopIteration",data:=.fields (#[.ref s.heap.objs.size,.none,.none,.none,.bool false,.none]++ownMembersOf (.type "StopIteration") [])}) rfl;refine zpI (ea:=ea) hh hc.push.push g rfl (by show 2<(#[Value.ref _,.none,.none,.none,.bool false,.none]++#[]).size;simp) (YAs hc.push.lt) ?_;refine YAa (YBV (T:="StopIteration") (b:=true) ⟨_,YAR _ g rfl,YCh _ _⟩ YCM ?_);refine YAd (hQ _ λb o n q=>?_);have l:=YAh q;rw[YAJ _ _ (by show(s.heap.push _).objs.size≠b;rw[YBq];exact YBz (YCi l))];exact YAc _ (YAc _ q)
end
end L2
set_option maxHeartbeats 400000
namespace L2
open PySem PySem.Spec PyProof.Rows PySem.W
structure Han(X:Cx)(ea:Addr):Prop where
 hd:X.A.handled=some (.ref ea)
 at_:NoCtx X.s₀.heap ea
 un:X.H₀ ea=none
 fs:ea∉X.fs
 ex:ea∉X.ex
section
variable{X:Cx}{pins:List (Addr×Obj)}{Z:St}{H:Hp}{s:Shared}{ea:Addr}{tg iter elt a:Expr}{Nc:List Str}{scope:Scope}{sub:List (Option Nat)}
def Han.now(h:Han X ea)(I:Inv X pins Z H s):NoCtx s.heap ea:=by
 obtain⟨oe,vs,g,r⟩:=h.at_;exact⟨oe,vs,I.base.keep ea oe g h.un h.fs h.ex,r⟩
def Han.turn{it:Addr}{lo:Int}{n:Nat}(h:Han X ea):zld X tg (Itr lo n) [it] it (λi h=>IsRangeIter h it (lo+(i:Nat)*1) ((n:Int)-(i:Nat)) 1):=by
 intro i s Z H I hf st;obtain⟨f0,f1,f2,f3,f4,f5⟩:=hf it (by simp);refine⟨λgo E=>?_,λstop E=>?_⟩
 .have go:i<n:=go;refine wpAny_pyNext_range_item st (by omega) λh' st' sb=>?_;have I1:Inv X [] Z H {s with heap:=h',toks:=s.toks+1}:=I.turned (λb o hb e=>(sb.2 b hb).trans e) f0 f1 f3 f4 f5;have st2:IsRangeIter h' it (lo+((i+1:Nat):Int)*1) ((n:Int)-((i+1:Nat):Int)) 1:=by
   have e1:lo+((i+1:Nat):Int)*1=lo+(i:Int)*1+1:=by omega
   have e2:(n:Int)-((i+1:Nat):Int)=(n:Int)-(i:Int)-1:=by omega
   rw[e1,e2];exact st'
  refine⟨_,rfl,zma (s:={s with heap:=h',toks:=s.toks+1}) (n:="range_iterator") st2 rfl rfl (by decide) ⟨.int (lo+i),H,I1,⟨s.toks,?_⟩,⟨rfl,rfl⟩,st2,λb hb=>(hf b hb).1⟩⟩;rw[Int.mul_one]
 .have stop:n<=i:=stop;exact zjb h.hd (h.now I) st (by omega) λh' eb=>⟨rfl,I.turned (t':=s.toks) (λb o hb e=>eb b o hb e) f0 f1 f3 f4 f5⟩
def Han.comp(h:Han X ea)(I:Inv X pins Z H s)(hk:∀b o,s.heap.get? b=some o->s0.heap.get? b=some o)(hl:s.heap.objs.size<=l)(hf:FpOk X pins H it):Han (zaL X Nc scope cl s0.heap.objs.size s0 (upd H l o) [it]) ea:=by
 obtain⟨oe,vs,g,r⟩:=h.now I;have lt:ea<X.s₀.heap.objs.size:=h.at_.lt;refine⟨h.hd,⟨oe,vs,hk _ _ g,r⟩,?_,λz=>?_,λz=>?_⟩
 .show upd H l o ea=none;rw[upd_ne (YAs (YAr (YAh g) hl))];obtain⟨oe',_,g',_⟩:=h.at_;exact I.base.free ea oe' g' h.un h.ex
 .rcases YAv.mp (I.stkSub ea z)with e|e
  .exact absurd lt (by have:=I.ok.above;rw[e];exact Nat.not_lt.mpr this)
  .exact h.fs e
 .have e:ea=it:=YAw.mp z;subst e;rcases hf.2.2.2.1 with z|z
  .exact h.ex z
  .exact absurd lt (Nat.not_lt.mpr z)
def Han.pit(h:Han X ea)(hg:Gl X "range")(hm:X.mg "range"=none)(ha:PA X [a] ta)(hs:starEach [a] X.env=[(false,eval a X.env)]:=by rfl):PIT X Nc scope tg (.Call (.Name "range" p) [a] [] pos) (zuC ta):=by
 intro pins s Z H R I q;refine Call_ (zhp I hg hm boot_range (YBs (thn (ha pos pins s Z H _ I q) λus s1 ⟨vs,H1,I1,r1,q1⟩=>?_) hs rfl));obtain⟨j,e,q1,q2,q⟩:=q1;subst e;cases r1 with
 |cons r rr=>
  cases rr;obtain⟨t,rfl⟩:=r;refine call_range_1 ?_;refine wpAny_pyIter_range (IsRange.new ..) (small_one (by decide) (by decide) q1 q2) ?_;generalize ho:({cls:=.type "range",data:=.fields #[.int 0 s1.toks,.int j t,.int 1 (s1.toks+1)]}:Obj)=ob;have I2:Inv X pins Z H1 {s1 with heap:=s1.heap.push ob,toks:=s1.toks+1+1}:=I1.kept λb o e=>YAc _ e;generalize hs2:({s1 with heap:=s1.heap.push ob,toks:=s1.toks+1+1}:Shared)=s2 at I2 ⊢;generalize hit:({cls:=.type "range_iterator",data:=.fields #[rawInt 0,rawInt (Builtin.Range.rangeSize 0 j 1),rawInt 1]}:Obj)=io;have I3:Inv X pins Z H1 {s2 with heap:=s2.heap.push io}:=I2.kept (t':=s2.toks) λb o e=>YAc _ e;have fp:=I2.fpOk (H':=H1) (YAo _) (I2.hok.fresh (YAo _));refine⟨s2.heap.objs.size,[s2.heap.objs.size],_,Itr 0 j.toNat,H1,rfl,I3,zhq _ 0 j.toNat,?_,λb hb=>by rw[YAw.mp hb];exact fp,q,λcl s0 hk=>(h.comp (pins:=pins) I3 hk (YAo _) fp).turn⟩;show IsRangeIter _ _ (0+((0:Nat):Int)*1) (((j.toNat:Nat):Int)-((0:Nat):Int)) 1;have e1:(0:Int)+((0:Nat):Int)*1=0:=by simp
  have e2:((j.toNat:Nat):Int)-((0:Nat):Int)=Builtin.Range.rangeSize 0 j 1:=by rw[rangeSize_one];split<;>omega
  rw[e1,e2];exact hit▸YAn _ rfl
end
end L2
set_option maxHeartbeats 400000
namespace L2
open PySem PySem.Spec PyProof.Rows PySem.W
abbrev _root_.PySem.Around.calmed(A:Around):Around:={A with handled:=none}
abbrev cxIn(CX:CXT)(P:Program)(w:World)(K:qk)(mg:Str->Option Value)(base:Heap)(N:List Str)(qual:Str)(scope:Scope)(f:Addr)(cd:Value)(A:Around)(outer:List Env)(s:Shared)(H:Hp)(E:XK)(ea:Addr)(oe:Obj):Cx:=
 {cxOf CX P w K mg base N qual scope f cd A outer s H E with calm:=false,pn:=[(ea,oe)]}
section
variable{CX:CXT}{P:Program}{w:World}{K:qk}{mg:Str->Option Value}{base:Heap}{N ps:List Str}{name qual:Str}{params:Arguments}{body:List Stmt}{scope:Scope}{f ea:Addr}{oe:Obj}{cd dV kV doc pm ct oc:Value}{an od:Option Addr}{osl:Array (Option Value)}{A:Around}{outer:List Env}{s s1:Shared}{H:Hp}{Q:VK}{E:XK}{us:List Value}{vs:List V}{fs:Array Value}{k:Nat}
def ztc(hh:A.handled=some (.ref ea))(ho:s.heap.get? ea=some oe)(hd:oe.data=.fields fs)(h2:fs[2]?=some Value.none)(hH:H ea=none)(hf:ea∉frs outer):Han (cxIn CX P w K mg base N qual scope f cd A outer s H E ea oe) ea:=
 ⟨hh,⟨oe,fs,ho,hd,h2⟩,hH,hf,λz=>nomatch z⟩
def ztq(I:Inv (cxOf CX P w K mg base N qual scope f cd A.calmed outer s H E) [] (zdq N vs) H s1)(hk:∀b o,s.heap.get? b=some o->s1.heap.get? b=some o)(ho:s.heap.get? ea=some oe)(hd:oe.data=.fields fs)(hH:H ea=none)(hf:ea∉frs outer):Inv (cxIn CX P w K mg base N qual scope f cd A outer s H E ea oe) [] (zdq N vs) H s1:=
 ⟨⟨I.ok.mod,I.ok.kind,I.ok.glob,I.ok.blt,I.ok.above,I.ok.inj,I.ok.has,I.ok.cab,(λz=>by cases z),I.ok.frames,I.ok.stk,I.ok.exf,I.ok.bs,I.ok.bsz,I.ok.noex,I.ok.exfs,I.ok.funs,I.ok.frf⟩,I.os,I.bare,I.base,I.loc,I.cell,I.free,I.freeC,λp hp=>by
  have e:p=(ea,oe):=YAw.mp hp;subst e;exact⟨hk _ _ ho,hH,YAs (YAh ho),hf,λv z=>by rw[hd]at z;cases z⟩,I.hok,I.len⟩
def zvp(lk:K.lookup f=some ⟨oc,od,.func (PySem.W.fnOf name qual params body scope dV kV doc pm an cd ct),osl⟩)(hcd:PySem.W.codeIn K cd qual=true)(qj:FnScope N ps scope)(hr:Room (k+1) A.calmed)
  (ho:s.heap.get? ea=some oe) (hd:oe.data=.fields fs) (hH:H ea=none) (hf:ea∉frs outer) (e0:Env0 P w K mg base A outer s H) (hb:BindsTo s (PySem.W.fnOf name qual params body scope dV kV doc pm an cd ct) args (ps.zip us)) (r:Vals vs us) (hl:vs.length=ps.length)
  (ht:PSs (cxIn CX P w K mg base N qual scope f cd A outer s H E ea oe) body t) (hq:t {nx:=λ_ H'=>Q .non H',rt:=Q} (zdq N vs) H):codeAny (model P w) A (.call (.ref f) args) (CR CX outer P w H s Q E) s:=by
 have KX:K.In s.heap:=e0.mod.kin.keeps λb o e=>(e0.bs b o e).1;have lim:s.heap.NoLimit:=e0.mod.nolimit.keeps λb o e=>(e0.bs b o e).1;have hkind:∀y∈ps.zip us,scope.names.lookup y.1=some .local\/(scope.names.lookup y.1=some .cell/\((cellsFrom (s.heap.objs.size+1) scope.names []).lookup y.1).isSome=true):=λy hy=>
  (qj.par y.1 (YCD hy).1).elim .inl λq=>.inr ⟨q,YB9 _ _ _ (.inl q)⟩
 refine codeAny_call_function (show A.depth<_ from hr.depth) (KX _ _ lk) rfl qj.co qj.gen rfl (PySem.W.codeRec_of KX hcd) (hb _ _ _ _ ?_);refine wpAny_newFunctionEnv_cells qj.kind hkind λenv he s1 x=>?_;subst he;refine⟨lim.keeps x.toInCall.keep,codeAny_func ?_⟩;have I0:Inv (cxOf CX P w K mg base N qual scope f cd A.calmed outer s H E) [] (zdq N vs) H s1:=zjZ qj rfl ⟨e0.frames,e0.mod,e0.bs,e0.bsz,e0.funs,e0.frf,e0.hok,e0.bare⟩ hl r x;have I:=ztq (A:=A) I0 x.toInCall.keep ho hd hH hf;refine YAT (ht [] s1 (zdq N vs) H _ I hq) (λfl s' hs=>?_) λe s' hs=>hs;cases fl with
 |ret u=>obtain⟨v,Z',H',J,rv,q⟩:=hs;exact⟨v,H',J.os,J.bare,J.base,J.hok,rv,q⟩
 |next=>obtain⟨Z',H',J,q⟩:=hs;exact⟨.non,H',J.os,J.bare,J.base,J.hok,rfl,q⟩
 |brk=>obtain⟨_,_,_,q⟩:=hs;exact False.elim q
 |cont=>obtain⟨_,_,_,q⟩:=hs;exact False.elim q
end
end L2
set_option maxHeartbeats 400000
namespace L2
open PySem PySem.Spec PyProof.Rows PySem.W
variable{X:Cx}
def zpF(hp:(ea,oe)∈X.pn)(hc:oe.cls=.ref C)(kC:ExK X.K C)(hu:∀u',RelV v u'->u'=u)(he:kitOne X.K (.ref C) u=some b):CallR X (.builtin "isinstance") (λxs H Q=>xs=[.ref ea,v]/\Q (.bl b) H):=by
 intro pins s Z H xs us Q I r h;obtain⟨rfl,q⟩:=h;obtain⟨u1,u2,rfl,r1,r2⟩:=zsk r;cases r1;cases hu _ r2;obtain⟨g,_⟩:=I.pin (ea,oe) (YBn _ hp);exact zrP kC I.kIn ⟨oe,g,hc⟩ he λtk=>⟨.bl b,H,I.tok tk,rfl,q⟩
def zrm:bootBuiltins "ValueError"=some (.type "ValueError"):=by decide +kernel
end L2
namespace Fd
open PySem L2
section
variable{X:Cx}{c:Bk}{e a elt tg:Expr}{ifs:List Expr}{A E:WE}{C:WT}{ea Ca:Addr}{oe:Obj}{b:Bool}{x:Str}{p p' pos:Pos}{scope:Scope}{Nc:List Str}{sub:List (Option Nat)}
@[reducible] def isEW(A:WE)(ea:Addr)(b:Bool):WE:=λS Q=>A S λd=>d=.obj ea/\Q (.bl b)
def zsJ(hA:DE X c e A)(hp:(ea,oe)∈X.pn)(hc:oe.cls=.ref Ca)(kC:ExK X.K Ca)(hv:PE X (.Name x p') (tC v))(hu:∀u',RelV v u'->u'=u)(he:PySem.W.kitOne X.K (.ref Ca) u=some b)(hm:X.mg "isinstance"=none)(hg:Gl X "isinstance":=by rfl)
  (hs:starEach [e,.Name x p'] X.env=(false,eval e X.env)::starEach [.Name x p'] X.env:=by rfl):DE X c (.Call (.Name "isinstance" p) [e,.Name x p'] [] pos) (isEW A ea b)where
 mono:=λS Q Q' k q=>hA.mono S _ _ (λd z=>⟨z.1,k _ z.2⟩) q
 pe:=zas (zeX (zpF hp hc kC hu he) hg hm PyProof.Rows.boot_isinstance (zaC hA.pe (zaC hv zbf) hs) (by decide) (by decide) hs rfl) λZ H Q ⟨S,G,r,q⟩=>⟨S,G,r,hA.mono S _ _ (λd z w H' G' t er=>by
  obtain⟨rfl,z⟩:=z;cases (show w=V.ref ea from er);exact⟨rfl,z (.bl b) H' G' t rfl⟩) q⟩
def zq6(h:PIT X Nc scope tg iter wi)(k:∀ Z H R,wi' Z H R->wi Z H R):PIT X Nc scope tg iter wi':=λpins s Z H R I q=>h pins s Z H R I (k Z H R q)
def znP(t:Tg)(h:Han X ea)(hA:DE X c a A)(hg:∀{cl L s0 H0 ex},PG (zaL X Nc scope cl L s0 H0 ex) tg (gOf c.K t))(hC:∀{cl L s0 H0 ex},DIf (zaL X Nc scope cl L s0 H0 ex) c ifs C)(hE:∀{cl L s0 H0 ex},DE (zaL X Nc scope cl L s0 H0 ex) c elt E)(hm:X.mg "range"=none)
  (hS:zhr X.N X.env.scope scope Nc sub=true:=by kernel_rfl) (hok:okT sub t=true:=by decide +kernel) (hs:∀y,foldedSetIterable (.Call (.Name "range" p) [a] [] p') X.env y=pure y:=by intro _;rfl) (hr:Gl X "range":=by rfl) (hs1:starEach [a] X.env=[(false,eval a X.env)]:=by rfl) :
  DF X c (.ListComp elt [⟨tg,.Call (.Name "range" p) [a] [] p',ifs,0⟩] scope pos) (zaF sub (zeU A) t C E):=
 have mC:=(@hC [] 0 X.s₀ (λ_=>none) []).mono;have mE:=(@hE [] 0 X.s₀ (λ_=>none) []).mono;have mI:zfy (zeU A):=λS Q Q' k q=>hA.mono S _ _ (λd z=>by cases d<;>first|exact⟨z.1,k _ z.2⟩|exact z) q;have pit:PIT X Nc scope tg (.Call (.Name "range" p) [a] [] p') (tDI c (zeU A)):=zq6 (h.pit hr hm (zaC hA.pe zbf hs1) hs1) λZ H R ⟨S,G,r,q⟩=>⟨S,G,r,hA.mono S _ _ (λd z v H' G' t e=>by
  cases d with
  |int n=>exact⟨n,by cases e;rfl,z.1.1,z.1.2,z.2 _ H' G' t (it_rng 0 _)⟩
  |_=>exact z.elim) q⟩
 ⟨zen mI mC mE,zas (zjH (CompScope.of hS) pit (λcl L s0 H0 ex=>@hg cl L s0 H0 ex) (znk c.K sub t hok) (zmz c.K t) (λcl L s0 H0 ex=>(@hC cl L s0 H0 ex).pf) (λcl L s0 H0 ex=>(@hE cl L s0 H0 ex).pe) hs) (zeT mI mC mE)⟩
end
structure InOk(P:Program)(w:World)(K:qk)(mg:Str->Option Value)(base:Heap)(k:Nat)(x:Str)(NS:List Str)(W:Str->Addr->Fn):Prop where
 ex:∃f fd y,mg x=some (.ref f)/\PySem.W.keepIn K (.ref f)=true/\Binds K fd [y] []/\∀(A:Around)(outer:List PySem.Env)(s:Shared)(H:Hp)(nm:Str)(ea C:Addr)(oe:Obj)(fs:Array Value)(Q:VK)(β:Addr)(G:Hp),nm∈NS->mg nm=some (.ref C)->Room k A.calmed->A.handled=some (.ref ea)->s.heap.get? ea=some oe->oe.cls=.ref C->oe.data=.fields fs->fs[2]?=some Value.none->H ea=none->ea∉frs outer ->
  Env0 P w K mg base A outer s H->Same G H->BoxD β H G->up (W nm ea) [.obj ea] (λd=>∀v H' G',Stp β H G H' G'->Rep ⟨K,β,H,G,True⟩ G' d v->Q v H')->codeAny (model P w) A (.call (.ref f) ⟨[.ref ea],[]⟩) (CR CX0 outer P w H s Q (λ_ _ _=>False)) s
def zv2{P:Program}{w:World}{K:qk}{mg:Str->Option Value}{base:Heap}{x qual y:Str}{st:Stmt}{f:Addr}{fd:FuncData}{N NS:List Str}{k:Nat}{B:Str->Addr->WS}(F:Fun K x qual st f fd)(hm:mg x=some (.ref f))(hb:Binds K fd [y] [])
  (hB:∀{cdv:Value}{A:Around}{outer:List PySem.Env}{s:Shared}{H:Hp}{β:Addr}{G:Hp}(nm:Str)(ea C:Addr)(oe:Obj),N.Nodup->nm∈NS->mg nm=some (.ref C)->oe.cls=.ref C->Han (cxIn CX0 P w K mg base N qual (zao st) f cdv A outer s H (λ_ _ _=>False) ea oe) ea ->
   DSs (cxIn CX0 P w K mg base N qual (zao st) f cdv A outer s H (λ_ _ _=>False) ea oe) ⟨K,β,H,G,True⟩ (zbe st) (B nm ea)) (qj:FnScope N [y] (zao st):=by exact⟨rfl,rfl,rfl,by decide +kernel,rfl,by decide +kernel,by decide +kernel⟩):InOk P w K mg base (k+1) x NS (λnm ea=>fnW N.length (B nm ea)):=by
 obtain⟨oc,od,kV,doc,pm,an,cdv,ct,osl,e,lk,hcd⟩:=F.ex;refine⟨f,fd,y,hm,F.kp,hb,λA outer s H nm ea C oe fs Q β G hn hmn hr hh ho hc hd h2 hH hf e0 gh bx ⟨P',q,hP⟩=>?_⟩;have h:=@hB cdv A outer s H β G nm ea C oe qj.nd hn hmn hc (ztc hh ho hd h2 hH hf);subst e;have KX:K.In s.heap:=e0.mod.kin.keeps λb o e=>(e0.bs b o e).1;refine zvp (vs:=[.ref ea]) lk hcd qj hr ho hd hH hf e0 (hb s [.ref ea] KX rfl) (.cons rfl .nil) rfl h.pss ⟨zaI N.length [.obj ea],G,zdh gh bx ⟨.ref ea,[],rfl,rfl,rfl⟩,h.mono {nx:=λ_=>P' .non,rt:=P',bk:=λ_=>False,ct:=λ_=>False} _ _ ⟨λS z Z H' G' r s'=>hP _ z .non H' G' r.stp rfl,λd z v H' G' t e=>hP _ z v H' G' t e,λS z=>z.elim,λS z=>z.elim⟩ q⟩
end Fd
set_option maxHeartbeats 400000
namespace L2
open PySem PySem.Spec PyProof.Rows PySem.W
section
variable{X:Cx}{CX:CXT}{k:Nat}{f C:Addr}{fd:FuncData}{ps:List Str}{sp:Sp}{E:XK}{m:Str}{p pos apos:Pos}{e o:Expr}{es:List Expr}{ta:TE}{t:TA}{pins:List (Addr×Obj)}{Z:St}{H:Hp}{s:Shared}{Q:VK}
def zsF(he:PE X.nox o ta)(c:Cls X.K C)(hm:Meth X.K C m f)(F:FnOk X.prog X.w X.K X.mg X.base CX k f fd ps sp)(hr:Room k X.A)(hb:Binds X.K fd ps [])(ha:PA X.nox (e::es) t)(I:Inv X pins Z H s)(h:zmb C m sp [] E ta t Z H Q)
  (hst:starEach (e::es) X.env=(false,eval e X.env)::starEach es X.env:=by rfl) (hpl:(backTo pos (starEach es X.env)).any (·.1)=false:=by rfl)
  (ht:eval (.Call (.Attribute o m apos) (e::es) [] pos) X.env=(do
   let ov <-eval o X.env
   standAt apos.atName
   let(f,first) <-holding [ov] (getMethod ov m pl)
   callWith pos f first (backTo pos (starEach (e::es) X.env)) (backToKw pos (keywordEach [] X.env))):=by rfl) :
  wpAny (model X.prog X.w) X.A (eval (.Call (.Attribute o m apos) (e::es) [] pos) X.env) (EP X pins Z Q) (λx s'=>∃H1 s1,Inv X pins Z H1 s1/\CX X.stack H1 s1 E x s') s:=by
 refine YCm (pl:=pl) (YAT (he pins s Z H _ (I.wish _) h) (λu s1 ⟨x,H1,I1,rx,a,dx,fs,ex,ea,l,q⟩=>?_) λ_ _ z=>z.elim) ht;subst ex;obtain rfl:u=Value.ref a:=rx;refine zfr I1.unwish ea c hm l ?_;refine YBN (first:=[.ref a]) (h₀:=X.base) I.ok.mod.kin hm.kp (YAT (ha pos pins s1 Z H1 _ I1 q) (λus s2 ⟨vs,H2,I2,r,q2⟩=>⟨I2.kIn,?_⟩) λ_ _ z=>z.elim) hst hpl;have I2:=I2.unwish;have r2:Vals (.ref a::(vs++[])) ((.ref a::us)++[]):=.cons rfl (r.append .nil);have hl:((Value.ref a::us)++[]).length=ps.length:=by rw[<-r2.length];exact F.len _ _ _ _ q2
 refine YCQ (YCl (F.run X.A X.stack s2 H2 ⟨.ref a::us,[]⟩ ((Value.ref a::us)++[]) (.ref a::(vs++[])) Q E hr I2.env0 (hb s2 (.ref a::us) I2.kIn hl) r2 q2) λr s' hq=>?_);cases r with
 |error e=>exact⟨H2,s2,I2,hq⟩
 |ok fl=>
  cases fl with
  |ret u=>exact I2.after hq
  |next=>exact False.elim hq
  |brk=>exact False.elim hq
  |cont=>exact False.elim hq
end
end L2
namespace Fd
open PySem L2
section
variable{X:Cx}{b:Bo}{e:Expr}{es:List Expr}{pos p p1 p2 np q1 q2 fpos apos hpos cpos spos bpos:Pos}
@[reducible] def zo7(i ie ib:Nat)(B:(Str->Sto->Prop)->WOE)(kd:Str->Option D):WF:=λE qj S=>∃Y,B Y S qj (λd qi=>E.nx qi (S.set i (.val d)))/\∀nm qi,Y nm qi->∃d,kd nm=some d/\E.nx qi ((S.set ie .un).set ib (.val d))
def zrQ(i ie ib:Nat){io k k2 m:Nat}{C:Addr}{mt x o n y xc fx:Str}{ps:List Str}{F:FnF}{R:WOA}{pl:Sem Bool}{kd:Str->Option D}{Dc:Addr}{NS:List Str}{W:Str->Addr->Fn}(T:Met X.prog X.w X.K X.mg X.base (CXN X.prog X.w) C mt k ps (spO X.K X.mg m F))(L:InOk X.prog X.w X.K X.mg X.base k2 fx NS W)
  (hv:∀qj M G1,DE X.nox (reB b qj M G1) (.Name o p) (vW io)) (hR:OA X.nox b (e::es) R) (hmD:X.mg xc=some (.ref Dc))
  (hkd:∀nm d,kd nm=some d->nm∈NS/\(∀C,X.mg nm=some (.ref C)->PySem.W.exmOne X.K (.ref C) (.ref Dc)=some true)/\∀ea,up (W nm ea) [.obj ea] (λd'=>d'=d))
  (hi:X.N[i]?=some x:=by rfl) (hie:X.N[ie]?=some n:=by rfl) (hib:X.N[ib]?=some y:=by rfl) (hx:X.env.scope.names.lookup x=some .local:=by rfl) (hn:X.env.scope.names.lookup n=some .local:=by rfl) (hy:X.env.scope.names.lookup y=some .local:=by rfl) (hne:ie≠ib:=by decide) (hN:X.N.Nodup:=by decreasing_trivial) (hr:Room k X.A:=by decreasing_trivial) (hr2:Room k2 X.A:=by decreasing_trivial)
  (hst:X.stack=X.env::X.outer:=by rfl) (hfr:X.env.frame=some X.env.locals:=by rfl) (hK:b.K=X.K:=by rfl) (hg:Gl X fx:=by rfl) (hgc:Gl X xc:=by rfl) (hdb:(fx==("__debug__":Str))=false:=by decide) (hdc:(xc==("__debug__":Str))=false:=by decide) (hdn:(n==("__debug__":Str))=false:=by decide) (hdk:(n==("__classdict__":Str))=false:=by decide)
  (hs1:swapsWith (.Call (.Attribute (.Name o p) mt apos) (e::es) [] cpos) (some (.Name x p1)) spos.line X.env=pure false:=by rfl) (hs2:swapsWith (.Call (.Name fx q1) [.Name n q2] [] fpos) (some (.Name y p2)) bpos.line X.env=pure false:=by rfl)
  (he:starEach (e::es) X.env=(false,eval e X.env)::starEach es X.env:=by rfl) (hpl:(backTo cpos (starEach es X.env)).any (·.1)=false:=by rfl) (he2:starEach [.Name n q2] X.env=(false,eval (.Name n q2) X.env)::starEach [] X.env:=by rfl)
  (ht:eval (.Call (.Attribute (.Name o p) mt apos) (e::es) [] cpos) X.env=(do
   let ov <-eval (.Name o p) X.env
   standAt apos.atName
   let(f,first) <-holding [ov] (getMethod ov mt pl)
   callWith cpos f first (backTo cpos (starEach (e::es) X.env)) (backToKw cpos (keywordEach [] X.env))):=by rfl) :
  OS X b (.Try [.Assign [.Name x p1] (.Call (.Attribute (.Name o p) mt apos) (e::es) [] cpos) spos] [.ExceptHandler (some (.Name xc np)) (some n) [.Assign [.Name y p2] (.Call (.Name fx q1) [.Name n q2] [] fpos) bpos] hpos] [] [] pos) (zo7 i ie ib (λY=>zeN io C mt m F Y R) kd)where
 mono:=λE E' qj S l ⟨Y,q,h⟩=>⟨Y,zfK hR.mono S qj _ _ (λd qi z=>l.nx qi _ z) q,λnm qi z=>let⟨d,h1,h2⟩:=h nm qi z;⟨d,h1,l.nx qi _ h2⟩⟩
 ps:=by
  intro pins s Z H Ds I ⟨S,G,qj,M,r,Y,q,hY⟩;obtain⟨f,fd,FO,hc,hm,hb⟩:=T.ex;have h:=zhh (X:=X) (y:=Y) (x:=o) (Q:=λv H'=>∃d qi G' M',RepF b qi M' S Z H' G' d v/\Same G G'/\Dm M M'/\(zfB b G M Ds).nx qi (S.set i (.val d))) (E:=λv _ H'=>∃nm C qi M' G',v=.ref C/\Y nm qi/\X.mg nm=some (.ref C)/\RelF b qi M' S Z H' G'/\Same G G'/\Dm M M') hK hR.mono r
   (zfK hR.mono S qj _ _ (λd qi z v H' G' M' rp sg dm=>⟨d,qi,G',M',rp,sg,dm,z⟩) q) (λnm C qi M' H' G' w hc r2 sg dm=>⟨nm,C,qi,M',G',rfl,w,hc,r2,sg,dm⟩) (λ_ _ _ z=>z)
  refine wpAny_Try_except (YCq (YCP (YAT (zsF (zkr (A:=λ_=>vW io) hv).pe hc hm FO hr hb hR.pa I h he hpl ht) (λu s1 ⟨v,H1,I1,rv,d,qi,G',M',⟨G1,o1,r1,rp⟩,sg,dm,nx⟩=>?_) λx s' ⟨H1,s1,I1,ea,Cc,H2,ee,N,nm,Cc',qi,M',G',e1,yy,hmn,r2,sg,dm⟩=>?_) hs1))
  .exact zdx I1 hN hi (.inl hx) rv (λs3 I3=>YBO (YBO ⟨_,H1,I3,nx _ _ G' M' ⟨G1,o1,r1.put rp⟩ sg dm⟩)) (.inr hx)
  .subst ee;cases e1;obtain⟨d,hd,nx⟩:=hY nm qi yy;obtain⟨hns,hx1,hW⟩:=hkd nm d hd;have hx1:=hx1 Cc hmn;refine zsL I1 hst hfr N hgc hmD hx1 hN hie hn (λoe s2 hoc hcx I2=>?_) hdc;obtain⟨fs,hfs,h2⟩:=hcx;obtain⟨f2,fd2,y2,hmf,hk2,hb2,run⟩:=L.ex;obtain⟨G1,o1,r1⟩:=r2;have hσ:ie<Z.length:=by rw[I1.len];exact(YAe.mp hie).1
   refine YCq (YCP (YA4 (zd3 I2 hg hmf ?_ hdb)) hs2);refine YBN (h₀:=X.base) I.ok.mod.kin hk2 (thn (zaC (X:=X.sup ea oe λ_ _=>False) (zbw hie (.inl hn) hdn hdk) zbf he2 fpos pins s2 (Z.set ie (some (.ref ea))) H2 (λvs H3=>vs=[.ref ea]/\H2=H3) I2 ⟨.ref ea,YAi hσ,rfl,rfl⟩) λus s3 ⟨vs,H3,I3,r3,e3,e4⟩=>⟨I3.kIn,?_⟩) he2 rfl;subst e3;cases e4;obtain⟨u1,e5,r5⟩:∃u,us=[u]/\RelV (.ref ea) u:=by
    cases r3 with
    |cons a b=>cases b;exact⟨_,rfl,a⟩
   cases r5;subst e5;obtain⟨g1,g2,g3,g4,_⟩:=I3.pin (ea,oe) YAg;refine YCQ (YCl (run (X.A.mark (some (.ref ea))) X.stack s3 H2 nm ea Cc oe fs (λv H4=>∃G3,Stp b.β H2 G' H4 G3/\Rep ⟨X.K,b.β,H2,G',True⟩ G3 d v) b.β G' hns hmn ⟨rfl,hr2.dp,hr2.un⟩ rfl g1 hoc hfs h2 g2 (λz=>(YAv.mp (I3.stkSub ea z)).elim g3 g4) I3.env0 r1.gh r1.bx (zbY _ _ (λd'=>d'=d) _ (λd' z v H' G'' t rp=>⟨G'',t,z▸rp⟩) (hW ea))) λrs s' hq=>?_);cases rs with
   |error er=>exact False.elim hq
   |ok fl=>
    cases fl with
    |next=>exact False.elim hq
    |brk=>exact False.elim hq
    |cont=>exact False.elim hq
    |ret u=>
     obtain⟨v,H4,I4,rv,G3,t,rp⟩:=I3.after hq;refine zdx (X:=X.sup ea oe λ_ _=>False) I4 hN hib (.inl hy) rv (λs5 I5=>YBO (zrW (I5.unsup I.ok) hN hie hn λs6 I6=>⟨_,_,I6,?_⟩)) (.inr hy);rw[List.set_comm _ _ hne.symm,List.set_set];exact nx _ _ G3 M' ⟨G1,o1,((r1.step t).unput).put (Rep.back (c':=⟨X.K,b.β,H2,G',True⟩) (c:=reB b qi M' G1) hK.symm rfl (λa h=>r1.new0 h) rp)⟩ (sg.trans t.gg) dm
end
end Fd
set_option maxHeartbeats 400000
namespace Fd
open PySem L2
structure ErrF(K:qk)(mg:Str->Option Value)(xc:Str)(NT NS:List Str):Prop where
 cl:∀x∈NT,∃D,mg x=some (.ref D)/\∀nm∈NS,∀C,mg nm=some (.ref C)->PySem.W.kitOne K (.ref C) (.ref D)=some (decide (nm=x))
 ve:∀nm∈NS,∀C,mg nm=some (.ref C)->ExK K C/\PySem.W.kitOne K (.ref C) (.type "ValueError")=some true
 top:∃D,mg xc=some (.ref D)/\∀nm∈NS,∀C,mg nm=some (.ref C)->PySem.W.exmOne K (.ref C) (.ref D)=some true
def zua(ts ns:List (Str×Addr))(e1:NT=ts.map (·.1))(e2:NS=ns.map (·.1))(m1:∀p∈ts,mg p.1=some (.ref p.2))(m2:∀p∈ns,mg p.1=some (.ref p.2))(m3:mg xc=some (.ref fe))
  (h1:∀q∈ts,∀p∈ns,PySem.W.kitOne K (.ref p.2) (.ref q.2)=some (decide (p.1=q.1))) (h2:∀p∈ns,ExK K p.2/\PySem.W.kitOne K (.ref p.2) (.type "ValueError")=some true/\PySem.W.exmOne K (.ref p.2) (.ref fe)=some true):ErrF K mg xc NT NS:=by
 subst e1 e2;have at_:∀nm∈ns.map (·.1),∀C,mg nm=some (.ref C)->∃p∈ns,p.1=nm/\p.2=C:=λnm hn C hm=>by
  obtain⟨p,hp,rfl⟩:=YAM.mp hn
  have:=(m2 p hp).symm.trans hm
  cases this;exact⟨p,hp,rfl,rfl⟩
 refine⟨λx hx=>?_,λnm hn C hm=>?_,fe,m3,λnm hn C hm=>?_⟩
 .obtain⟨q,hq,rfl⟩:=YAM.mp hx;refine⟨q.2,m1 q hq,λnm hn C hm=>?_⟩;obtain⟨p,hp,rfl,rfl⟩:=at_ nm hn C hm;exact h1 q hq p hp
 .obtain⟨p,hp,rfl,rfl⟩:=at_ nm hn C hm;exact⟨(h2 p hp).1,(h2 p hp).2.1⟩
 .obtain⟨p,hp,rfl,rfl⟩:=at_ nm hn C hm;exact(h2 p hp).2.2
section
variable{X:Cx}{c:Bk}{e:Expr}{A:WE}{ea C:Addr}{oe:Obj}{nm x xc:Str}{NT NS:List Str}{p p' pos:Pos}
def zdH(xk:ErrF X.K X.mg xc NT NS)(hA:DE X c e A)(hp:(ea,oe)∈X.pn)(hc:oe.cls=.ref C)(hn:nm∈NS)(hmn:X.mg nm=some (.ref C))(hx:x∈NT:=by decide)(hm:X.mg "isinstance"=none:=by decreasing_trivial)(hg:Gl X "isinstance":=by rfl)(hg2:Gl X x:=by rfl)(hd:(x==("__debug__":Str))=false:=by decide)
  (hs:starEach [e,.Name x p'] X.env=(false,eval e X.env)::starEach [.Name x p'] X.env:=by rfl):DE X c (.Call (.Name "isinstance" p) [e,.Name x p'] [] pos) (isEW A ea (decide (nm=x))):=by
 obtain⟨D,h1,h2⟩:=xk.cl x hx;exact zsJ (v:=.ref D) hA hp hc (xk.ve nm hn C hmn).1 (zj8 hg2 h1 rfl hd) (λ_ z=>z) (h2 nm hn C hmn) hm hg hs
def zvZ(xk:ErrF X.K X.mg xc NT NS)(hA:DE X c e A)(hp:(ea,oe)∈X.pn)(hc:oe.cls=.ref C)(hn:nm∈NS)(hmn:X.mg nm=some (.ref C))(hm2:X.mg "ValueError"=none)(hm:X.mg "isinstance"=none:=by decreasing_trivial)(hg:Gl X "isinstance":=by rfl)(hg2:Gl X "ValueError":=by rfl)
  (hs:starEach [e,.Name "ValueError" p'] X.env=(false,eval e X.env)::starEach [.Name "ValueError" p'] X.env:=by rfl):DE X c (.Call (.Name "isinstance" p) [e,.Name "ValueError" p'] [] pos) (isEW A ea true):=
 zsJ (v:=.ty "ValueError") hA hp hc (xk.ve nm hn C hmn).1 (znt hg2 hm2 zrm rfl) (λ_ z=>z) (xk.ve nm hn C hmn).2 hm hg hs
end
def kdN(NS:List Str)(nm:Str):Option D:=if nm∈NS then some (.lst true [.str nm])else none
section
variable{X:Cx}{b:Bo}{e:Expr}{es:List Expr}{pos p p1 p2 np q1 q2 fpos apos hpos cpos spos bpos:Pos}
def zsu(i ie ib:Nat){io k k2 m:Nat}{C:Addr}{mt x o n y xc fx:Str}{ps NT NS:List Str}{F:FnF}{R:WOA}{pl:Sem Bool}{W:Str->Addr->Fn}(T:Met X.prog X.w X.K X.mg X.base (CXN X.prog X.w) C mt k ps (spO X.K X.mg m F))(L:InOk X.prog X.w X.K X.mg X.base k2 fx NS W)(xk:ErrF X.K X.mg xc NT NS)(hW:∀nm∈NS,∀ea,up (W nm ea) [.obj ea] (λd'=>d'=.lst true [.str nm]))
  (hv:∀qj M G1,DE X.nox (reB b qj M G1) (.Name o p) (vW io)) (hR:OA X.nox b (e::es) R)
  (hi:X.N[i]?=some x:=by rfl) (hie:X.N[ie]?=some n:=by rfl) (hib:X.N[ib]?=some y:=by rfl) (hx:X.env.scope.names.lookup x=some .local:=by rfl) (hn:X.env.scope.names.lookup n=some .local:=by rfl) (hy:X.env.scope.names.lookup y=some .local:=by rfl) (hne:ie≠ib:=by decide) (hN:X.N.Nodup:=by decreasing_trivial) (hr:Room k X.A:=by decreasing_trivial) (hr2:Room k2 X.A:=by decreasing_trivial)
  (hst:X.stack=X.env::X.outer:=by rfl) (hfr:X.env.frame=some X.env.locals:=by rfl) (hK:b.K=X.K:=by rfl) (hg:Gl X fx:=by rfl) (hgc:Gl X xc:=by rfl) (hdb:(fx==("__debug__":Str))=false:=by decide) (hdc:(xc==("__debug__":Str))=false:=by decide) (hdn:(n==("__debug__":Str))=false:=by decide) (hdk:(n==("__classdict__":Str))=false:=by decide)
  (hs1:swapsWith (.Call (.Attribute (.Name o p) mt apos) (e::es) [] cpos) (some (.Name x p1)) spos.line X.env=pure false:=by rfl) (hs2:swapsWith (.Call (.Name fx q1) [.Name n q2] [] fpos) (some (.Name y p2)) bpos.line X.env=pure false:=by rfl)
  (he:starEach (e::es) X.env=(false,eval e X.env)::starEach es X.env:=by rfl) (hpl:(backTo cpos (starEach es X.env)).any (·.1)=false:=by rfl) (he2:starEach [.Name n q2] X.env=(false,eval (.Name n q2) X.env)::starEach [] X.env:=by rfl)
  (ht:eval (.Call (.Attribute (.Name o p) mt apos) (e::es) [] cpos) X.env=(do
   let ov <-eval (.Name o p) X.env
   standAt apos.atName
   let(f,first) <-holding [ov] (getMethod ov mt pl)
   callWith cpos f first (backTo cpos (starEach (e::es) X.env)) (backToKw cpos (keywordEach [] X.env))):=by rfl) :
  OS X b (.Try [.Assign [.Name x p1] (.Call (.Attribute (.Name o p) mt apos) (e::es) [] cpos) spos] [.ExceptHandler (some (.Name xc np)) (some n) [.Assign [.Name y p2] (.Call (.Name fx q1) [.Name n q2] [] fpos) bpos] hpos] [] [] pos) (zo7 i ie ib (λY=>zeN io C mt m F Y R) (kdN NS)):=by
 obtain⟨Dc,h1,h2⟩:=xk.top;refine zrQ i ie ib T L hv hR h1 (λnm d z=>?_) hi hie hib hx hn hy hne hN hr hr2 hst hfr hK hg hgc hdb hdc hdn hdk hs1 hs2 he hpl he2 ht;unfold kdN at z;split at z
 .rename_i hn
  cases z;exact⟨hn,h2 nm hn,hW nm hn⟩
 .cases z
end
end Fd
set_option maxHeartbeats 400000
namespace Fd
open PySem L2
theorem zk5{α:Type}:∀{ks:List Str}{vs:List α}{z:Str},ks.length=vs.length->(zaR ks vs z).isSome=ks.contains z
 |[],[],z,_=>rfl
 |k::ks,v::vs,z,h=>by
  show(if k=z then some v else zaR ks vs z).isSome=(k::ks).contains z;by_cases e:k=z
  .subst e;simp
  .rw[if_neg e,zk5 (by simpa using h)];simp[YAK e]
section
variable{X:Cx}{c:Bk}{a b e:Expr}{A B:WE}{pos p:Pos}
@[reducible] def inKW(neg:Bool)(A B:WE):WT:=λS Q=>A S λx=>B S λd=>match x with|.str z=>dcD d λks _=>Q (neg != ks.contains z)|_=>False
def zlx(hA:zbO A)(hB:zbO B):zg8 (inKW neg A B):=λS Q Q' k q=>hA S _ _ (λx z=>hB S _ _ (λd y=>by
 cases x with
 |str s=>exact zeS (λ_ _ w=>k _ w) y
 |_=>exact y.elim) z) q
def zlv(hA:DE X c a A)(hB:DE X c b B)(Z:St)(H:Hp)(Q:Bool->Hp->Prop)(R:Bool->Hp->Prop)(hR:∀b H',Q (neg != b) H'->R b H')(h:tDt c (inKW neg A B) Z H Q):tD c A Z H λy H1=>tD c B Z H1 λx H2=>∃a o,x=.ref a/\DGet H2 a y o/\R o.isSome H2:=by
 obtain⟨S,G,r,q⟩:=h;refine⟨S,G,r,hA.mono S _ _ (λx zx vx H1 G1 t1 e1=>⟨S,G1,r.step t1,hB.mono S _ _ (λd zd vd H2 G2 t2 e2=>?_) zx⟩) q⟩;cases x with
 |str s=>
  cases (show vx=V.str s from e1);have zd:dcD d λks _=>∀H' G',Stp c.β H G H' G'->Q (neg != ks.contains s) H':=zd;unfold dcD at zd;cases ed:dcV d with
  |none=>rw[ed]at zd;exact zd.elim
  |some pr=>
   rw[ed]at zd;obtain⟨d0,vs,h1,h2,h3,h4⟩:=zgW e2 ed;refine⟨d0,_,h1,.inl ⟨_,Sum.inr s,zgF t2.gh h2,rfl,rfl⟩,?_⟩;rw[zel,zk5 h3];exact hR _ _ (zd H2 G2 (t1.trans t2))
 |_=>exact zd.elim
def zvP(hA:DE X c a A)(hB:DE X c b B)(hm:behindInMarks .In b=false:=by with_unfolding_all rfl)(hu:X.A.units+1<cLine:=by decreasing_trivial):DT X c (.Compare a [.In] [b] pos) (inKW false A B)where
 mono:=zlx hA.mono hB.mono
 pt:=zfN (zlZ (ztR hu hA.pe hB.pe) hm) λZ H Q h=>zlv hA hB Z H Q (λb H'=>∃c,V.bl b=.bl c/\Q c H') (λb H' z=>⟨b,rfl,by simpa using z⟩) h
def zl5(hA:DE X c a A)(hB:DE X c b B)(hm:behindInMarks .NotIn b=false:=by with_unfolding_all rfl)(hu:X.A.units+1<cLine:=by decreasing_trivial):DT X c (.Compare a [.NotIn] [b] pos) (inKW true A B)where
 mono:=zlx hA.mono hB.mono
 pt:=zfN (zlZ (zoc hu hA.pe hB.pe) hm) λZ H Q h=>zlv hA hB Z H Q (λb H'=>∃c,V.bl (!b)=.bl c/\Q c H') (λb H' z=>⟨!b,rfl,by simpa using z⟩) h
@[reducible] def zsb(A:WE):WE:=λS Q=>A S λd=>dcD d λks _=>Q (.int ks.length)
def znB:CallR X (.builtin "len") (λxs H Q=>∃a kvs,xs=[V.ref a]/\Rd H a (.dK kvs)/\Q (.int kvs.length) H):=by
 intro pins s Z H xs us Q I r h;obtain⟨a,kvs,rfl,e,q⟩:=h;obtain⟨u,rfl,rx⟩:=zeC r;cases rx;exact L2.zvH I e λt s' I'=>⟨.int kvs.length,H,I',⟨t,rfl⟩,q⟩
def ztN(hA:DE X c e A)(hg:Gl X "len":=by rfl)(he:starEach [e] X.env=(false,eval e X.env)::starEach [] X.env:=by rfl)(hm:X.mg "len"=none:=by decreasing_trivial):DE X c (.Call (.Name "len" p) [e] [] pos) (zsb A)where
 mono:=λS Q Q' k q=>hA.mono S _ _ (λd z=>zeS (λ_ _ y=>k _ y) z) q
 pe:=zas (zeX znB hg hm YDe (zaC hA.pe zbf he) (by decide) (by decide) he rfl) λZ H Q ⟨S,G,r,q⟩=>⟨S,G,r,hA.mono S _ _ (λd z v H' G' t e=>by
  unfold dcD at z;split at z
  .rename_i pr ed
   obtain⟨a,vs,h1,h2,h3,h4⟩:=zgW e ed;subst h1;refine⟨a,_,rfl,zgF t.gh h2,?_⟩;rw[show(kvD pr.1 vs).length=pr.1.length by unfold kvD;rw[YAb,YBi,<-h3,YBH]];exact z (.int pr.1.length) H' G' t rfl
  .exact z.elim) q⟩
end
end Fd
set_option maxHeartbeats 400000
namespace L2
open PySem PySem.Spec PyProof.Rows
section
variable{X:Cx}{a b:Expr}{rest:List Expr}{pos:Pos}{ta tb:TE}
def zuo(ha:PE X a ta)(hb:PE X (.BoolOp .Or (b::rest) pos) tb):PE X (.BoolOp .Or (a::b::rest) pos) (λZ H Q=>ta Z H λx H1=>∃k,TruV X.K x H1 k/\if k=true then Q x H1 else tb Z H1 Q):=by
 intro pins s Z H Q I h;refine BoolOp_or (thn (ha pins s Z H _ I h) λv s1 ⟨x,H1,I1,r1,q1⟩=>?_);obtain⟨k,tv,q1⟩:=q1;refine thn (zq3 pins s1 Z H1 x v (λb H'=>b=k/\if k=true then Q x H' else tb Z H' Q) I1 r1 ⟨k,tv,rfl,q1⟩) λc s2 ⟨H2,I2,e,q2⟩=>?_;subst e;cases c with
 |false=>exact hb pins s2 Z H2 Q I2 q2
 |true=>exact⟨x,H2,I2,r1,q2⟩
end
end L2
namespace Fd
open PySem L2
section
variable{X:Cx}{c:Bk}{a b:Expr}{rest:List Expr}{A B:WE}{pos:Pos}
@[reducible] def orVW(A B:WE):WE:=λS Q=>A S λx=>truD x λk=>if k=true then Q x else B S Q
def zv5(hA:DE X c a A)(hB:DE X c (.BoolOp .Or (b::rest) pos) B)(hK:c.K=X.K:=by rfl):DE X c (.BoolOp .Or (a::b::rest) pos) (orVW A B)where
 mono:=λS Q Q' k q=>hA.mono S _ _ (λd z=>zgj d (λb z=>by
  cases b
  .exact hB.mono S _ _ k z
  .exact k _ z) z) q
 pe:=zas (zuo hA.pe hB.pe) λZ H Q ⟨S,G,r,q⟩=>⟨S,G,r,hA.mono S _ _ (λd z v H' G' t e=>by
  unfold truD at z;split at z
  .rename_i k hk
   refine⟨k,hK▸zj7 t.gh e hk,?_⟩;cases k
   .exact⟨S,G',r.step t,hB.mono S _ _ (λb' z' v2 H2 G2 t2=>z' v2 H2 G2 (t.trans t2)) z⟩
   .exact z v H' G' t e
  .exact z.elim) q⟩
end
end Fd
set_option maxHeartbeats 400000
namespace Fd
open PySem L2
structure Ads where
 fen:Addr
 mark_entered:Addr
 hand_entered:Addr
 run_entered:Addr
 run_struck:Addr
 run_mended:Addr
 mark_settled:Addr
 hand_set_aside:Addr
 hand_heeded:Addr
 number_allowed:Addr
def NTx:List Str:=["BadName","Taken","Full","NoMark","NoHand","Same","BadRise","NoRun","Aside","NotAside","BadNumber","NothingLeft","Steady","NoDeed","Known","NoFen","Settled","NoPage"]
def NSx:List Str:=["BadName","Taken","Full","NoMark","NoHand","Same","BadRise","Aside","NotAside","BadNumber"]
def zbH:Fn:=fnW 0 ((retW (zrl ["stands","hands","aside","runs","entered","allowed"] (zaa (tupW nilA) (zaa (tupW nilA) (zaa (tupW nilA) (zaa (tupW nilA) (zaa (kW (.int 0)) (zaa (kW (.int 0)) nilA)))))))))
def zcb(A:Ads):FnF:=fnWF 1 (λY=>(seqF (setO 0 "kept" A.fen (λqj=>(lstW nilA)))
  (seqF (setO 0 "books" A.fen (λqj=>(lstW (zaa (zal 0 zbH nilA) nilA))))
  (setO 0 "undone" A.fen (λqj=>(lstW nilA))))))
def zcZ:Fn:=fnW 0 ((retW (zrl ["places","heeded","rows","entered","many","deeds"] (zaa (valW (lstW nilA)) (zaa zuy (zaa (valW (lstW nilA)) (zaa (kW (.int 0)) (zaa (kW (.int 0)) (zaa (valW (lstW nilA)) nilA)))))))))
def zaG:Fn:=fnW 2 ((retW (cbW zbd (zaa (valW (zaF [none,some 1] (zbC (binW zay (vW 0) (kW (.str "places")))) (.nm 0) (blW (binW eqD (binW ixXD (vW 0) (kW (.int 0))) (vW 1))) (vW 0))) nilA))))
def zaP:Fn:=fnW 2 ((retW (zrK (binW zay (vW 0) (kW (.str "places"))) (tupW (zaa (vW 1) (zaa (zal 2 zaG (zaa (vW 0) (zaa (vW 1) nilA))) nilA))))))
noncomputable def zcH:Fn:=fnW 6 ((seqW (dcpW 0 (vW 0))
  (seqW (dstW 0 (kW (.str "deeds")) (binW addD (ogW 0 (kW (.str "deeds"))) (valW (lstW (zaa (vW 1) nilA)))))
  (seqW (asgW (.nm 2) (binW ixXD (vW 1) (kW (.int 0))))
  (seqW (ifS (orT (blW (binW eqD (vW 2) (kW (.str "mark")))) (blW (binW eqD (vW 2) (kW (.str "settle"))))) (dstW 0 (kW (.str "places")) (binW addD (ogW 0 (kW (.str "places"))) (valW (lstW (zaa (tupW (zaa (binW ixXD (vW 1) (kW (.int 1))) (zaa (binW addD (zgq 0 2 zaG (zaa (binW ixXD (vW 1) (kW (.int 1))) nilA)) (kW (.int 1))) nilA))) nilA))))) (ifS (blW (binW (inXD false) (vW 2) (tupW (zaa (kW (.str "hand")) (zaa (kW (.str "heed")) (zaa (kW (.str "aside")) nilA)))))) (dc2W 3 (ogW 0 (kW (.str "heeded"))) (binW neD (vW 2) (kW (.str "aside"))) (binW ixXD (vW 1) (kW (.int 1)))
  (dstW 0 (kW (.str "heeded")) (vW 3))) (ifS (blW (binW eqD (vW 2) (kW (.str "run")))) (seqW (zkD 0 (kW (.str "entered")) (kW (.int 1)))
  (seqW (asgW (.nm 4) (binW addD (tupW (zaa (ogW 0 (kW (.str "entered"))) (zaa (zgq 0 2 zaP (zaa (binW ixXD (vW 1) (kW (.int 1))) nilA)) (zaa (zgq 0 2 zaP (zaa (binW ixXD (vW 1) (kW (.int 2))) nilA)) nilA)))) (slXW (vW 1) (zdI (kW (.int 3))) noO)))
  (dstW 0 (kW (.str "rows")) (binW addD (ogW 0 (kW (.str "rows"))) (valW (lstW (zaa (vW 4) nilA))))))) (ifS (blW (binW eqD (vW 2) (kW (.str "strike")))) (dstW 0 (kW (.str "rows")) (valW (zaF [none,some 1] (zbC (ogW 0 (kW (.str "rows")))) (.nm 0) (blW (binW neD (binW ixXD (vW 0) (kW (.int 0))) (binW ixXD (vW 1) (kW (.int 1))))) (vW 0)))) (ifS (blW (binW eqD (vW 2) (kW (.str "mend")))) (seqW (ownW 5 (lstW nilA))
  (seqW (forW (zbC (ogW 0 (kW (.str "rows")))) (.nm 4) (appW 5 (binW ixXD (valW (lstW (zaa (vW 4) (zaa (binW addD (slXW (vW 4) noO (zdI (kW (.int 3)))) (tupW (zaa (binW ixXD (vW 1) (kW (.int 2))) (zaa (binW ixXD (vW 4) (kW (.int 4))) nilA)))) nilA)))) (cbW zdB (zaa (binW eqD (binW ixXD (vW 4) (kW (.int 0))) (binW ixXD (vW 1) (kW (.int 1)))) nilA)))))
  (frzW 5 (dstW 0 (kW (.str "rows")) (vW 5))))) (dstW 0 (kW (.str "many")) (binW ixXD (vW 1) (kW (.int 1)))))))))
  (zkk 0))))))
def zaB:Fn:=fnW 4 ((zqh 0 1 2 3))
def zb6:Fn:=fnW 2 ((retW (cbW zbd (zaa (valW (zaF [none,none,some 1] (zbC (vW 0)) (.tp 2 (.cons (.nm 0) (.cons (.nm 1) .nil))) (blW (binW eqD (vW 0) (vW 2))) (vW 1))) nilA))))
def zcV:Fn:=fnW 2 ((retW (tupW (zaa (vW 1) (zaa (binW addD (zal 2 zb6 (zaa (vW 0) (zaa (vW 1) nilA))) (kW (.int 1))) nilA)))))
noncomputable def zbp:FnX:=fnWX 3 (λY=>(seqW (asgW (.nm 2) (binW zay (vW 0) (kW (.str "stands"))))
  (seqW (ifS (blW (binW geD (cbW zbd (zaa (vW 2) nilA)) (kW (.int 12)))) (rzW (zaa (kW (.str "there is no room for another stand")) nilA) (Y "Full")) nilS)
  (retW (zal 3 zaB (zaa (vW 0) (zaa (kW (.str "stands")) (zaa (binW addD (vW 2) (tupW (zaa (zal 2 zcV (zaa (vW 2) (zaa (vW 1) nilA))) nilA))) nilA))))))))
noncomputable def zcD:FnX:=fnWX 4 (λY=>(seqW (asgW (.tp 2 (.cons (.nm 2) (.cons (.nm 3) .nil))) (vW 1))
  (seqW (ifS (notT (truW (zal 1 zcy (zaa (vW 3) nilA)))) (rzW (zaa (kW (.str "a mark's name is 1 to 8 small letters")) nilA) (Y "BadName")) nilS)
  (seqW (ifS (blW (binW gtD (zal 2 zb6 (zaa (binW zay (vW 0) (kW (.str "stands"))) (zaa (vW 3) nilA))) (kW (.int 0)))) (rzW (zaa (kW (.str "there is a mark of this name")) nilA) (Y "Taken")) nilS)
  (retW (zeb 2 zbp Y (zaa (vW 0) (zaa (vW 3) nilA))))))))
noncomputable def zcJ:FnX:=fnWX 5 (λY=>(seqW (asgW (.tp 2 (.cons (.nm 2) (.cons (.nm 3) .nil))) (vW 1))
  (seqW (asgW (.nm 4) (binW zay (vW 0) (kW (.str "hands"))))
  (seqW (ifS (notT (truW (zal 1 zcy (zaa (vW 3) nilA)))) (rzW (zaa (kW (.str "a hand's name is 1 to 8 small letters")) nilA) (Y "BadName")) nilS)
  (seqW (ifS (blW (binW (inXD false) (vW 3) (vW 4))) (rzW (zaa (kW (.str "there is a hand of this name")) nilA) (Y "Taken")) nilS)
  (seqW (ifS (blW (binW geD (cbW zbd (zaa (vW 4) nilA)) (kW (.int 10)))) (rzW (zaa (kW (.str "there is no room for another hand")) nilA) (Y "Full")) nilS)
  (retW (zal 3 zaB (zaa (vW 0) (zaa (kW (.str "hands")) (zaa (binW addD (vW 4) (tupW (zaa (vW 3) nilA))) nilA)))))))))))
def zbK:FnX:=fnWX 3 (λY=>(seqW (asgW (.nm 2) (zal 2 zb6 (zaa (vW 0) (zaa (vW 1) nilA))))
  (seqW (ifS (blW (binW eqD (vW 2) (kW (.int 0)))) (rzW (zaa (kW (.str "there is no mark of this name")) nilA) (Y "NoMark")) nilS)
  (retW (tupW (zaa (vW 1) (zaa (vW 2) nilA)))))))
def zbG:FnX:=fnWX 2 (λY=>(ifS (blW (binW (inXD true) (vW 1) (binW zay (vW 0) (kW (.str "hands"))))) (rzW (zaa (kW (.str "there is no hand of this name")) nilA) (Y "NoHand")) nilS))
def zcX:FnX:=fnWX 1 (λY=>(ifS (blW (binW gtD (cbW absF (zaa (vW 0) nilA)) (kW (.int 1000000000)))) (rzW (zaa (kW (.str "the rise is beyond the bounds")) nilA) (Y "BadRise")) nilS))
noncomputable def zc6:FnX:=fnWX 13 (λY=>(seqW (asgW (.tp 5 (.cons (.nm 2) (.cons (.nm 3) (.cons (.nm 4) (.cons (.nm 5) (.cons (.nm 6) .nil)))))) (vW 1))
  (seqW (asgW (.tp 2 (.cons (.nm 7) (.cons (.nm 8) .nil))) (zeb 2 zbK Y (zaa (binW zay (vW 0) (kW (.str "stands"))) (zaa (vW 3) nilA))))
  (seqW (asgW (.tp 2 (.cons (.nm 9) (.cons (.nm 10) .nil))) (zeb 2 zbK Y (zaa (binW zay (vW 0) (kW (.str "stands"))) (zaa (vW 4) nilA))))
  (seqW (ifS (blW (binW eqD (vW 3) (vW 4))) (rzW (zaa (kW (.str "a run goes between two marks")) nilA) (Y "Same")) nilS)
  (seqW (zme (zeb 2 zbG Y (zaa (vW 0) (zaa (vW 6) nilA))))
  (seqW (zme (zeb 1 zcX Y (zaa (vW 5) nilA)))
  (seqW (ifS (blW (binW geD (cbW zbd (zaa (binW zay (vW 0) (kW (.str "runs"))) nilA)) (kW (.int 40)))) (rzW (zaa (kW (.str "there is no room for another run")) nilA) (Y "Full")) nilS)
  (seqW (asgW (.nm 11) (binW addD (binW zay (vW 0) (kW (.str "entered"))) (kW (.int 1))))
  (seqW (asgW (.nm 12) (tupW (zaa (vW 11) (zaa (vW 7) (zaa (vW 8) (zaa (vW 9) (zaa (vW 10) (zaa (vW 5) (zaa (vW 6) nilA)))))))))
  (retW (zal 3 zaB (zaa (zal 3 zaB (zaa (vW 0) (zaa (kW (.str "entered")) (zaa (vW 11) nilA)))) (zaa (kW (.str "runs")) (zaa (binW addD (binW zay (vW 0) (kW (.str "runs"))) (tupW (zaa (vW 12) nilA))) nilA)))))))))))))))
noncomputable def zb5:FnX:=fnWX 4 (λY=>(seqW (asgW (.tp 2 (.cons (.nm 2) (.cons (.nm 3) .nil))) (vW 1))
  (seqW (zme (zeb 2 zbG Y (zaa (vW 0) (zaa (vW 3) nilA))))
  (seqW (ifS (blW (binW (inXD false) (vW 3) (binW zay (vW 0) (kW (.str "aside"))))) (rzW (zaa (kW (.str "the hand is set aside already")) nilA) (Y "Aside")) nilS)
  (retW (zal 3 zaB (zaa (vW 0) (zaa (kW (.str "aside")) (zaa (binW addD (binW zay (vW 0) (kW (.str "aside"))) (tupW (zaa (vW 3) nilA))) nilA)))))))))
noncomputable def zdb:FnX:=fnWX 4 (λY=>(seqW (asgW (.tp 2 (.cons (.nm 2) (.cons (.nm 3) .nil))) (vW 1))
  (seqW (zme (zeb 2 zbG Y (zaa (vW 0) (zaa (vW 3) nilA))))
  (seqW (ifS (blW (binW (inXD true) (vW 3) (binW zay (vW 0) (kW (.str "aside"))))) (rzW (zaa (kW (.str "the hand isn't set aside")) nilA) (Y "NotAside")) nilS)
  (retW (zal 3 zaB (zaa (vW 0) (zaa (kW (.str "aside")) (zaa (cbW zgp (zaa (valW (zaF [none,some 3] (zbC (binW zay (vW 0) (kW (.str "aside")))) (.nm 0) (blW (binW neD (vW 0) (vW 1))) (vW 0))) nilA)) nilA)))))))))
noncomputable def zbq:FnX:=fnWX 4 (λY=>(seqW (asgW (.tp 2 (.cons (.nm 2) (.cons (.nm 3) .nil))) (vW 1))
  (seqW (ifS (orT (blW (binW ltD (vW 3) (kW (.int 0)))) (blW (binW gtD (vW 3) (kW (.int 3))))) (rzW (zaa (kW (.str "so many false hands can't be allowed for")) nilA) (Y "BadNumber")) nilS)
  (retW (zal 3 zaB (zaa (vW 0) (zaa (kW (.str "allowed")) (zaa (vW 3) nilA))))))))
def kvA(A:Ads):List (Str×D):=[("mark",.obj A.mark_entered),("hand",.obj A.hand_entered),("run",.obj A.run_entered),("strike",.obj A.run_struck),("mend",.obj A.run_mended),("settle",.obj A.mark_settled),("aside",.obj A.hand_set_aside),("heed",.obj A.hand_heeded),("allow",.obj A.number_allowed)]
def tabA(A:Ads):List (Addr×FnX):=[(A.mark_entered,zcD),(A.hand_entered,zcJ),(A.run_entered,zc6),(A.hand_set_aside,zb5),(A.hand_heeded,zdb),(A.number_allowed,zbq)]
def zbz(A:Ads):FnX:=fnWX 3 (λY=>(seqW (asgW (.nm 2) (ixGW (kvA A) (binW ixXD (vW 1) (kW (.int 0)))))
  (retW (zl0 2 2 (tabA A) Y (zaa (vW 0) (zaa (vW 1) nilA))))))
def za3(A:Ads):Sto->Fn:=λqj=>fnW 1 ((retW (fixW qj 0 "books" A.fen (unW negD (kW (.int 1))))))
noncomputable def zb7(A:Ads):FnF:=fnWF 3 (λY=>(seqF (asgO (.nm 2) (zqu 2 (zbz A) Y (zaV (za1 λqj=>(zcj qj 0 A.fen "now" 1 (za3 A) (λ_ Q=>Q []))) (zaV (za1 λqj=>(vW 1)) nilO))))
  (seqF (appO 0 "kept" A.fen (λqj=>(vW 1)))
  (seqF (appO 0 "books" A.fen (λqj=>(vW 2)))
  (seqF (setO 0 "undone" A.fen (λqj=>(lstW nilA)))
  (seqF (zbJ λqj=>(ifS (blW (binW eqD (binW ixXD (vW 1) (kW (.int 0))) (kW (.str "run")))) (retW (binW zay (vW 2) (kW (.str "entered")))) nilS))
  (zbJ λqj=>(retW (kW .non)))))))))
def zbn:Fn:=fnW 2 ((retW (binW ixXD (valW (lstW (zaa (kW .non) (zaa (binW addD (binW zay (vW 0) (kW (.str "entered"))) (kW (.int 1))) nilA)))) (cbW zdB (zaa (binW eqD (binW ixXD (vW 1) (kW (.int 0))) (kW (.str "run"))) nilA)))))
noncomputable def za6(A:Ads):FnF:=fnWF 3 (λY=>(seqF (ifNO (zsh 2 (zbb 6) (zaV (zeN 0 A.fen "deed" 2 (zb7 A) (λ_ _=>False) (zaV (za1 λqj=>(vW 2)) nilO)) (zaV (za1 λqj=>(zal 2 zbn (zaa (vW 1) (zaa (vW 2) nilA)))) nilO))) (zbJ λqj=>(retW (kW .non))) nilF)
  (zbJ λqj=>(retW (zal 2 zcH (zaa (vW 1) (zaa (vW 2) nilA)))))))
def zbE:Fn:=fnW 1 ((retW (valW (zaF [none,none] (zbC (binW zay (vW 0) (kW (.str "places")))) (.tp 2 (.cons (.nm 0) (.cons (.nm 1) .nil))) (blW (binW eqD (vW 1) (kW (.int 1)))) (vW 0)))))
def zcl:Fn:=fnW 1 ((retW (binW subD (binW modD (binW mulD (binW mulD (vW 0) (vW 0)) (kW (.int 3))) (kW (.int 17))) (vW 0))))
noncomputable def za8:Fn:=fnW 8 ((seqW (asgW (.nm 2) (zal 1 zbE (zaa (vW 1) nilA)))
  (seqW (asgW (.nm 3) (valW (zjx (binW zay (vW 1) (kW (.str "heeded"))))))
  (seqW (ifS (orT (blW (binW ltD (cbW zbd (zaa (vW 2) nilA)) (kW (.int 2)))) (orT (blW (binW eqD (vW 3) (valW (lstW nilA)))) (blW (binW geD (cbW zbd (zaa (binW zay (vW 1) (kW (.str "rows"))) nilA)) (kW (.int 40)))))) (retW (kW .non)) nilS)
  (seqW (asgW (.nm 4) (zal 2 zaf (zaa (vW 0) (zaa (cbW zbd (zaa (vW 2) nilA)) nilA))))
  (seqW (parW 5 6 (binW ixXD (vW 2) (vW 4)) (binW ixXD (vW 2) (binW modD (binW addD (binW addD (vW 4) (kW (.int 1))) (zal 2 zaf (zaa (vW 0) (zaa (binW subD (cbW zbd (zaa (vW 2) nilA)) (kW (.int 1))) nilA)))) (cbW zbd (zaa (vW 2) nilA)))))
  (seqW (asgW (.nm 7) (binW subD (zal 1 zcl (zaa (zal 2 zaP (zaa (vW 1) (zaa (vW 6) nilA))) nilA)) (zal 1 zcl (zaa (zal 2 zaP (zaa (vW 1) (zaa (vW 5) nilA))) nilA))))
  (seqW (ifS (blW (binW eqD (zal 2 zaf (zaa (vW 0) (zaa (kW (.int 4)) nilA))) (kW (.int 0)))) (asgW (.nm 7) (binW ixXD (valW (lstW (zaa (binW addD (vW 7) (kW (.int 1))) (zaa (binW subD (vW 7) (kW (.int 2))) (zaa (zal 2 zaf (zaa (vW 0) (zaa (kW (.int 1000000000)) nilA))) (zaa (unW negD (kW (.int 1000000000))) nilA)))))) (zal 2 zaf (zaa (vW 0) (zaa (kW (.int 4)) nilA))))) nilS)
  (retW (tupW (zaa (kW (.str "run")) (zaa (vW 5) (zaa (vW 6) (zaa (vW 7) (zaa (binW ixXD (vW 3) (zal 2 zaf (zaa (vW 0) (zaa (cbW zbd (zaa (vW 3) nilA)) nilA)))) nilA)))))))))))))))
noncomputable def zc0(A:Ads):FnF:=fnWF 10 (λY=>(seqF (zbJ λqj=>(asgW (.nm 4) (zal 2 zci (zaa (vW 0) (zaa (kW (.int 16)) nilA)))))
  (seqF (asgO (.nm 5) (zsX A.fen (zcb A) (λ_ _=>False)))
  (seqF (zbJ λqj=>(asgW (.nm 6) (zal 0 zcZ nilA)))
  (seqF (zbJ λqj=>(ownW 7 (zaF [none,some 4] (zeU (binW addD (kW (.int 1)) (zal 2 zaf (zaa (vW 0) (zaa (vW 1) nilA))))) (.nm 0) noIf (tupW (zaa (kW (.str "mark")) (zaa (binW ixXD (vW 1) (vW 0)) nilA))))))
  (seqF (zbJ λqj=>(frzW 7 (ownW 7 (addL (vW 7) (valW (zaF [none,some 4] (zeU (binW addD (kW (.int 1)) (zal 2 zaf (zaa (vW 0) (zaa (vW 2) nilA))))) (.nm 0) noIf (tupW (zaa (kW (.str "hand")) (zaa (binW ixXD (vW 1) (binW subD (kW (.int 15)) (vW 0))) nilA)))))))))
  (seqF (zbJ λqj=>(appW 7 (tupW (zaa (kW (.str "allow")) (zaa (zal 2 zaf (zaa (vW 0) (zaa (kW (.int 4)) nilA))) nilA)))))
  (seqF (frzF 7 (forF (λqj=>(zbC (vW 7))) (.nm 8) (ifF (λqj=>(blW (zfV (vW 6)))) (asgO (.nm 6) (zeG 3 (za6 A) (λ_ _=>False) (zaV (za1 λqj=>(vW 5)) (zaV (za1 λqj=>(vW 6)) (zaV (za1 λqj=>(vW 8)) nilO))))) nilF)))
  (seqF (forF (λqj=>(zeU (zal 2 zaf (zaa (vW 0) (zaa (binW addD (vW 3) (kW (.int 1))) nilA))))) (.nm 9) (ifF (λqj=>(blW (zfV (vW 6)))) (seqF (zbJ λqj=>(asgW (.nm 8) (zal 2 za8 (zaa (vW 0) (zaa (vW 6) nilA)))))
  (ifF (λqj=>(blW (zfV (vW 8)))) (asgO (.nm 6) (zeG 3 (za6 A) (λ_ _=>False) (zaV (za1 λqj=>(vW 5)) (zaV (za1 λqj=>(vW 6)) (zaV (za1 λqj=>(vW 8)) nilO))))) nilF)) nilF))
  (zbJ λqj=>(retW (tupW (zaa (vW 5) (zaa (vW 6) (zaa (vW 4) nilA)))))))))))))))
noncomputable def zbM:Fn:=fnW 7 ((seqW (asgW (.tp 5 (.cons (.nm 2) (.cons (.nm 3) (.cons (.nm 4) (.cons (.nm 5) (.cons (.nm 6) .nil)))))) (vW 1))
  (seqW (ifS (orT (blW (binW eqD (zal 2 zaG (zaa (vW 0) (zaa (vW 3) nilA))) (kW (.int 0)))) (blW (binW eqD (zal 2 zaG (zaa (vW 0) (zaa (vW 4) nilA))) (kW (.int 0))))) (retW (kW (.str "NoMark"))) nilS)
  (seqW (ifS (blW (binW eqD (vW 3) (vW 4))) (retW (kW (.str "Same"))) nilS)
  (seqW (ifS (inKW true (vW 6) (binW zay (vW 0) (kW (.str "heeded")))) (retW (kW (.str "NoHand"))) nilS)
  (seqW (ifS (notT (blW (zd9 leD leD (unW negD (kW (.int 1000000000))) (vW 5) (kW (.int 1000000000))))) (retW (kW (.str "BadRise"))) nilS)
  (retW (binW ixXD (valW (lstW (zaa (kW (.str "")) (zaa (kW (.str "Full")) nilA)))) (cbW zdB (zaa (binW eqD (cbW zbd (zaa (binW zay (vW 0) (kW (.str "rows"))) nilA)) (kW (.int 40))) nilA))))))))))
noncomputable def zbm:Fn:=fnW 2 ((seqW (ifS (notT (truW (zal 1 zcn (zaa (binW ixXD (vW 1) (kW (.int 1))) nilA)))) (retW (kW (.str "BadName"))) nilS)
  (seqW (ifS (blW (binW eqD (binW ixXD (vW 1) (kW (.int 0))) (kW (.str "hand")))) (seqW (ifS (inKW false (binW ixXD (vW 1) (kW (.int 1))) (binW zay (vW 0) (kW (.str "heeded")))) (retW (kW (.str "Taken"))) nilS)
  (retW (binW ixXD (valW (lstW (zaa (kW (.str "")) (zaa (kW (.str "Full")) nilA)))) (cbW zdB (zaa (binW eqD (zsb (binW zay (vW 0) (kW (.str "heeded")))) (kW (.int 10))) nilA))))) nilS)
  (seqW (ifS (blW (binW gtD (zal 2 zaG (zaa (vW 0) (zaa (binW ixXD (vW 1) (kW (.int 1))) nilA))) (kW (.int 0)))) (retW (kW (.str "Taken"))) nilS)
  (retW (binW ixXD (valW (lstW (zaa (kW (.str "")) (zaa (kW (.str "Full")) nilA)))) (cbW zdB (zaa (binW eqD (cbW zbd (zaa (binW zay (vW 0) (kW (.str "places"))) nilA)) (kW (.int 12))) nilA))))))))
noncomputable def zcI:Fn:=fnW 2 ((seqW (ifS (blW (binW eqD (binW ixXD (vW 1) (kW (.int 0))) (kW (.str "run")))) (retW (zal 2 zbM (zaa (vW 0) (zaa (vW 1) nilA)))) nilS)
  (seqW (ifS (blW (binW (inXD false) (binW ixXD (vW 1) (kW (.int 0))) (tupW (zaa (kW (.str "mark")) (zaa (kW (.str "hand")) nilA))))) (retW (zal 2 zbm (zaa (vW 0) (zaa (vW 1) nilA)))) nilS)
  (seqW (ifS (blW (binW eqD (binW ixXD (vW 1) (kW (.int 0))) (kW (.str "settle")))) (seqW (ifS (blW (binW eqD (zal 2 zaG (zaa (vW 0) (zaa (binW ixXD (vW 1) (kW (.int 1))) nilA))) (kW (.int 0)))) (retW (kW (.str "NoMark"))) nilS)
  (retW (binW ixXD (valW (lstW (zaa (kW (.str "")) (zaa (kW (.str "Full")) nilA)))) (cbW zdB (zaa (binW eqD (cbW zbd (zaa (binW zay (vW 0) (kW (.str "places"))) nilA)) (kW (.int 12))) nilA))))) nilS)
  (seqW (ifS (blW (binW (inXD false) (binW ixXD (vW 1) (kW (.int 0))) (tupW (zaa (kW (.str "strike")) (zaa (kW (.str "mend")) nilA))))) (seqW (ifS (notT (truW (cbW anyF (zaa (valW (zaF [none,some 1] (zbC (binW zay (vW 0) (kW (.str "rows")))) (.nm 0) noIf (binW eqD (binW ixXD (vW 0) (kW (.int 0))) (binW ixXD (vW 1) (kW (.int 1)))))) nilA)))) (retW (kW (.str "NoRun"))) nilS)
  (retW (binW ixXD (valW (lstW (zaa (kW (.str "")) (zaa (kW (.str "BadRise")) nilA)))) (cbW zdB (zaa (andW (binW eqD (binW ixXD (vW 1) (kW (.int 0))) (kW (.str "mend"))) (notW (zd9 leD leD (unW negD (kW (.int 1000000000))) (binW ixXD (vW 1) (kW (.int 2))) (kW (.int 1000000000))))) nilA))))) nilS)
  (seqW (ifS (blW (binW eqD (binW ixXD (vW 1) (kW (.int 0))) (kW (.str "allow")))) (retW (binW ixXD (valW (lstW (zaa (kW (.str "BadNumber")) (zaa (kW (.str "")) nilA)))) (cbW zdB (zaa (zd9 leD leD (kW (.int 0)) (binW ixXD (vW 1) (kW (.int 1))) (kW (.int 3))) nilA)))) nilS)
  (seqW (ifS (inKW true (binW ixXD (vW 1) (kW (.int 1))) (binW zay (vW 0) (kW (.str "heeded")))) (retW (kW (.str "NoHand"))) nilS)
  (seqW (ifS (blW (binW eqD (binW ixXD (vW 1) (kW (.int 0))) (kW (.str "aside")))) (retW (binW ixXD (valW (lstW (zaa (kW (.str "Aside")) (zaa (kW (.str "")) nilA)))) (cbW zdB (zaa (binW zay (binW zay (vW 0) (kW (.str "heeded"))) (binW ixXD (vW 1) (kW (.int 1)))) nilA)))) nilS)
  (retW (binW ixXD (valW (lstW (zaa (kW (.str "")) (zaa (kW (.str "NotAside")) nilA)))) (cbW zdB (zaa (binW zay (binW zay (vW 0) (kW (.str "heeded"))) (binW ixXD (vW 1) (kW (.int 1)))) nilA))))))))))))
noncomputable def zc4(nm:Str)(ea:Addr):Fn:=fnW 3 ((seqW (asgW (.nm 1) (valW (lstW (zaa (isEW (vW 0) ea (decide (nm="BadName"))) (zaa (isEW (vW 0) ea (decide (nm="Taken"))) (zaa (isEW (vW 0) ea (decide (nm="Full"))) (zaa (isEW (vW 0) ea (decide (nm="NoMark"))) nilA)))))))
  (seqW (asgW (.nm 1) (binW addD (vW 1) (valW (lstW (zaa (isEW (vW 0) ea (decide (nm="NoHand"))) (zaa (isEW (vW 0) ea (decide (nm="Same"))) (zaa (isEW (vW 0) ea (decide (nm="BadRise"))) (zaa (isEW (vW 0) ea (decide (nm="NoRun"))) nilA))))))))
  (seqW (asgW (.nm 1) (binW addD (vW 1) (valW (lstW (zaa (isEW (vW 0) ea (decide (nm="Aside"))) (zaa (isEW (vW 0) ea (decide (nm="NotAside"))) (zaa (isEW (vW 0) ea (decide (nm="BadNumber"))) (zaa (isEW (vW 0) ea (decide (nm="NothingLeft"))) nilA))))))))
  (seqW (asgW (.nm 1) (binW addD (vW 1) (valW (lstW (zaa (isEW (vW 0) ea (decide (nm="Steady"))) (zaa (isEW (vW 0) ea (decide (nm="NoDeed"))) (zaa (isEW (vW 0) ea (decide (nm="Known"))) (zaa (isEW (vW 0) ea (decide (nm="NoFen"))) nilA))))))))
  (seqW (asgW (.nm 1) (binW addD (vW 1) (valW (lstW (zaa (isEW (vW 0) ea (decide (nm="Settled"))) (zaa (isEW (vW 0) ea (decide (nm="NoPage"))) (zaa (notW (isEW (vW 0) ea true)) nilA)))))))
  (seqW (asgW (.nm 2) (kW (.str "BadName Taken Full NoMark NoHand Same BadRise NoRun Aside NotAside BadNumber NothingLeft")))
  (seqW (asgW (.nm 2) (smW spF (binW addD (vW 2) (kW (.str " Steady NoDeed Known NoFen Settled NoPage nothing"))) (kW (.str " "))))
  (retW (valW (zaF [none,some 2,some 1] (zeU (cbW zbd (zaa (vW 2) nilA))) (.nm 0) (truW (binW ixXD (vW 2) (vW 0))) (binW ixXD (vW 1) (vW 0)))))))))))))
def zco(A:Ads):FnF:=fnWF 5 (λY=>(seqF (zbJ λqj=>(asgW (.nm 2) (kW .non)))
  (seqF (zbJ λqj=>(asgW (.nm 3) (valW (lstW nilA))))
  (seqF (zo7 2 4 3 (λY1=>zeN 0 A.fen "deed" 2 (zb7 A) Y1 (zaV (za1 λqj=>(vW 1)) nilO)) (kdN NSx))
  (zbJ λqj=>(retW (tupW (zaa (vW 2) (zaa (vW 3) nilA)))))))))
noncomputable def zbL(A:Ads):FnF:=fnWF 4 (λY=>(seqF (zbJ λqj=>(asgW (.nm 3) (zal 2 zcI (zaa (vW 1) (zaa (vW 2) nilA)))))
  (seqF (ifF (λqj=>(blW (binW eqD (vW 3) (kW (.str ""))))) (retO (zeG 3 (za6 A) (λ_ _=>False) (zaV (za1 λqj=>(vW 0)) (zaV (za1 λqj=>(vW 1)) (zaV (za1 λqj=>(vW 2)) nilO))))) nilF)
  (seqF (ifNO (zsh 2 (zbb 6) (zaV (zeG 2 (zco A) (λ_ _=>False) (zaV (za1 λqj=>(vW 0)) (zaV (za1 λqj=>(vW 2)) nilO))) (zaV (za1 λqj=>(tupW (zaa (kW .non) (zaa (valW (lstW (zaa (vW 3) nilA))) nilA)))) nilO))) (zbJ λqj=>(retW (kW .non))) nilF)
  (zbJ λqj=>(retW (vW 1)))))))
noncomputable def zbA:Fn:=fnW 8 ((seqW (asgW (.nm 4) (binW addD (kW (.int 1)) (zal 2 zaf (zaa (vW 0) (zaa (binW subD (cbW zbd (zaa (vW 3) nilA)) (kW (.int 1))) nilA)))))
  (seqW (ifS (truW (isiW "str" (binW ixXD (vW 3) (vW 4)))) (seqW (asgW (.nm 5) (valW (lstW (zaa (kW (.str "")) (zaa (binW addD (binW ixXD (vW 2) (kW (.int 0))) (binW zmN (slXW (binW ixXD (vW 2) (kW (.int 0))) noO (zdI (kW (.int 1)))) (kW (.int 8)))) (zaa (binW addD (slXW (binW ixXD (vW 2) (kW (.int 0))) noO (zdI (kW (.int 7)))) (kW (.str "A"))) (zaa (binW addD (slXW (binW ixXD (vW 2) (kW (.int 0))) noO (zdI (kW (.int 3)))) (kW (.str " a"))) (zaa (kW (.str "1")) nilA))))))))
  (seqW (asgW (.nm 6) (binW addD (binW addD (binW addD (vW 2) (zal 1 zbE (zaa (vW 1) nilA))) (valW (zjx (binW zay (vW 1) (kW (.str "heeded")))))) (vW 5)))
  (asgW (.nm 7) (binW ixXD (vW 6) (zal 2 zaf (zaa (vW 0) (zaa (cbW zbd (zaa (vW 6) nilA)) nilA))))))) (seqW (asgW (.nm 6) (valW (lstW (zaa (kW (.int 0)) (zaa (unW negD (kW (.int 1))) (zaa (kW (.int 1)) (zaa (kW (.int 3)) (zaa (kW (.int 4)) (zaa (kW (.int 1000000000)) (zaa (kW (.int 1000000001)) (zaa (unW negD (kW (.int 1000000000))) (zaa (unW negD (kW (.int 1000000001))) (zaa (binW powD (kW (.int 10)) (kW (.int 20))) (zaa (unW negD (binW powD (kW (.int 10)) (kW (.int 20)))) nilA))))))))))))))
  (asgW (.nm 7) (binW ixXD (binW addD (vW 6) (valW (lstW (zaa (binW zay (vW 1) (kW (.str "entered"))) (zaa (binW addD (binW zay (vW 1) (kW (.str "entered"))) (kW (.int 1))) nilA))))) (zal 2 zaf (zaa (vW 0) (zaa (binW addD (cbW zbd (zaa (vW 6) nilA)) (kW (.int 2))) nilA)))))))
  (retW (binW addD (binW addD (slXW (vW 3) noO (zdI (vW 4))) (tupW (zaa (vW 7) nilA))) (slXW (vW 3) (zdI (binW addD (vW 4) (kW (.int 1)))) noO))))))
def zeo:Fn:=fnW 1 ((retW (valW (zaF [none,none] (zbC (vW 0)) (.tp 2 (.cons (.nm 0) (.cons (.nm 1) .nil))) (blW (binW eqD (vW 1) (kW (.int 1)))) (vW 0)))))
def zdC(A:Ads):Sto->Fn:=λqj=>fnW 1 ((retW (zal 1 zeo (zaa (binW zay (zcj qj 0 A.fen "now" 1 (za3 A) (λ_ Q=>Q [])) (kW (.str "stands"))) nilA))))
def zdp(A:Ads):Sto->Fn:=λqj=>fnW 1 ((retW (valW (zmA (binW zay (zcj qj 0 A.fen "now" 1 (za3 A) (λ_ Q=>Q [])) (kW (.str "hands")))))))
def zc1(A:Ads):Sto->Fn:=λqj=>fnW 2 ((seqW (asgW (.nm 1) (zcj qj 0 A.fen "now" 1 (za3 A) (λ_ Q=>Q [])))
  (retW (valW (zaF [none,some 1] (zbC (binW zay (vW 1) (kW (.str "hands")))) (.nm 0) (blW (binW (inXD false) (vW 0) (binW zay (vW 1) (kW (.str "aside"))))) (vW 0))))))
def zcT(A:Ads):Sto->Fn:=λqj=>fnW 1 ((retW (valW (zmA (binW zay (zcj qj 0 A.fen "now" 1 (za3 A) (λ_ Q=>Q [])) (kW (.str "stands")))))))
def zcv(A:Ads):Sto->Fn:=λqj=>fnW 1 ((retW (binW zay (zcj qj 0 A.fen "now" 1 (za3 A) (λ_ Q=>Q [])) (kW (.str "allowed")))))
def zek(A:Ads):Sto->Fn:=λqj=>fnW 1 ((retW (valW (zmA (binW zay (zcj qj 0 A.fen "now" 1 (za3 A) (λ_ Q=>Q [])) (kW (.str "runs")))))))
def zbr:Fn:=fnW 1 ((retW (valW (zaF [none,some 0] (zbC (binW zay (vW 0) (kW (.str "runs")))) (.nm 0) (blW (binW (inXD true) (binW ixXD (vW 0) (kW (.int 6))) (binW zay (vW 1) (kW (.str "aside"))))) (vW 0)))))
def zce(A:Ads):Sto->Fn:=λqj=>fnW 1 ((retW (valW (zaF [none] (zbC (zal 1 zbr (zaa (zcj qj 0 A.fen "now" 1 (za3 A) (λ_ Q=>Q [])) nilA))) (.nm 0) noIf (binW ixXD (vW 0) (kW (.int 0)))))))
def zdz(A:Ads):Sto->Fn:=λqj=>fnW 1 ((retW (valW (lstF qj 0 "kept" A.fen))))
noncomputable def zds(A:Ads):Sto->Fn:=λqj=>fnW 2 ((seqW (asgW (.nm 1) (valW (lstW (zaa (zcj qj 0 A.fen "marks" 1 (zdC A) (λ_ Q=>Q [])) (zaa (zcj qj 0 A.fen "hands" 1 (zdp A) (λ_ Q=>Q [])) (zaa (zcj qj 0 A.fen "asides" 1 (zc1 A) (λ_ Q=>Q [])) (zaa (zcj qj 0 A.fen "stands" 1 (zcT A) (λ_ Q=>Q [])) (zaa (zcj qj 0 A.fen "allowed" 1 (zcv A) (λ_ Q=>Q [])) (zaa (zcj qj 0 A.fen "runs" 1 (zek A) (λ_ Q=>Q [])) (zaa (zcj qj 0 A.fen "counting" 1 (zce A) (λ_ Q=>Q [])) nilA))))))))))
  (retW (binW addD (vW 1) (valW (lstW (zaa (zcj qj 0 A.fen "deeds" 1 (zdz A) (λ_ Q=>Q [])) nilA)))))))
def zcc:Fn:=fnW 1 ((retW (valW (zaF [none,some 0] (zbC (binW zay (vW 0) (kW (.str "rows")))) (.nm 0) (truW (binW zay (binW zay (vW 1) (kW (.str "heeded"))) (binW ixXD (vW 0) (kW (.int 4))))) (vW 0)))))
noncomputable def zej:Fn:=fnW 5 ((seqW (asgW (.nm 1) (binW zay (vW 0) (kW (.str "places"))))
  (seqW (asgW (.nm 2) (valW (zaF [none,some 1] (zbC (binW zay (vW 0) (kW (.str "rows")))) (.nm 0) noIf (binW addD (binW addD (binW addD (tupW (zaa (binW ixXD (vW 0) (kW (.int 0))) nilA)) (binW ixXD (vW 1) (binW ixXD (vW 0) (kW (.int 1))))) (binW ixXD (vW 1) (binW ixXD (vW 0) (kW (.int 2))))) (slXW (vW 0) (zdI (kW (.int 3))) noO)))))
  (seqW (asgW (.nm 3) (valW (zaF [none,some 0] (zrM (binW zay (vW 0) (kW (.str "heeded")))) (.nm 0) (notT (truW (binW zay (binW zay (vW 1) (kW (.str "heeded"))) (vW 0)))) (vW 0))))
  (seqW (asgW (.nm 4) (valW (lstW (zaa (zal 1 zbE (zaa (vW 0) nilA)) (zaa (valW (zjx (binW zay (vW 0) (kW (.str "heeded"))))) (zaa (vW 3) (zaa (vW 1) (zaa (binW zay (vW 0) (kW (.str "many"))) (zaa (vW 2) nilA)))))))))
  (retW (binW addD (vW 4) (valW (lstW (zaa (valW (zaF [none] (zbC (zal 1 zcc (zaa (vW 0) nilA))) (.nm 0) noIf (binW ixXD (vW 0) (kW (.int 0))))) (zaa (binW zay (vW 0) (kW (.str "deeds"))) nilA)))))))))))
def zbI(A:Ads):Sto->Fn:=λqj=>fnW 2 ((retW (zal 2 (zbb 6) (zaa (zoD qj 1 (zds A) (zaa (vW 0) nilA)) (zaa (zal 1 zej (zaa (vW 1) nilA)) nilA)))))
noncomputable def zdY(A:Ads):WF:=(seqF (asgO (.tp 3 (.cons (.nm 2) (.cons (.nm 3) (.cons (.nm 4) .nil)))) (zeG 4 (zc0 A) (λ_ _=>False) (zaV (za1 λqj=>(vW 1)) (zaV (za1 λqj=>(kW (.int 5))) (zaV (za1 λqj=>(kW (.int 4))) (zaV (za1 λqj=>(kW (.int 8))) nilO))))))
  (seqF (zbJ λqj=>(ifS (blW (isNW (vW 3))) (retW (kW (.bl false))) nilS))
  (seqF (forF (λqj=>(zeU (binW addD (kW (.int 4)) (zal 2 zaf (zaa (vW 1) (zaa (kW (.int 11)) nilA)))))) (.nm 5) (seqF (zbJ λqj=>(asgW (.nm 6) (zal 2 zaf (zaa (vW 1) (zaa (kW (.int 6)) nilA)))))
  (seqF (zbJ λqj=>(asgW (.nm 7) (binW addD (valW (zjx (binW zay (vW 3) (kW (.str "heeded"))))) (slXW (vW 4) noO (zdI (kW (.int 1)))))))
  (seqF (zbJ λqj=>(asgW (.nm 8) (tupW (zaa (binW ixXD (valW (lstW (zaa (kW (.str "aside")) (zaa (kW (.str "heed")) nilA)))) (binW modD (vW 6) (kW (.int 2)))) (zaa (binW ixXD (vW 7) (zal 2 zaf (zaa (vW 1) (zaa (cbW zbd (zaa (vW 7) nilA)) nilA)))) nilA)))))
  (seqF (zbJ λqj=>(ifS (blW (binW eqD (vW 6) (kW (.int 4)))) (asgW (.nm 8) (tupW (zaa (kW (.str "allow")) (zaa (binW subD (zal 2 zaf (zaa (vW 1) (zaa (kW (.int 6)) nilA))) (kW (.int 1))) nilA)))) nilS))
  (seqF (zbJ λqj=>(ifS (blW (binW eqD (vW 6) (kW (.int 5)))) (asgW (.nm 8) (orVW (zal 2 za8 (zaa (vW 1) (zaa (vW 3) nilA))) (vW 8))) nilS))
  (seqF (zbJ λqj=>(ifS (blW (binW eqD (zal 2 zaf (zaa (vW 1) (zaa (kW (.int 4)) nilA))) (kW (.int 0)))) (asgW (.nm 8) (zal 4 zbA (zaa (vW 1) (zaa (vW 3) (zaa (vW 4) (zaa (vW 8) nilA)))))) nilS))
  (seqF (asgO (.nm 3) (zeG 3 (zbL A) (λ_ _=>False) (zaV (za1 λqj=>(vW 2)) (zaV (za1 λqj=>(vW 3)) (zaV (za1 λqj=>(vW 8)) nilO)))))
  (zbJ λqj=>(ifS (orT (blW (isNW (vW 3))) (notT (truW (zoD qj 2 (zbI A) (zaa (vW 2) (zaa (vW 3) nilA)))))) (retW (kW (.bl false))) nilS))))))))))
  (zbJ λqj=>(retW (kW (.bl true)))))))
def zd6(h:F ds P)(k:∀d,P d->Q d):up F ds Q:=⟨P,h,k⟩
def zkK(t:Tg)(C:WT)(E:WE)(Sc:Env)(x:D)(o:Option D):Prop:=∀(Y:D->Prop)(N:Prop),(match o with|some d=>Y d|none=>N)->gD t x Sc λS2=>C S2 λb=>if b=true then E S2 Y else N
theorem zf5{α:Type}(emb:α->D)(g:α->Option D):∀(xs:List α)(acc:List D),(∀x∈xs,zkK t C E Sc (emb x) (g x))->Q (acc++xs.filterMap g)->zcP t C E Sc Q (xs.map emb) acc
 |[],acc,_,q=>by simpa[zcP]using q
 |x::xs,acc,h,q=>by
  show gD t (emb x) Sc λS2=>C S2 λb=>if b=true then E S2 λd=>zcP t C E Sc Q (xs.map emb) (acc++[d])else zcP t C E Sc Q (xs.map emb) acc;refine h x YAg _ _ ?_;cases e:g x with
  |none=>
   refine zf5 emb g xs acc (λy hy=>h y (YAj _ hy)) ?_;rw[YAV,e]at q;exact q
  |some d=>
   refine zf5 emb g xs (acc++[d]) (λy hy=>h y (YAj _ hy)) ?_;rw[YAV,e]at q;rw[YCg];exact q
theorem zjG{α β:Type}(emb:α->D)(out:β->D)(R:α->β->Prop):∀(xs:List α)(ys:List β),(∀x∈xs,∀Y:D->Prop,(∀y,R x y->Y (out y))->gD t (emb x) Sc λS2=>C S2 λb=>b=true/\E S2 Y) ->
  zg8 C->(∀zs:List β,zs.length=xs.length->(∀z∈zs,∃x∈xs,R x z)->Q ((ys++zs).map out))->zcP t C E Sc Q (xs.map emb) (ys.map out)
 |[],ys,_,_,q=>by simpa[zcP]using q [] rfl (λz h=>by cases h)
 |x::xs,ys,h,mC,q=>by
  show gD t (emb x) Sc λS2=>C S2 λb=>if b=true then E S2 λd=>zcP t C E Sc Q (xs.map emb) (ys.map out++[d])else zcP t C E Sc Q (xs.map emb) (ys.map out);refine zb8 t (emb x) Sc (λS2 z=>mC S2 _ _ (λb z=>?_) z) (h x YAg (λd=>zcP t C E Sc Q (xs.map emb) (ys.map out++[d])) λy hy=>?_)
  .rw[z.1,if_pos rfl];exact z.2
  .have:=zjG (t:=t) (C:=C) (E:=E) (Sc:=Sc) (Q:=Q) emb out R xs (ys++[y]) (λx' hx'=>h x' (YAj _ hx')) mC (λzs hl hz=>by
    have:=q (y::zs) (by simp[hl]) (λz hz'=>by
     rcases YAv.mp hz' with e|e
     .exact⟨x,YAg,e▸hy⟩
     .obtain⟨x',h1,h2⟩:=hz z e;exact⟨x',YAj _ h1,h2⟩)
    simpa using this)
   simpa using this
def zni:zg8 noIf:=λS Q Q' k q=>k _ q
theorem zh5(I:List D->Env->Prop)
  (hs:∀x rest S (E':En),(∀ S,I rest S->E'.nx S)->(∀ S,I rest S->E'.ct S)->(∀d,E.rt d->E'.rt d)->(∀ S,E.nx S->E'.bk S)->I (x::rest) S->gD t x S λS'=>B E' S') (hd:∀ S,I [] S->E.nx S) :
  ∀(xs:List D)(S:Env),I xs S->ze9 t B E xs S
 |[],S,h=>hd S h
 |x::xs,S,h=>hs x xs S {nx:=ze9 t B E xs,ct:=ze9 t B E xs,bk:=E.nx,rt:=E.rt} (zh5 I hs hd xs) (zh5 I hs hd xs) (λd z=>z) (λS z=>z) h
def zaX(i:Int):D.old (.int i)=.int i:=by unfold D.old;rfl
def zeh(x y:Int):eqOk (.int x) (.int y):=⟨rfl,rfl,by show min 0 0<=50;decide⟩
def zif(x y:Int):eqB (.int x) (.int y)=decide (x=y):=by
 show(x==y)=_;by_cases h:x=y<;>simp[h]
def zb4(x y:Bool):eqOk (.bl x) (.bl y):=⟨rfl,rfl,by show min 0 0<=50;decide⟩
def zq1(q:Q (.bl (decide (x=y)))):eqD (.int x) (.int y) Q:=⟨zeh _ _,by rw[zif];exact q⟩
def zkJ:D.old .box=.box:=by rw[D.old]
def zaE(x:Str):D.old (.str x)=.str x:=by rw[D.old]
def zqI(x:Bool):D.old (.bl x)=.bl x:=by rw[D.old]
def zef(h0:0<m)(h1:m<2^64)(k:∀x:Int,0<=x->x<m->Q (.int x)):up zaf [.box,.int m] Q:=⟨Q,⟨⟨h0,h1⟩,k⟩,λd z=>z⟩
def zm2(m:Int)(n:Nat):rngL m (n+1)=.int m::rngL (m+1) n:=by
 unfold rngL;rw[YCb,YAm,YAN];congr 1
 .simp
 .refine YBK λk _=>?_;simp only[Function.comp_apply,Nat.succ_eq_add_one];congr 1;omega
def ziu(n:Nat):rngL 0 n=(List.range n).map λ(k:Nat)=>D.int (k:Int):=by
 unfold rngL;refine YBK λk _=>?_;simp
def zbB(m:Int)(n:Nat):(rngL m n).length=n:=by unfold rngL;simp
def zuP{α:Type}(f:α->Bool)(xs:List α):(xs.map λx=>D.bl (f x))=(xs.map f).map D.bl:=by rw[YAN];rfl
def zf4{α:Type}{f:α->Bool}{xs:List α}{n:Bool}{Q:D->Prop}(q:Q (.bl (xs.all f))):allF [.lst n (xs.map λx=>D.bl (f x))] Q:=
 ⟨xs.map f,zuP f xs,by rw[List.all_map];exact q⟩
def zcd{α β:Type}(f:α->β)(xs:List α):xs.filterMap (λx=>some (f x))=xs.map f:=by rw[List.filterMap_eq_map']
def zdf{α:Type}(emb:α->D)(g:α->D)(xs:List α)(h:∀x∈xs,zkK t C E Sc (emb x) (some (g x)))(q:Q (xs.map g)):zcP t C E Sc Q (xs.map emb) []:=
 zf5 emb (λx=>some (g x)) xs [] h (by rw[zcd];exact q)
mutual
def zax:D->Nat->Bool
 |.non,_=>true
 |.bl _,_=>true
 |.int _,_=>true
 |.str x,_=>PyData.canLay0 (.str x)
 |.box,_=>false
 |.obj _,_=>false
 |.dct _ _ _,_=>false
 |.fdc _ _,_=>false
 |.tup xs,n+1=>decide (xs.length<=1000)&&zb3 xs n
 |.lst _ xs,n+1=>decide (xs.length<=1000)&&zb3 xs n
 |.tup _,0=>false
 |.lst _ _,0=>false
def zb3:List D->Nat->Bool
 |[],_=>true
 |x::xs,n=>zax x n&&zb3 xs n
end
theorem zeB:∀{xs:List D}{n:Nat}{x:D},zb3 xs n=true->x∈xs->zax x n=true
 |y::ys,n,x,h,hx=>by
  rw[zb3,YAA]at h;rcases YAv.mp hx with e|e
  .rw[e];exact h.1
  .exact zeB h.2 e
theorem zgk:∀xs:List D,zipL xs xs=xs.map λx=>.tup [x,x]
 |[]=>rfl
 |x::xs=>by rw[zipL,zgk xs];rfl
mutual
theorem zkt:∀d:D,d.old.old=d.old
 |.non=>by simp[D.old]
 |.bl _=>by simp[D.old]
 |.int _=>by simp[D.old]
 |.str _=>by simp[D.old]
 |.box=>by simp[D.old]
 |.obj _=>by simp[D.old]
 |.dct _ _ xs=>by rw[D.old,D.old,YAN];congr 1;exact ze6 xs
 |.fdc _ xs=>by rw[D.old,D.old,YAN];congr 1;exact ze6 xs
 |.tup xs=>by rw[D.old,D.old,YAN];congr 1;exact ze6 xs
 |.lst _ xs=>by rw[D.old,D.old,YAN];congr 1;exact ze6 xs
theorem ze6:∀xs:List D,xs.map (D.old∘D.old)=xs.map D.old
 |[]=>rfl
 |x::xs=>by rw[YAm,YAm,ze6 xs,Function.comp_apply,zkt x]
end
mutual
theorem zei:∀(d:D)(n:Nat),zax d.old n=zax d n
 |.non,_=>by rw[D.old]
 |.bl _,_=>by rw[D.old]
 |.int _,_=>by rw[D.old]
 |.str _,_=>by rw[D.old]
 |.box,_=>by rw[D.old]
 |.obj _,_=>by rw[D.old]
 |.dct _ _ _,_=>by rw[D.old,zax,zax]
 |.fdc _ _,_=>by rw[D.old,zax,zax]
 |.tup xs,n+1=>by rw[D.old,zax,zax,YAb,zex xs n]
 |.lst _ xs,n+1=>by rw[D.old,zax,zax,YAb,zex xs n]
 |.tup xs,0=>by rw[D.old,zax,zax]
 |.lst _ xs,0=>by rw[D.old,zax,zax]
theorem zex:∀(xs:List D)(n:Nat),zb3 (xs.map D.old) n=zb3 xs n
 |[],_=>rfl
 |x::xs,n=>by rw[YAm,zb3,zb3,zei x n,zex xs n]
end
def lay_sc:∀{d:D}{n:Nat},zax d n=true->(∀xs,d≠.tup xs)->(∀b xs,d≠.lst b xs)->layD d=true
 |.non,_,_,_,_=>rfl
 |.bl _,_,_,_,_=>rfl
 |.int _,_,_,_,_=>rfl
 |.str x,_,h,_,_=>by rw[zax]at h;rw[layD];exact h
 |.box,_,h,_,_=>by rw[zax]at h;cases h
 |.obj _,_,h,_,_=>by rw[zax]at h;cases h
 |.dct _ _ _,_,h,_,_=>by rw[zax]at h;cases h
 |.fdc _ _,_,h,_,_=>by rw[zax]at h;cases h
 |.tup xs,_,_,h,_=>absurd rfl (h xs)
 |.lst b xs,_,_,_,h=>absurd rfl (h b xs)
theorem zdX:∀(n:Nat)(d e:D),d.old=e.old->zax d n=true->zbb (n+1) [d,e] (·=.bl true)
 |n,d,e,he,h=>by
  have ho:=h;rw[<-zei]at ho;unfold zbb fnW zaI;rw[YAm,YAm,<-he];have hoo:d.old.old=d.old:=zkt d;revert ho hoo;generalize d.old=x;intro ho hoo;cases x with
  |non=>rfl
  |bl b=>exact⟨zb4 _ _,zb4 _ _,zb4 _ _,⟨rfl,rfl,by show min 0 0<=50;decide⟩,by show D.bl (b==b)=_;simp⟩
  |int i=>exact⟨zb4 _ _,zb4 _ _,zb4 _ _,zeh _ _,by show D.bl (i==i)=_;simp⟩
  |str z=>exact⟨zb4 _ _,zb4 _ _,zb4 _ _,⟨lay_sc ho (λ_ h=>by cases h) (λ_ _ h=>by cases h),lay_sc ho (λ_ h=>by cases h) (λ_ _ h=>by cases h),by show min 0 0<=50;decide⟩,by show D.bl (z==z)=_;simp⟩
  |box=>rw[zax]at ho;cases ho
  |obj a=>rw[zax]at ho;cases ho
  |dct n ks xs=>rw[zax]at ho;cases ho
  |fdc ks xs=>rw[zax]at ho;cases ho
  |tup xs=>
   cases n with
   |zero=>rw[zax]at ho;cases ho
   |succ n=>
    rw[zax,YAA]at ho;have hl:=YAD ho.1;refine⟨zb4 _ _,zb4 _ _,zeh _ _,?_⟩;show blD (.bl (eqB (.int (xs.length:Int)) (.int (xs.length:Int)))) _;rw[zif,YAt rfl];show _/\zcP _ _ _ _ _ (zipL xs xs) [];rw[zgk];refine⟨by rw[YAb];omega,zdf (λx=>.tup [x,x]) (λ_=>.bl true) xs (λx hx Y N y=>⟨rfl,rfl,zd6 (zdX n x x rfl (zeB ho.2 hx)) λd hd=>by subst hd;exact y⟩) ?_⟩;exact zf4 (f:=λ_=>true) (xs:=xs) (n:=true) (by show D.bl _=_;congr 1;simp)
  |lst b xs=>
   cases n with
   |zero=>rw[zax]at ho;cases ho
   |succ n=>
    rw[zax,YAA]at ho;have hl:=YAD ho.1;refine⟨zb4 _ _,zb4 _ _,zeh _ _,?_⟩;show blD (.bl (eqB (.int (xs.length:Int)) (.int (xs.length:Int)))) _;rw[zif,YAt rfl];show _/\zcP _ _ _ _ _ (zipL xs xs) [];rw[zgk];refine⟨by rw[YAb];omega,zdf (λx=>.tup [x,x]) (λ_=>.bl true) xs (λx hx Y N y=>⟨rfl,rfl,zd6 (zdX n x x rfl (zeB ho.2 hx)) λd hd=>by subst hd;exact y⟩) ?_⟩;exact zf4 (f:=λ_=>true) (xs:=xs) (n:=true) (by show D.bl _=_;congr 1;simp)
abbrev sg(x:Str):List Nat:=x.cps.toList
def zj3(x:Str):x.length=(sg x).length:=by unfold Str.length;simp
def zud(l:List Nat):sg ⟨l.toArray⟩=l:=by simp
def znD(x y:Str):sg (x++y)=sg x++sg y:=by show(x.cps++y.cps).toList=_;simp
def zin(x y:Str):eqB (.str x) (.str y)=decide (x=y):=by
 show(x==y)=_;by_cases h:x=y<;>simp[h]
def okS(x:Str):Bool:=PyData.canLay0 (.str x)
def ziN(h:∀ch∈sg x,ch<0x110000):okS x=true:=by
 show x.cps.all (·<0x110000)=true;rw[<-Array.all_toList,YBx];intro ch hc;exact YAt (h ch hc)
def ok_lit(h:(sg x).all (λch=>decide (ch<0x110000))=true:=by decide +kernel):okS x=true:=ziN λch hc=>YAD (YBx.mp h ch hc)
def zl1(hx:okS x=true)(hy:okS y=true):eqOk (.str x) (.str y):=⟨by rw[layD];exact hx,by rw[layD];exact hy,by show min 0 0<=50;decide⟩
def znX(s:Str)(ch:Nat):hasS s ⟨#[ch]⟩=decide (ch∈sg s):=StrLaws.found_one s ch
def zjQ(x signs:Str)(n:Int):Bool:=(decide (1<=(x.length:Int))&&decide ((x.length:Int)<=n))&&(sg x).all λch=>decide (ch∈sg signs)
def zon(h:S[i]?=some (.val d))(q:Q d):vW i S Q:=by unfold vW;rw[h];exact q
def bl_t(q:f b):blD (.bl b) f:=q
def ztD{p q:Prop}(h:p):if true=true then p else q:=h
def zk3(q:Q (.bl (decide (i<=j)))):leD (.int i) (.int j) Q:=q
def zg2(x signs:Str)(n:Int)(hx:x.length<=100000):zcm [.str x,.str signs,.int n] (·=.bl (zjQ x signs n)):=by
 unfold zcm fnW zaI;rw[YAm,YAm,YAm,zaE,zaE,zaX];refine⟨hx,zk3 ?_⟩;unfold zjQ;cases decide (1<=(x.length:Int))with
 |false=>rfl
 |true=>
  refine bl_t (ztD (zon (d:=.int n) rfl (zk3 ?_)));cases decide ((x.length:Int)<=n)with
  |false=>rfl
  |true=>
   show _/\zcP _ _ _ _ _ (chs x) [];refine⟨by unfold chs;rw[YAb,<-zj3];exact hx,?_⟩;unfold chs;refine zdf (λch=>D.str ⟨#[ch]⟩) (λch=>.bl (decide (ch∈sg signs))) (sg x) (λch _ Y N y=>?_) ?_
   .show Y (.bl (if false=true then !hasS signs ⟨#[ch]⟩else hasS signs ⟨#[ch]⟩));rw[if_neg (by decide),znX];exact y
   .exact zf4 (f:=λch=>decide (ch∈sg signs)) (xs:=sg x) (n:=true) (by simp)
abbrev LET:Str:="abcdefghijklmnopqrstuvwxyz"
def zm8(ch:Nat):ch∈sg LET↔97<=ch/\ch<=122:=by
 have:sg LET=List.range' 97 26:=by decide +kernel
 rw[this,List.mem_range'];constructor
 .rintro⟨i,h,rfl⟩;omega
 .intro h;exact⟨ch-97,by omega,by omega⟩
def nameB(x:Str):Bool:=zjQ x LET 8
def zkl(x:Str)(hx:x.length<=100000):zcy [.str x] (·=.bl (nameB x)):=by
 unfold zcy fnW zaI;rw[YAm,zaE];exact⟨rfl,zd6 (zg2 x LET 8 hx) λd z=>z⟩
def zh0(x:Str)(lo hi:Option Int):(cutS x lo hi).length<=x.length:=by
 rw[zj3,zj3];unfold cutS;rw[zud,YBM,YCt];exact YAx (YCs _ _) (Nat.sub_le _ _)
def zlb(h:ch∈sg (cutS x lo hi)):ch∈sg x:=by
 unfold cutS at h;rw[zud]at h;exact List.mem_of_mem_drop (List.mem_of_mem_take h)
def zhH(h:okS x=true):∀ch∈sg x,ch<0x110000:=by
 have h:x.cps.all (·<0x110000)=true:=h;rw[<-Array.all_toList,YBx]at h;intro ch hc;exact YAD (h ch hc)
def znf(h:okS x=true)(lo hi:Option Int):okS (cutS x lo hi)=true:=ziN λch hc=>zhH h ch (zlb hc)
abbrev sE:Str:=""
theorem zk0:∀ts:List Str,sg (Str.join sE ts)=(ts.map sg).flatten
 |[]=>rfl
 |[t]=>by show sg t=_;simp
 |t::u::r=>by
  show sg (t++sE++Str.join sE (u::r))=_;rw[znD,znD,zk0 (u::r)]
  have:sg sE=[]:=by decide +kernel
  rw[this,YA1];rfl
def zj1(cs:List Nat):sg (Str.join sE (cs.map λch=>⟨#[ch]⟩))=cs:=by
 rw[zk0,YAN]
 induction cs with
 |nil=>rfl
 |cons ch cs ih=>rw[YAm,YBr,ih];rfl
def zrH{cs:List Nat}(h1:1<=cs.length)(h2:cs.length<=8)(h:∀ch∈cs,ch∈sg LET):nameB (Str.join sE (cs.map λch=>⟨#[ch]⟩))=true:=by
 unfold nameB zjQ;rw[zj3,zj1,YAt (by omega:1<=(cs.length:Int)),YAt (by omega:(cs.length:Int)<=8),YBx.mpr λch hc=>YAt (h ch hc)];rfl
def In26(ns:List Int):Prop:=∀n∈ns,0<=n/\n<26
def zoo(d e:D)(n:Nat):zaI (n+2) [d,e]=.val d.old::.val e.old::List.replicate n .un:=by unfold zaI;rfl
def zqS(hj:S[j]?=some (.val .box))(hn:n<=1000)(q:∀ns:List Int,ns.length=n->In26 ns->Q (ns.map D.int)) :
  (rngL 0 n).length<=100000/\zcP (.nm 0) noIf (zal 2 zaf (zaa (vW 1) (zaa (kW (.int 26)) nilA))) (subE [none,some j] S) Q (rngL 0 n) []:=by
 refine⟨by rw[zbB];omega,?_⟩;rw[ziu]
 have:=zjG (t:=.nm 0) (C:=noIf) (E:=zal 2 zaf (zaa (vW 1) (zaa (kW (.int 26)) nilA))) (Sc:=subE [none,some j] S) (Q:=Q) (λk:Nat=>D.int (k:Int)) D.int (λ_ x=>0<=x/\x<26) (List.range n) [] (λx hx Y y=>by
  have e:(subE [none,some j] S)[1]?=some (.val .box):=by
   unfold subE;simp only[YAm,YBd,YAz,List.getElem?_cons_zero];rw[hj]
  have e2:((subE [none,some j] S).set 0 (.val (.int x)))[1]?=some (.val .box):=by rw[YAl (by decide)];exact e
  exact⟨rfl,zon e2 ⟨rfl,zef (by decide) (by decide) λz z0 z1=>y z ⟨z0,z1⟩⟩⟩) zni (λzs hl hz=>q zs (by rw[hl,YA9]) λz hz'=>by obtain⟨x,_,h⟩:=hz z hz';exact h)
 exact this
end Fd
set_option maxHeartbeats 400000
namespace Fd
open PySem L2
def Ev(A:WE)(S:Env)(d:D):Prop:=∀P:D->Prop,P d->A S P
def EvL(A:WL)(S:Env)(ds:List D):Prop:=∀P:List D->Prop,P ds->A S P
def EvT(A:WT)(S:Env)(b:Bool):Prop:=∀P:Bool->Prop,P b->A S P
def EvO(A:WO)(S:Env)(o:Option Int):Prop:=∀P:Option Int->Prop,P o->A S P
section
variable{S:Env}{A B V:WE}{R:WL}{C C':WT}{d x y:D}{ds xs:List D}{i n:Nat}{b b':Bool}
def ev_v(h:S[i]?=some (.val d)):Ev (vW i) S d:=λP p=>zon h p
def ev_k:Ev (kW d) S d:=λP p=>p
def zbF(hA:Ev A S x)(hB:Ev B S y)(h:∀P:D->Prop,P d->f x y P):Ev (binW f A B) S d:=λP p=>hA _ (hB _ (h P p))
def zsm(hA:Ev A S x)(h:∀P:D->Prop,P d->f x P):Ev (unW f A) S d:=λP p=>hA _ (h P p)
def zaj:EvL nilA S []:=λP p=>p
def zac(hA:Ev A S d)(hR:EvL R S ds):EvL (zaa A R) S (d::ds):=λP p=>hA _ (hR _ p)
def zb1(hR:EvL R S ds)(h:ds.length<=100000:=by simp):Ev (tupW R) S (.tup ds):=λP p=>hR _ ⟨h,p⟩
def zbs(hR:EvL R S ds)(h:ds.length<=100000:=by simp):EvL (lstW R) S ds:=λP p=>hR _ ⟨h,p⟩
def zaJ(hR:EvL R S ds):Ev (valW R) S (.lst true ds):=λP p=>hR _ p
def zaK(hR:EvL R S ds)(h:F ds (·=d))(hl:ds.length=n:=by rfl):Ev (zal n F R) S d:=λP p=>hR _ ⟨hl,zd6 h λe z=>by subst z;exact p⟩
def zmk(hR:EvL R S ds)(h:∀P:D->Prop,P d->f ds P):Ev (cbW f R) S d:=λP p=>hR _ (h P p)
def zkn(hA:Ev A S (.dct nn ks xs))(h:zaR ks xs z=some d):Ev (binW zay A (kW (.str z))) S d:=zbF hA ev_k λP p=>by show optD (zaR ks xs z) P;rw[h];exact p
def zpM(hA:Ev A S (.fdc ks xs))(hB:Ev B S (.str z))(h:zaR ks xs z=some d):Ev (binW zay A B) S d:=zbF hA hB λP p=>by show optD (zaR ks xs z) P;rw[h];exact p
def zfz(hA:Ev A S (.tup t))(hB:Ev B S (.int k))(h:atI t k=some d):Ev (binW ixXD A B) S d:=zbF hA hB λP p=>by show(match atI t k with|some d=>P d|none=>False);rw[h];exact p
def zdM(hA:Ev A S (.lst m t))(hB:Ev B S (.int k))(h:atI t k=some d):Ev (binW ixXD A B) S d:=zbF hA hB λP p=>by show(match atI t k with|some d=>P d|none=>False);rw[h];exact p
def zc9(hA:Ev A S (.int j))(hB:Ev B S (.int k)):Ev (binW addD A B) S (.int (j+k)):=zbF hA hB λP p=>p
def zgB(hA:Ev A S (.int j))(hB:Ev B S (.int k)):Ev (binW subD A B) S (.int (j-k)):=zbF hA hB λP p=>p
def zkZ(hA:Ev A S (.int j))(hB:Ev B S (.int k))(h:∀P:D->Prop,P (.int (j*k))->mulD (.int j) (.int k) P):Ev (binW mulD A B) S (.int (j*k)):=zbF hA hB h
def zkG(hA:Ev A S (.int j))(hB:Ev B S (.int k))(h:0<k:=by decide):Ev (binW modD A B) S (.int (j % k)):=zbF hA hB λP p=>⟨h,p⟩
def zda(hA:Ev A S (.tup s))(hB:Ev B S (.tup t))(h:s.length+t.length<=100000):Ev (binW addD A B) S (.tup (s++t)):=zbF hA hB λP p=>⟨h,p⟩
def zbV(hA:Ev A S (.lst m s))(hB:Ev B S (.lst l t))(h:s.length+t.length<=100000):Ev (binW addD A B) S (.lst true (s++t)):=zbF hA hB λP p=>⟨h,p⟩
def zhd(hA:Ev A S (.tup t)):Ev (cbW zbd (zaa A nilA)) S (.int t.length):=zmk (zac hA zaj) λP p=>p
def zcz(hA:Ev A S (.lst m t)):Ev (cbW zbd (zaa A nilA)) S (.int t.length):=zmk (zac hA zaj) λP p=>p
def zew(hA:Ev A S (.str s))(hB:Ev B S (.str t))(hs:okS s=true)(ht:okS t=true):Ev (binW eqD A B) S (.bl (decide (s=t))):=zbF hA hB λP p=>⟨zl1 hs ht,by rw[zin];exact p⟩
def zqr(hA:Ev A S (.str s))(hB:Ev B S (.str t))(hs:okS s=true)(ht:okS t=true):Ev (binW neD A B) S (.bl (!decide (s=t))):=zbF hA hB λP p=>⟨zl1 hs ht,by rw[zin];exact p⟩
def zeu(hA:Ev A S (.int s))(hB:Ev B S (.int t)):Ev (binW eqD A B) S (.bl (decide (s=t))):=zbF hA hB λP p=>zq1 p
def ztH(hA:Ev A S (.int s))(hB:Ev B S (.int t)):Ev (binW ltD A B) S (.bl (decide (s<t))):=zbF hA hB λP p=>p
def zoQ(hA:Ev A S (.int s))(hB:Ev B S (.int t)):Ev (binW gtD A B) S (.bl (decide (t<s))):=zbF hA hB λP p=>p
def zmi(hA:Ev A S (.int s))(hB:Ev B S (.int t)):Ev (binW geD A B) S (.bl (decide (t<=s))):=zbF hA hB λP p=>p
def zq0(hA:Ev A S x):Ev (isNW A) S (.bl (isN x)):=λP p=>hA _ p
def zhP(hA:Ev A S x):Ev (zfV A) S (.bl (!isN x)):=λP p=>hA _ p
def zaS(h:Ev A S (.bl b)):EvT (blW A) S b:=λP p=>h _ p
def zet(h:Ev A S (.bl b)):EvT (truW A) S b:=λP p=>h _ p
def zhu(h:EvT C S b):EvT (notT C) S (!b):=λP p=>h _ p
def zjI(h:EvT C S b)(h':b=false->EvT C' S b'):EvT (orT C C') S (b || b'):=λP p=>h _ (by
 cases b
 .exact h' rfl P p
 .exact p)
def zak(h:EvT C S b)(e:b=b'):EvT C S b':=e▸h
def zfc(h:Ev A S x)(e:x=y):Ev A S y:=e▸h
def zgf:EvO noO S none:=λP p=>p
def zdu(h:Ev A S (.int k)):EvO (zdI A) S (some k):=λP p=>h _ p
def zlW(hA:Ev A S (.tup t))(hL:EvO L S l)(hU:EvO U S u):Ev (slXW A L U) S (.tup (cutD t l u)):=λP p=>hA _ (hL _ (hU _ p))
def zdD{α:Type}(emb:α->D)(g:α->Option D)(ys:List α)(hI:EvL I S (ys.map emb))(hl:ys.length<=100000)(h:∀x∈ys,zkK t C E (subE sub S) (emb x) (g x)):EvL (zaF sub I t C E) S (ys.filterMap g):=λP p=>
 hI _ ⟨by rw[YAb];exact hl,zf5 emb g ys [] h (by rw[YC5];exact p)⟩
def zjh(hA:Ev A S (.tup t)):EvL (zbC A) S t:=λP p=>hA _ p
def zeH(hA:Ev A S (.lst m t)):EvL (zbC A) S t:=λP p=>hA _ p
def zki(hA:Ev A S (.tup t)):EvL (zmA A) S t:=λP p=>hA _ p
def zih(hC:EvT C (Sc.set i (.val x)) true)(hE:Ev E (Sc.set i (.val x)) d):zkK (.nm i) C E Sc x (some d):=λY N q=>by
 unfold gD;exact hC _ (hE _ q)
def zoX(hC:EvT C (Sc.set i (.val x)) false):zkK (.nm i) C E Sc x none:=λY N q=>by
 unfold gD;exact hC _ q
def zsW(hC:EvT C ((Sc.set i (.val x)).set j (.val y)) true)(hE:Ev E ((Sc.set i (.val x)).set j (.val y)) d):zkK (.tp 2 (.cons (.nm i) (.cons (.nm j) .nil))) C E Sc (.tup [x,y]) (some d):=λY N q=>by
 unfold gD;refine⟨rfl,?_⟩;unfold gDs gD gDs gD gDs;exact hC _ (hE _ q)
def zqA(hC:EvT C ((Sc.set i (.val x)).set j (.val y)) false):zkK (.tp 2 (.cons (.nm i) (.cons (.nm j) .nil))) C E Sc (.tup [x,y]) none:=λY N q=>by
 unfold gD;refine⟨rfl,?_⟩;unfold gDs gD gDs gD gDs;exact hC _ q
def zg1:EvT noIf S true:=λP p=>p
end
section
variable{C:WT}{A B R:WS}{E:En}{S:Env}{V:WE}{d x y:D}{i j k:Nat}
def zaT(h:EvT C S false)(q:R E S):seqW (ifS C A nilS) R E S:=h _ q
def zn3(h:EvT C S false)(q:B E S):ifS C A B E S:=h _ q
def zlz(h:EvT C S true)(q:A E S):ifS C A B E S:=h _ q
def zcC(h:EvT C S false)(q:seqW B R E S):seqW (ifS C A B) R E S:=h _ q
def zaD(h:EvT C S true)(q:seqW A R E S):seqW (ifS C A B) R E S:=h _ q
def zaM(h:Ev V S d)(q:R E (S.set i (.val d))):seqW (asgW (.nm i) V) R E S:=h _ (by unfold gD;exact q)
def za0(h:Ev V S d)(q:E.rt d):retW V E S:=h _ q
def zgE(h:Ev V S (.tup [x,y]))(q:R E ((S.set i (.val x)).set j (.val y))):seqW (asgW (.tp 2 (.cons (.nm i) (.cons (.nm j) .nil))) V) R E S:=by
 refine h _ ?_;unfold gD;refine⟨rfl,?_⟩;unfold gDs gD gDs gD gDs;exact q
def znT(h:Ev V S (.tup [x1,x2,x3,x4,x5]))(q:R E (((((S.set i1 (.val x1)).set i2 (.val x2)).set i3 (.val x3)).set i4 (.val x4)).set i5 (.val x5))) :
  seqW (asgW (.tp 5 (.cons (.nm i1) (.cons (.nm i2) (.cons (.nm i3) (.cons (.nm i4) (.cons (.nm i5) .nil)))))) V) R E S:=by
 refine h _ ?_;unfold gD;refine⟨rfl,?_⟩;unfold gDs gD gDs gD gDs gD gDs gD gDs gD gDs;exact q
end
end Fd
set_option maxHeartbeats 400000
namespace Fd
open PySem L2
def KW:List Str:=["BadName","Taken","Full","NoMark","NoHand","Same","BadRise","NoRun","Aside","NotAside","BadNumber","NothingLeft","Steady","NoDeed","Known","NoFen","Settled","NoPage","nothing"]
def kbit(nm:Str):List Bool:=(KW.take 18).map (λx=>decide (nm=x))++[false]
def kres(nm:Str)(k:Nat):Option Str:=if (kbit nm).getD k false then some (KW.getD k "")else none
def zpm:NSx.all (λnm=>decide ((List.range 19).filterMap (kres nm)=[nm]))=true:=by decide +kernel
def zpf:Txt.split ("BadName Taken Full NoMark NoHand Same BadRise NoRun Aside NotAside BadNumber NothingLeft"++" Steady NoDeed Known NoFen Settled NoPage nothing") " "=KW:=by decide +kernel
def ztO(h:Ev A S (.obj ea)):Ev (isEW A ea b) S (.bl b):=λP p=>h _ ⟨rfl,p⟩
def zrk(h:Ev A S (.bl b)):Ev (notW A) S (.bl (!b)):=λP p=>h _ p
def zsN{A:WE}{S:Env}{n:Nat}(h:Ev A S (.int n))(hn:n<=100000):EvL (zeU A) S ((List.range n).map λ(k:Nat)=>D.int k):=λP p=>h _ ⟨⟨by omega,by omega⟩,by
 have e:rngL 0 (n:Int).toNat=(List.range n).map λ(k:Nat)=>D.int k:=by
  unfold rngL
  simp
 rw[e];exact p⟩
def zqj(hA:Ev A S (.str z))(hB:Ev B S (.str b))(h1:b.length≠0)(h2:z.length<=100000):Ev (smW spF A B) S (.lst true ((Txt.split z b).map D.str)):=λP p=>hA _ (hB _ ⟨⟨h1,h2⟩,p⟩)
def zoi(hA:Ev A S (.str z))(hB:Ev B S (.str b))(h:z.length+b.length<=100000):Ev (binW addD A B) S (.str (z++b)):=zbF hA hB λP p=>⟨h,p⟩
def znz{nm:Str}(hn:nm∈NSx){s0:Sl}:Ev (valW (zaF [none,some 2,some 1] (zeU (cbW zbd (zaa (vW 2) nilA))) (.nm 0) (truW (binW ixXD (vW 2) (vW 0))) (binW ixXD (vW 1) (vW 0)))) [s0,.val (.lst true ((kbit nm).map D.bl)),.val (.lst true (KW.map D.str))] (.lst true [.str nm]):=by
 have h:=YAD (YBx.mp zpm nm hn);have e:(List.range 19).filterMap (λk=>(kres nm k).map D.str)=[D.str nm]:=by
  have:=congrArg (List.map D.str) h
  rw[YCK]at this;exact this
 rw[<-e];refine zaJ (zdD (λk:Nat=>D.int k) _ (List.range 19) (zsN (n:=19) (zcz (t:=KW.map D.str) (ev_v rfl)) (by decide)) (by decide) λk hk=>?_);have hk:k<19:=YCj.mp hk;have lb:(kbit nm).length=19:=rfl;have hb:Ev (binW ixXD (vW 2) (vW 0)) [.val (.int k),.val (.lst true (KW.map D.str)),.val (.lst true ((kbit nm).map D.bl))] (.bl ((kbit nm).getD k false)):=zdM (ev_v rfl) (ev_v rfl) (by
  refine zaH ?_;rw[YAu,YAf (by rw[lb];exact hk),YAL,YAf (by rw[lb];exact hk)];rfl)
 have hw:Ev (binW ixXD (vW 1) (vW 0)) [.val (.int k),.val (.lst true (KW.map D.str)),.val (.lst true ((kbit nm).map D.bl))] (.str (KW.getD k "")):=zdM (ev_v rfl) (ev_v rfl) (by
  refine zaH ?_;rw[YAu,YAf (show k<KW.length from hk),YAL,YAf (show k<KW.length from hk)];rfl)
 unfold kres;cases hq:(kbit nm).getD k false with
 |true=>exact zih (zet (hq▸hb)) hw
 |false=>exact zoX (zet (hq▸hb))
def zqm:∀nm∈NSx,∀ea,up (zc4 nm ea) [.obj ea] (λd'=>d'=.lst true [.str nm]):=λnm hn ea=>by
 refine⟨λd=>d=.lst true [.str nm],?_,λ_ z=>z⟩;have e0:∀{S:Env},S[0]?=some (.val (.obj ea))->∀b,Ev (isEW (vW 0) ea b) S (.bl b):=λh b=>ztO (ev_v h);unfold zc4 fnW;rw[show zaI 3 [D.obj ea]=[.val (.obj ea),.un,.un] by simp[zaI,D.old]];refine zaM (zaJ (zbs (zac (e0 rfl _) (zac (e0 rfl _) (zac (e0 rfl _) (zac (e0 rfl _) zaj)))))) ?_;refine zaM (zbV (ev_v rfl) (zaJ (zbs (zac (e0 rfl _) (zac (e0 rfl _) (zac (e0 rfl _) (zac (e0 rfl _) zaj)))))) (by simp)) ?_;refine zaM (zbV (ev_v rfl) (zaJ (zbs (zac (e0 rfl _) (zac (e0 rfl _) (zac (e0 rfl _) (zac (e0 rfl _) zaj)))))) (by simp)) ?_;refine zaM (zbV (ev_v rfl) (zaJ (zbs (zac (e0 rfl _) (zac (e0 rfl _) (zac (e0 rfl _) (zac (e0 rfl _) zaj)))))) (by simp)) ?_;refine zaM (zbV (ev_v rfl) (zaJ (zbs (zac (e0 rfl _) (zac (e0 rfl _) (zac (zrk (e0 rfl true)) zaj))))) (by simp)) ?_;refine zaM ev_k ?_;refine zaM (zpf▸zqj (zoi (ev_v rfl) ev_k (by decide +kernel)) ev_k (by decide +kernel) (by decide +kernel)) ?_;exact za0 (znz hn) rfl
end Fd
set_option maxHeartbeats 400000
namespace Fd
open PySem L2
structure Yr where
 n:Int
 a:Nat
 b:Nat
 r:Int
 h:Str
structure Ya where
 pl:List (Str×Nat)
 hs:List (Str×Bool)
 sd:List Str
 rs:List Yr
 en:Int
 al:Int
 ds:List D
def ySt(p:Str×Nat):D:=.tup [.str p.1,.int p.2]
def plY(pl:List (Str×Nat))(i:Nat):Str×Nat:=pl.getD i ("",0)
def yRun(pl:List (Str×Nat))(r:Yr):D:=.tup [.int r.n,.str (plY pl r.a).1,.int (plY pl r.a).2,.str (plY pl r.b).1,.int (plY pl r.b).2,.int r.r,.str r.h]
def yRow(r:Yr):D:=.tup [.int r.n,.int r.a,.int r.b,.int r.r,.str r.h]
abbrev BK:List Str:=["stands","hands","aside","runs","entered","allowed"]
abbrev MK:List Str:=["places","heeded","rows","entered","many","deeds"]
abbrev nmsY(s:Ya):List Str:=s.hs.map (·.1)
def zbo(s:Ya):List D:=[.tup (s.pl.map ySt),.tup ((nmsY s).map D.str),.tup (s.sd.map D.str),.tup (s.rs.map (yRun s.pl)),.int s.en,.int s.al]
def zav(s:Ya):D:=.dct false BK (zbo s)
def modL(s:Ya):List D:=[.lst false (s.pl.map ySt),.fdc (nmsY s) (s.hs.map λp=>.bl p.2),.lst false (s.rs.map yRow),.int s.en,.int s.al,.lst false s.ds]
def yMod(s:Ya):D:=.dct false MK (modL s)
def zcB{xs:List D}(h:∀x∈xs,x.old=x):xs.map D.old=xs:=by
 conv=>rhs;rw[<-List.map_id xs]
 exact YBK h
def zaW{xs:List D}(h:∀x∈xs,x.old=x):(D.tup xs).old=.tup xs:=by rw[D.old,zcB h]
def zaO{n:Bool}{xs:List D}(h:∀x∈xs,x.old=x):(D.lst n xs).old=.lst false xs:=by rw[D.old,zcB h]
def zgT{n:Bool}{ks:List Str}{xs:List D}(h:∀x∈xs,x.old=x):(D.dct n ks xs).old=.dct false ks xs:=by rw[D.old,zcB h]
def zke{ks:List Str}{xs:List D}(h:∀x∈xs,x.old=x):(D.fdc ks xs).old=.fdc ks xs:=by rw[D.old,zcB h]
def zbv(a:Addr):D.old (.obj a)=.obj a:=by rw[D.old]
def zbS(x:Str×Nat):(ySt x).old=ySt x:=zaW (by simp[zaE,zaX])
def zie(pl:List (Str×Nat))(r:Yr):(yRun pl r).old=yRun pl r:=zaW (by simp[zaE,zaX])
def zfe(r:Yr):(yRow r).old=yRow r:=zaW (by simp[zaE,zaX])
def zaz{α:Type}{f:α->D}(h:∀x,(f x).old=f x)(xs:List α):∀y∈xs.map f,y.old=y:=λy hy=>by
 obtain⟨x,_,rfl⟩:=YAM.mp hy;exact h x
def zcQ(s:Ya):∀x∈zbo s,x.old=x:=by
 unfold zbo;simp only[YA0,YAB,YBL,YBS,YCY];exact⟨zaW (zaz zbS _),zaW (zaz zaE _),zaW (zaz zaE _),zaW (zaz (zie _) _),zaX _,zaX _⟩
def zbl(s:Ya):(zav s).old=zav s:=zgT (zcQ s)
def zrV{s:Ya}(h:∀d∈s.ds,d.old=d):∀x∈modL s,x.old=x:=by
 unfold modL;simp only[YA0,YAB,YBL,YBS,YCY];exact⟨zaO (zaz zbS _),zke (zaz (λ_=>zqI _) _),zaO (zaz zfe _),zaX _,zaX _,zaO h⟩
def zcY(h:∀d∈s.ds,d.old=d):(yMod s).old=yMod s:=zgT (zrV h)
def w_in(e:zaI n ds=S)(q:B {nx:=λ_=>Q .non,rt:=Q,bk:=λ_=>False,ct:=λ_=>False} S):fnW n B ds Q:=by unfold fnW;rw[e];exact q
def zgR(e:zaI n ds=S)(q:B Y {nx:=λ_=>Q .non,rt:=Q,bk:=λ_=>False,ct:=λ_=>False} S):fnWX n B ds Q Y:=by unfold fnWX;rw[e];exact q
def zmh(e:zaI n ds=S)(q:B Y {nx:=λqi _=>Q .non qi,rt:=λqi d=>Q d qi,bk:=λ_ _=>False,ct:=λ_ _=>False} qj S):fnWF n B ds qj Q Y:=by unfold fnWF;rw[e];exact q
def zji(h:F ds P qf)(k:∀d,P d->Q d)(l:∀n,qf n->Y n):upX F ds Q Y:=⟨P,qf,h,k,l⟩
def zhb(h:F ds qj P qf)(k:∀d qj,P d qj->Q d qj)(l:∀n qj,qf n qj->Y n qj):upF F ds qj Q Y:=⟨P,qf,h,k,l⟩
def za9(hd:d.old=d)(he:e.old=e):zaI (n+2) [d,e]=.val d::.val e::List.replicate n .un:=by rw[zoo,hd,he]
def zf3(h:nameB x=true):okS x=true:=by
 unfold nameB zjQ at h;rw[YAA]at h;exact ziN λch hc=>by
  have:=YAD (YBx.mp h.2 ch hc)
  have:=(zm8 ch).mp this
  omega
def cntY(pl:List (Str×Nat))(x:Str):Nat:=(pl.filter λp=>decide (p.1=x)).length
def cnt_pos:0<cntY pl x↔x∈pl.map (·.1):=by
 unfold cntY;rw[List.length_pos_iff_exists_mem,YAM];exact⟨λ⟨p,hp⟩=>⟨p,(YBF.mp hp).1,YAD (YBF.mp hp).2⟩,λ⟨p,hp,e⟩=>⟨p,YBF.mpr ⟨hp,YAt e⟩⟩⟩
theorem zlF{α β:Type}{p:α->Bool}{f:α->β}:∀xs:List α,(xs.filterMap λx=>if p x then some (f x)else none).length=(xs.filter p).length
 |[]=>rfl
 |x::xs=>by
  rw[YAV,YC4];cases p x
  .exact zlF xs
  .exact congrArg (·+1) (zlF xs)
def zm4{pl:List (Str×Nat)}{x:Str}(hm:∀y∈pl,okS y.1=true)(hx:okS x=true)(hl:pl.length<=1000):zb6 [.tup (pl.map ySt),.str x] (·=.int (cntY pl x)):=by
 refine w_in (S:=[.val (.tup (pl.map ySt)),.val (.str x)]) (za9 (n:=0) (zaW (zaz zbS pl)) (zaE _)) ?_;refine za0 (zcz (zaJ (zdD ySt (λp=>if decide (p.1=x)then some (.int p.2)else none) pl (zjh (ev_v rfl)) (by omega) λy hy=>?_))) ?_
 .have ev:∀{S:Env},S[0]?=some (.val (.str y.1))->S[2]?=some (.val (.str x))->EvT (blW (binW eqD (vW 0) (vW 2))) S (decide (y.1=x)):=λh1 h2=>zaS (zew (ev_v h1) (ev_v h2) (hm y hy) hx);cases e:decide (y.1=x)with
  |true=>exact zsW (e▸ev rfl rfl) (ev_v rfl)
  |false=>exact zqA (e▸ev rfl rfl)
 .rw[zlF];rfl
end Fd
set_option maxHeartbeats 400000
namespace Fd
open PySem L2
def bk5:zaR BK [a,b,c,d,e,f] "entered"=some e:=by kernel_rfl
def mk1:zaR MK [a,b,c,d,e,f] "places"=some a:=by kernel_rfl
def mk2:zaR MK [a,b,c,d,e,f] "heeded"=some b:=by kernel_rfl
def mk3:zaR MK [a,b,c,d,e,f] "rows"=some c:=by kernel_rfl
def mk4:zaR MK [a,b,c,d,e,f] "entered"=some d:=by kernel_rfl
def b1(s:Ya):zaR BK (zbo s) "stands"=some (.tup (s.pl.map ySt)):=by kernel_rfl
def b2(s:Ya):zaR BK (zbo s) "hands"=some (.tup ((nmsY s).map D.str)):=by kernel_rfl
def b3(s:Ya):zaR BK (zbo s) "aside"=some (.tup (s.sd.map D.str)):=by kernel_rfl
def b4(s:Ya):zaR BK (zbo s) "runs"=some (.tup (s.rs.map (yRun s.pl))):=by kernel_rfl
def b5(s:Ya):zaR BK (zbo s) "entered"=some (.int s.en):=by kernel_rfl
def b6(s:Ya):zaR BK (zbo s) "allowed"=some (.int s.al):=by kernel_rfl
def m1(s:Ya):zaR MK (modL s) "places"=some (.lst false (s.pl.map ySt)):=by kernel_rfl
def m2(s:Ya):zaR MK (modL s) "heeded"=some (.fdc (nmsY s) (s.hs.map λp=>.bl p.2)):=by kernel_rfl
def m3(s:Ya):zaR MK (modL s) "rows"=some (.lst false (s.rs.map yRow)):=by kernel_rfl
def m4(s:Ya):zaR MK (modL s) "entered"=some (.int s.en):=by kernel_rfl
def m5(s:Ya):zaR MK (modL s) "many"=some (.int s.al):=by kernel_rfl
def m6(s:Ya):zaR MK (modL s) "deeds"=some (.lst false s.ds):=by kernel_rfl
def bp1:putVs BK [a,b,c,d,e,f] "stands" w=[w,b,c,d,e,f]:=by kernel_rfl
def bp2:putVs BK [a,b,c,d,e,f] "hands" w=[a,w,c,d,e,f]:=by kernel_rfl
def bp4:putVs BK [a,b,c,d,e,f] "runs" w=[a,b,c,w,e,f]:=by kernel_rfl
def bp5:putVs BK [a,b,c,d,e,f] "entered" w=[a,b,c,d,w,f]:=by kernel_rfl
def bp6:putVs BK [a,b,c,d,e,f] "allowed" w=[a,b,c,d,e,w]:=by kernel_rfl
def bq1:putKs BK "stands"=BK:=by kernel_rfl
def bq2:putKs BK "hands"=BK:=by kernel_rfl
def bq4:putKs BK "runs"=BK:=by kernel_rfl
def bq5:putKs BK "entered"=BK:=by kernel_rfl
def bq6:putKs BK "allowed"=BK:=by kernel_rfl
def zoy(hx:∀x∈xs,x.old=x)(hl:ks.length<1000)(q:Q (.dct true (putKs ks z) (putVs ks xs z v.old))):zaB [.dct n ks xs,.str z,v] Q:=by
 refine w_in (S:=[.val (.dct false ks xs),.val (.str z),.val v.old,.un]) (by unfold zaI;simp[zgT hx,zaE]) ?_;exact⟨by show 3<4;decide,hl,q⟩
def ziB(h:xs=zbo t):(D.dct n BK xs).old=zav t:=by rw[h,zgT (zcQ t)];rfl
theorem zl6(x:Str):∀hs:List Str,inB (.str x) (hs.map D.str)=decide (x∈hs)
 |[]=>by simp[inB,zdK]
 |y::hs=>by
  have ih:=zl6 x hs;unfold inB at ih ⊢;rw[YAm,zdK,YB4,ih]
  have:PyData.eqv (toPy (.str y)) (toPy (.str x))=decide (y=x):=zin y x
  rw[this];by_cases e:y=x
  .simp[e]
  .have e':¬ x=y:=λz=>e z.symm;simp[e,e']
theorem zhL:∀{hs:List Str},(∀y∈hs,okS y=true)->zdP (hs.map D.str)=true
 |[],_=>by rw[YBd,zdP]
 |y::hs,h=>by rw[YAm,zdP,zhL λz hz=>h z (YAj _ hz),layD,show PyData.canLay0 (.str y)=true from h y YAg];rfl
theorem zk9:∀hs:List Str,PyData.depthAll (zdK (hs.map D.str))=0
 |[]=>by rw[YBd,zdK];rfl
 |y::hs=>by rw[YAm,zdK];show max 0 (PyData.depthAll (zdK (hs.map D.str)))=0;rw[zk9 hs];rfl
def zoG{x:Str}{hs:List Str}(hx:okS x=true)(h:∀y∈hs,okS y=true):inOk (.str x) (hs.map D.str):=⟨by rw[layD];exact hx,zhL h,by rw[zk9];exact YAx (Nat.min_le_left _ _) (by decide)⟩
def zse{neg:Bool}{x:Str}{hs:List Str}{Q:D->Prop}(hx:okS x=true)(h:∀y∈hs,okS y=true)(q:Q (.bl (if neg then !decide (x∈hs)else decide (x∈hs)))):inXD neg (.str x) (.tup (hs.map D.str)) Q:=by
 show inOk (.str x) (hs.map D.str)/\Q (.bl (if neg then !inB (.str x) (hs.map D.str)else inB (.str x) (hs.map D.str)));rw[zl6];exact⟨zoG hx h,q⟩
def zfb{neg:Bool}{A B:WE}{S:Env}{x:Str}{hs:List Str}(hA:Ev A S (.str x))(hB:Ev B S (.tup (hs.map D.str)))(hx:okS x=true)(h:∀y∈hs,okS y=true):Ev (binW (inXD neg) A B) S (.bl (if neg then !decide (x∈hs)else decide (x∈hs))):=zbF hA hB λP p=>zse hx h p
def ze4(hR:EvL R S [.dct n ks xs,.str z,v])(hx:∀x∈xs,x.old=x)(hl:ks.length<1000):Ev (zal 3 zaB R) S (.dct true (putKs ks z) (putVs ks xs z v.old)):=zaK hR (zoy (Q:=(·=_)) hx hl rfl)
def ev_b(hi:S[i]?=some (.val (zav s)))(h:zaR BK (zbo s) z=some d):Ev (binW zay (vW i) (kW (.str z))) S d:=zkn (ev_v hi) h
structure Pls(pl:List (Str×Nat)):Prop where
 ok:∀x∈pl,nameB x.1=true
 ln:pl.length<=12
theorem Pls.okS(h:Pls pl):∀x∈pl,okS x.1=true:=λx hx=>zf3 (h.ok x hx)
def zga(h:Pls pl)(hx:okS x=true):zb6 [.tup (pl.map ySt),.str x] (·=.int (cntY pl x)):=zm4 h.okS hx (by have:=h.ln;omega)
def nxY(pl:List (Str×Nat))(x:Str):Str×Nat:=(x,cntY pl x+1)
def zo8(h:Pls pl)(hx:okS x=true):zcV [.tup (pl.map ySt),.str x] (·=ySt (nxY pl x)):=by
 refine w_in (za9 (n:=0) (zaW (zaz zbS pl)) (zaE _)) ?_;exact za0 (zb1 (zac (ev_v rfl) (zac (zc9 (zaK (zac (ev_v rfl) (zac (ev_v rfl) zaj)) (zga h hx)) ev_k) zaj))) rfl
def zlO(h:Pls pl)(hk:okS x=true):zbK [.tup (pl.map ySt),.str x] (λd=>d=ySt (x,cntY pl x)/\0<cntY pl x) (λn=>n="NoMark" /\ cntY pl x=0):=by
 refine zgR (za9 (n:=1) (zaW (zaz zbS pl)) (zaE _)) ?_;refine zaM (zaK (zac (ev_v rfl) (zac (ev_v rfl) zaj)) (zga h hk)) ?_;by_cases e:cntY pl x=0
 .refine zaD (zak (zaS (zeu (ev_v rfl) ev_k)) (by rw[e];decide)) ⟨by decide,rfl,e⟩
 .refine zaT (zak (zaS (zeu (ev_v rfl) ev_k)) (YAp (by omega))) ?_;exact za0 (zb1 (zac (ev_v rfl) (zac (ev_v rfl) zaj))) ⟨rfl,by omega⟩
def zpS(h:r.a<pl.length/\r.b<pl.length):yRun (pl++[p]) r=yRun pl r:=by
 have e:∀{i},i<pl.length->plY (pl++[p]) i=plY pl i:=λhi=>by unfold plY;rw[YAL,YAL,YA6 hi]
 unfold yRun;rw[e h.1,e h.2]
def ziG(h:Pls s.pl)(h0:∀r∈s.rs,r.a<s.pl.length/\r.b<s.pl.length)(hx:okS x=true):zbp [zav s,.str x] (λv=>s.pl.length<12/\v.old=zav {s with pl:=s.pl++[nxY s.pl x]}) (λn=>n="Full" /\ s.pl.length=12):=by
 refine zgR (za9 (n:=1) (zbl s) (zaE _)) ?_;refine zaM (ev_b rfl (b1 _)) ?_;have ln:=h.ln;by_cases e:s.pl.length=12
 .exact zaD (zak (zaS (zmi (zhd (ev_v rfl)) ev_k)) (by rw[YAb];exact YAt (by omega))) ⟨by decide,rfl,e⟩
 refine zaT (zak (zaS (zmi (zhd (ev_v rfl)) ev_k)) (by rw[YAb];exact YAp (by omega))) ?_;refine za0 (ze4 (zac (ev_v rfl) (zac ev_k (zac (zda (ev_v rfl) (zb1 (zac (zaK (zac (ev_v rfl) (zac (ev_v rfl) zaj)) (zo8 h hx)) zaj)) (by rw[YAb];show s.pl.length+1<=100000;omega)) zaj))) (zcQ s) (by decide)) ⟨by omega,?_⟩;show(D.dct true (putKs BK "stands") (putVs BK (zbo s) "stands" _)).old=_;rw[bq1,show putVs BK (zbo s) "stands" (D.tup (s.pl.map ySt++[ySt (nxY s.pl x)])).old=_ from bp1];refine ziB ?_;rw[<-YBC (f:=ySt),<-YAC,zaW (zaz zbS _)];unfold zbo;have e:s.rs.map (yRun (s.pl++[nxY s.pl x]))=s.rs.map (yRun s.pl):=YBK λr hr=>zpS (h0 r hr);show _=[_,_,_,D.tup (s.rs.map (yRun (s.pl++[nxY s.pl x]))),_,_];rw[e]
def zpi(h:nameB x=true):x.length<=100000:=by
 unfold nameB zjQ at h;rw[YAA,YAA]at h
 have:=YAD h.1.2
 omega
def rt_X(hR:EvL R S ds)(h:F ds P qf)(k:∀d,P d->E.rt d)(l:∀n,qf n->Y n)(hl:ds.length=n:=by rfl):retW (zeb n F Y R) E S:=hR _ ⟨hl,zji h k l⟩
def zm9(hR:EvL R S ds)(h:F ds P qf)(k:∀d,P d->∃x y,d=.tup [x,y]/\B E ((S.set i (.val x)).set j (.val y)))(l:∀n,qf n->Y n)(hl:ds.length=n:=by rfl):seqW (asgW (.tp 2 (.cons (.nm i) (.cons (.nm j) .nil))) (zeb n F Y R)) B E S:=
 hR _ ⟨hl,zji h (λd p=>by
  obtain⟨x,y,rfl,q⟩:=k d p;unfold gD;refine⟨rfl,?_⟩;unfold gDs gD gDs gD gDs;exact q) l⟩
def zeR(hi:S[i]?=some (.val (.str x)))(hx:x.length<=100000):EvT (notT (truW (zal 1 zcy (zaa (vW i) nilA)))) S (!nameB x):=zhu (zet (zaK (zac (ev_v hi) zaj) (zkl x hx)))
structure Tx(x:Str):Prop where
 ok:okS x=true
 ln:x.length<=100000
def zc7(s:Ya)(x:Str):Option Str:=if nameB x=false then some "BadName" else if 0<cntY s.pl x then some "Taken" else if s.pl.length=12 then some "Full" else none
def zcN(s:Ya)(x:Str):Option Str:=if nameB x=false then some "BadName" else if x∈nmsY s then some "Taken" else if s.hs.length=10 then some "Full" else none
def zpT(h:Pls s.pl)(h0:∀r∈s.rs,r.a<s.pl.length/\r.b<s.pl.length)(hx:Tx x):zcD [zav s,.tup [.str "mark",.str x]] (λv=>zc7 s x=none/\v.old=zav {s with pl:=s.pl++[nxY s.pl x]}) (λn=>zc7 s x=some n):=by
 refine zgR (za9 (n:=2) (zbl s) (zaW (by simp[zaE]))) ?_;refine zgE (ev_v rfl) ?_;unfold zc7;cases hb:nameB x with
 |false=>
  refine zaD (zak (zeR rfl hx.ln) (by rw[hb];rfl)) ⟨by decide,?_⟩;rfl
 |true=>
 refine zaT (zak (zeR rfl hx.ln) (by rw[hb];rfl)) ?_;rw[if_neg (by decide)];by_cases e:0<cntY s.pl x
 .refine zaD (zak (zaS (zoQ (zaK (zac (ev_b rfl (b1 _)) (zac (ev_v rfl) zaj)) (zga h hx.ok)) ev_k)) (YAt (by omega))) ⟨by decide,?_⟩;rw[if_pos e]
 refine zaT (zak (zaS (zoQ (zaK (zac (ev_b rfl (b1 _)) (zac (ev_v rfl) zaj)) (zga h hx.ok)) ev_k)) (YAp (by omega))) ?_;rw[if_neg e];exact rt_X (zac (ev_v rfl) (zac (ev_v rfl) zaj)) (ziG h h0 hx.ok) (λd z=>⟨if_neg (by omega),z.2⟩) λn z=>by rw[if_pos z.2,z.1]
structure Hns(s:Ya):Prop where
 nd:(nmsY s).Nodup
 ok:∀x∈nmsY s,nameB x=true
 ln:s.hs.length<=10
theorem Hns.okS(h:Hns s):∀x∈nmsY s,okS x=true:=λx hx=>zf3 (h.ok x hx)
def zpK{s:Ya}{x:Str}(h:Hns s)(hx:Tx x):zcJ [zav s,.tup [.str "hand",.str x]] (λv=>zcN s x=none/\v.old=zav {s with hs:=s.hs++[(x,true)]}) (λn=>zcN s x=some n):=by
 refine zgR (za9 (n:=3) (zbl s) (zaW (by simp[zaE]))) ?_;refine zgE (ev_v rfl) ?_;refine zaM (ev_b rfl (b2 _)) ?_;unfold zcN;cases hb:nameB x with
 |false=>exact zaD (zak (zeR rfl hx.ln) (by rw[hb];rfl)) ⟨by decide,rfl⟩
 |true=>
 refine zaT (zak (zeR rfl hx.ln) (by rw[hb];rfl)) ?_;rw[if_neg (by decide)];have hl:((nmsY s).map D.str).length=s.hs.length:=by rw[YAb,YAb]
 have ln:=h.ln;by_cases e:x∈nmsY s
 .refine zaD (zak (zaS (zfb (neg:=false) (ev_v rfl) (ev_v rfl) hx.ok h.okS)) (by rw[YAt e];rfl)) ⟨by decide,?_⟩;rw[if_pos e]
 refine zaT (zak (zaS (zfb (neg:=false) (ev_v rfl) (ev_v rfl) hx.ok h.okS)) (by rw[YAp e];rfl)) ?_;rw[if_neg e];by_cases f:s.hs.length=10
 .refine zaD (zak (zaS (zmi (zhd (ev_v rfl)) ev_k)) (by rw[hl];exact YAt (by omega))) ⟨by decide,?_⟩;rw[if_pos f]
 refine zaT (zak (zaS (zmi (zhd (ev_v rfl)) ev_k)) (by rw[hl];exact YAp (by omega))) ?_;refine za0 (ze4 (zac (ev_v rfl) (zac ev_k (zac (zda (ev_v rfl) (zb1 (zac (ev_v rfl) zaj)) (by rw[hl];show s.hs.length+1<=100000;omega)) zaj))) (zcQ s) (by decide)) ⟨if_neg f,?_⟩;show(D.dct true (putKs BK "hands") (putVs BK (zbo s) "hands" _)).old=_;rw[bq2,show putVs BK (zbo s) "hands" (D.tup ((nmsY s).map D.str++[D.str x])).old=_ from bp2];refine ziB ?_;rw[<-YBC (f:=D.str),<-YAC,zaW (zaz zaE _)];simp[zbo,nmsY]
end Fd
set_option maxHeartbeats 400000
namespace Fd
open PySem L2
def bp3:putVs BK [a,b,c,d,e,f] "aside" w=[a,b,w,d,e,f]:=by kernel_rfl
def bq3:putKs BK "aside"=BK:=by kernel_rfl
def okR(r:Int):Bool:=decide (-1000000000<=r)&&decide (r<=1000000000)
def zgr{s t:Ya}{z:Str}{V:WE}{v:D}{S:Env}{i:Nat}{E:En}(hi:S[i]?=some (.val (zav s)))(hV:Ev V S v)(hk:putKs BK z=BK)(hv:putVs BK (zbo s) z v.old=zbo t)(q:∀d:D,d.old=zav t->E.rt d):retW (zal 3 zaB (zaa (vW i) (zaa (kW (.str z)) (zaa V nilA)))) E S:=
 za0 (ze4 (ks:=BK) (xs:=zbo s) (n:=false) (zac (ev_v hi) (zac ev_k (zac hV zaj))) (zcQ s) (by decide)) (q _ (by rw[hk];exact ziB hv))
def ziz(hR:EvL R S ds)(h:F ds P qf)(k:∀d,P d->B E S)(l:∀n,qf n->Y n)(hl:ds.length=n:=by rfl):seqW (zme (zeb n F Y R)) B E S:=hR _ ⟨hl,zji h k l⟩
def zdr(h:Hns s)(hx:okS x=true):zbG [zav s,.str x] (λ_=>x∈nmsY s) (λn=>n="NoHand" /\ x∉nmsY s):=by
 refine zgR (za9 (n:=0) (zbl s) (zaE _)) ?_;have ev:=zaS (zfb (neg:=true) (S:=[.val (zav s),.val (.str x)]) (ev_v (i:=1) rfl) (ev_b (i:=0) rfl (b2 s)) hx h.okS);by_cases e:x∈nmsY s
 .exact zn3 (zak ev (by rw[YAt e];rfl)) e
 .exact zlz (zak ev (by rw[YAp e];rfl)) ⟨by decide,rfl,e⟩
def zig:zcX [.int r] (λ_=>okR r=true) (λn=>n="BadRise" /\ okR r=false):=by
 refine zgR (S:=[.val (.int r)]) (by unfold zaI;simp[zaX]) ?_;have ev:=zaS (zoQ (S:=[.val (.int r)]) (zmk (f:=absF) (d:=.int (if r<0 then -r else r)) (zac (ev_v (i:=0) (d:=.int r) rfl) zaj) λP p=>p) (ev_k (d:=.int 1000000000)));by_cases e:okR r=true
 .refine zn3 (zak ev (YAp ?_)) e;unfold okR at e;rw[YAA,YBf,YBf]at e;split<;>omega
 .refine zlz (zak ev (YAt ?_)) ⟨by decide,rfl,by simpa using e⟩;unfold okR at e;rw[YAA,YBf,YBf]at e;split<;>omega
def zoL{α:Type}{S:Env}{I:WL}{emb:α->D}{f:α->Int}{rs:List α}(hI:EvL I S (rs.map emb))(hl:rs.length<=1000)(he:∀r,∃t,emb r=.tup (.int (f r)::t)):Ev (valW (zaF [none] I (.nm 0) noIf (binW ixXD (vW 0) (kW (.int 0))))) S (.lst true ((rs.map f).map D.int)):=by
 have:=zdD (sub:=[none]) (t:=.nm 0) (C:=noIf) (E:=binW ixXD (vW 0) (kW (.int 0))) emb (λr=>some (.int (f r))) rs hI (by omega) λr _=>by
  obtain⟨t,e⟩:=he r;rw[e];exact zih zg1 (zfz (ev_v rfl) ev_k (zaH (j:=0) rfl))
 rw[zcd]at this;have e:(rs.map λr=>D.int (f r))=(rs.map f).map D.int:=by rw[YAN];rfl
 rw[e]at this;exact zaJ this
def ixY(pl:List (Str×Nat))(x:Str):Nat:=pl.findIdx λp=>decide (p=(x,cntY pl x))
structure Lst(pl:List (Str×Nat)):Prop where
 fin:∀x,0<cntY pl x->(x,cntY pl x)∈pl
 le:∀p∈pl,p.2<=cntY pl p.1
 nd:pl.Nodup
def zmG(h:Lst pl)(hx:0<cntY pl x):ixY pl x<pl.length:=List.findIdx_lt_length_of_exists ⟨_,h.fin x hx,YAt rfl⟩
def zuD(h:Lst pl)(hx:0<cntY pl x):pl[ixY pl x]?=some (x,cntY pl x):=by
 have hl:=zmG h hx;rw[YAf hl]
 have:=List.findIdx_getElem (p:=λp=>decide (p=(x,cntY pl x))) (w:=hl)
 exact congrArg some (YAD this)
def zqv(h:Lst pl)(hx:0<cntY pl x):plY pl (ixY pl x)=(x,cntY pl x):=by
 unfold plY;rw[YAL,zuD h hx];rfl
def whyRun(s:Ya)(a b:Str)(r:Int)(h:Str):Option Str:=if cntY s.pl a=0\/cntY s.pl b=0 then some "NoMark" else if a=b then some "Same" else if h∉nmsY s then some "NoHand" else if okR r=false then some "BadRise" else if s.rs.length=40 then some "Full" else none
def newR(s:Ya)(a b:Str)(r:Int)(h:Str):Yr:=⟨s.en+1,ixY s.pl a,ixY s.pl b,r,h⟩
def zuF{S:Env}{i j:Nat}{s:Ya}{k:Int}{V:WE}{rs:List Yr}(hi:S[i]?=some (.val (zav s)))(hj:S[j]?=some (.val (.int k)))(hV:Ev V S (.tup (rs.map (yRun s.pl)))) :
  Ev (zal 3 zaB (zaa (zal 3 zaB (zaa (vW i) (zaa (kW (.str "entered")) (zaa (vW j) nilA)))) (zaa (kW (.str "runs")) (zaa V nilA)))) S (.dct true BK (zbo {s with en:=k,rs:=rs})):=by
 have e5:putVs BK (zbo s) "entered" (D.int k).old=zbo {s with en:=k}:=by rw[zaX];exact bp5
 have f5:=ze4 (S:=S) (R:=zaa (vW i) (zaa (kW (.str "entered")) (zaa (vW j) nilA))) (ks:=BK) (xs:=zbo s) (z:="entered") (v:=.int k) (n:=false) (zac (ev_v hi) (zac ev_k (zac (ev_v hj) zaj))) (zcQ s) (by decide);rw[bq5,e5]at f5;have f6:=ze4 (zac f5 (zac (ev_k (d:=.str "runs")) (zac hV zaj))) (zcQ _) (by decide);have e6:putVs BK (zbo {s with en:=k}) "runs" (D.tup (rs.map (yRun s.pl))).old=zbo {s with en:=k,rs:=rs}:=by rw[zaW (zaz (zie _) _)];exact bp4
 rw[bq4,e6]at f6;exact f6
def zrf(hp:Pls s.pl)(hs:Lst s.pl)(hh:Hns s)(ha:okS a=true)(hb:okS b=true)(hk:okS h=true)(hl:s.rs.length<=40) :
  zc6 [zav s,.tup [.str "run",.str a,.str b,.int r,.str h]] (λv=>whyRun s a b r h=none/\v.old=zav {s with en:=s.en+1,rs:=s.rs++[newR s a b r h]}) (λn=>whyRun s a b r h=some n):=by
 refine zgR (za9 (n:=11) (zbl s) (zaW (by simp[zaE,zaX]))) ?_;refine znT (ev_v rfl) ?_;unfold whyRun;refine zm9 (zac (ev_b rfl (b1 _)) (zac (ev_v rfl) zaj)) (zlO hp ha) (λd hd=>⟨.str a,.int (cntY s.pl a),hd.1,?_⟩) λn z=>by rw[if_pos (.inl z.2),z.1]
 refine zm9 (zac (ev_b rfl (b1 _)) (zac (ev_v rfl) zaj)) (zlO hp hb) (λd2 hd2=>⟨.str b,.int (cntY s.pl b),hd2.1,?_⟩) λn z=>by rw[if_pos (.inr z.2),z.1]
 have c0:¬ (cntY s.pl a=0\/cntY s.pl b=0):=by have:=hd.2;have:=hd2.2;omega
 have ee:EvT (blW (binW eqD (vW 3) (vW 4))) [.val (zav s),.val (.tup [.str "run",.str a,.str b,.int r,.str h]),.val (.str "run"),.val (.str a),.val (.str b),.val (.int r),.val (.str h),.val (.str a),.val (.int (cntY s.pl a)),.val (.str b),.val (.int (cntY s.pl b)),.un,.un] (decide (a=b)):=zaS (zew (ev_v rfl) (ev_v rfl) ha hb);rw[if_neg c0];by_cases e:a=b
 .refine zaD (zak ee (YAt e)) ⟨by decide,?_⟩;rw[if_pos e]
 refine zaT (zak ee (YAp e)) ?_;rw[if_neg e];refine ziz (zac (ev_v rfl) (zac (ev_v rfl) zaj)) (zdr hh hk) (λ_ i1=>?_) λn z=>by rw[if_pos z.2,z.1]
 rw[if_neg λz=>z i1];refine ziz (zac (ev_v rfl) zaj) zig (λ_ i2=>?_) λn z=>by rw[if_pos z.2,z.1]
 rw[if_neg (by rw[i2];decide)];show seqW _ _ _ [.val (zav s),.val (.tup [.str "run",.str a,.str b,.int r,.str h]),.val (.str "run"),.val (.str a),.val (.str b),.val (.int r),.val (.str h),.val (.str a),.val (.int (cntY s.pl a)),.val (.str b),.val (.int (cntY s.pl b)),.un,.un];have e4:=zaS (zmi (S:=[.val (zav s),.val (.tup [.str "run",.str a,.str b,.int r,.str h]),.val (.str "run"),.val (.str a),.val (.str b),.val (.int r),.val (.str h),.val (.str a),.val (.int (cntY s.pl a)),.val (.str b),.val (.int (cntY s.pl b)),.un,.un]) (zhd (t:=s.rs.map (yRun s.pl)) (ev_b (i:=0) (s:=s) rfl (b4 s))) (ev_k (d:=.int 40)));by_cases f:s.rs.length=40
 .refine zaD (zak e4 (by rw[YAb];exact YAt (by omega))) ⟨by decide,?_⟩;rw[if_pos f]
 refine zaT (zak e4 (by rw[YAb];exact YAp (by omega))) ?_;rw[if_neg f];refine zaM (zc9 (ev_b rfl (b5 _)) ev_k) ?_;refine zaM (d:=yRun s.pl (newR s a b r h)) (zfc (zb1 (zac (ev_v rfl) (zac (ev_v rfl) (zac (ev_v rfl) (zac (ev_v rfl) (zac (ev_v rfl) (zac (ev_v rfl) (zac (ev_v rfl) zaj)))))))) (by unfold yRun newR;rw[zqv hs hd.2,zqv hs hd2.2])) ?_;refine za0 (zuF (s:=s) (k:=s.en+1) (rs:=s.rs++[newR s a b r h]) rfl rfl ?_) ⟨rfl,ziB rfl⟩;rw[YAC];exact zda (ev_b rfl (b4 _)) (zb1 (zac (ev_v rfl) zaj)) (by rw[YAb];show s.rs.length+1<=100000;omega)
def zc3(s:Ya)(x:Str):Option Str:=if x∉nmsY s then some "NoHand" else if x∈s.sd then some "Aside" else none
def zoN{s:Ya}{x:Str}(h:Hns s)(hd:∀y∈s.sd,okS y=true)(hl:s.sd.length<=1000)(hx:okS x=true):zb5 [zav s,.tup [.str "aside",.str x]] (λv=>zc3 s x=none/\v.old=zav {s with sd:=s.sd++[x]}) (λn=>zc3 s x=some n):=by
 refine zgR (za9 (n:=2) (zbl s) (zaW (by simp[zaE]))) ?_;refine zgE (ev_v rfl) ?_;unfold zc3;refine ziz (zac (ev_v rfl) (zac (ev_v rfl) zaj)) (zdr h hx) (λ_ i1=>?_) λn z=>by rw[if_pos z.2,z.1]
 rw[if_neg λz=>z i1];have ev:=zaS (zfb (neg:=false) (S:=[.val (zav s),.val (.tup [.str "aside",.str x]),.val (.str "aside"),.val (.str x)]) (ev_v (i:=3) rfl) (ev_b (i:=0) rfl (b3 s)) hx hd);by_cases e:x∈s.sd
 .refine zaD (zak ev (by rw[YAt e];rfl)) ⟨by decide,?_⟩;rw[if_pos e]
 refine zaT (zak ev (by rw[YAp e];rfl)) ?_;refine zgr (t:={s with sd:=s.sd++[x]}) rfl (zda (ev_b rfl (b3 s)) (zb1 (zac (ev_v rfl) zaj)) (by rw[YAb];show s.sd.length+1<=100000;omega)) bq3 ?_ λd hd=>⟨if_neg e,hd⟩;rw[<-YBC (f:=D.str),<-YAC,zaW (zaz zaE _)];exact bp3
def zeJ(s:Ya)(x:Str):Option Str:=if x∉nmsY s then some "NoHand" else if x∉s.sd then some "NotAside" else none
def zp3{s:Ya}{x:Str}(h:Hns s)(hd:∀y∈s.sd,okS y=true)(hl:s.sd.length<=1000)(hx:okS x=true):zdb [zav s,.tup [.str "heed",.str x]] (λv=>zeJ s x=none/\v.old=zav {s with sd:=s.sd.filter λy=>!decide (y=x)}) (λn=>zeJ s x=some n):=by
 refine zgR (za9 (n:=2) (zbl s) (zaW (by simp[zaE]))) ?_;refine zgE (ev_v rfl) ?_;unfold zeJ;refine ziz (zac (ev_v rfl) (zac (ev_v rfl) zaj)) (zdr h hx) (λ_ i1=>?_) λn z=>by rw[if_pos z.2,z.1]
 rw[if_neg λz=>z i1];have ev:=zaS (zfb (neg:=true) (S:=[.val (zav s),.val (.tup [.str "heed",.str x]),.val (.str "heed"),.val (.str x)]) (ev_v (i:=3) rfl) (ev_b (i:=0) rfl (b3 s)) hx hd);by_cases e:x∈s.sd
 .refine zaT (zak ev (by rw[YAt e];rfl)) ?_;have hc:=zdD (sub:=[none,some 3]) (I:=zbC (binW zay (vW 0) (kW (.str "aside")))) (S:=[.val (zav s),.val (.tup [.str "heed",.str x]),.val (.str "heed"),.val (.str x)]) (t:=.nm 0) (C:=blW (binW neD (vW 0) (vW 1))) (E:=vW 0) D.str (λy=>if !decide (y=x)then some (.str y)else none) s.sd (zjh (ev_b rfl (b3 s))) (by omega) (λy hy=>by
   have ev:∀{S:Env},S[0]?=some (.val (.str y))->S[1]?=some (.val (.str x))->EvT (blW (binW neD (vW 0) (vW 1))) S (!decide (y=x)):=λh0 h1=>zaS (zqr (ev_v h0) (ev_v h1) (hd y hy) hx);cases e:!decide (y=x)with
   |false=>exact zoX (zak (ev rfl rfl) e)
   |true=>exact zih (zak (ev rfl rfl) e) (ev_v rfl))
  have fm:∀ys:List Str,(ys.filterMap λy=>if !decide (y=x)then some (D.str y)else none)=(ys.filter λy=>!decide (y=x)).map D.str:=λys=>by
   induction ys with
   |nil=>rfl
   |cons y ys ih=>
    rw[YAV,YC4];cases !decide (y=x)
    .exact ih
    .exact congrArg (D.str y::·) ih
  rw[fm]at hc;refine zgr (t:={s with sd:=s.sd.filter λy=>!decide (y=x)}) rfl (zmk (f:=zgp) (d:=.tup ((s.sd.filter λy=>!decide (y=x)).map D.str)) (zac (zaJ hc) zaj) λP p=>p) bq3 ?_ λd hd=>⟨if_neg λz=>z e,hd⟩;rw[zaW (zaz zaE _)];exact bp3
 .refine zaD (zak ev (by rw[YAp e];rfl)) ⟨by decide,?_⟩;rw[if_pos e]
def zcW(k:Int):Option Str:=if k<0\/3<k then some "BadNumber" else none
def zoj{s:Ya}{k:Int}:zbq [zav s,.tup [.str "allow",.int k]] (λv=>zcW k=none/\v.old=zav {s with al:=k}) (λn=>zcW k=some n):=by
 refine zgR (za9 (n:=2) (zbl s) (zaW (by simp[zaE,zaX]))) ?_;refine zgE (ev_v rfl) ?_;unfold zcW;have ev:=zjI (S:=[.val (zav s),.val (.tup [.str "allow",.int k]),.val (.str "allow"),.val (.int k)]) (zaS (ztH (ev_v (i:=3) (d:=.int k) rfl) (ev_k (d:=.int 0)))) λ_=>zaS (zoQ (ev_v (i:=3) (d:=.int k) rfl) (ev_k (d:=.int 3)));by_cases e:k<0\/3<k
 .refine zaD (zak ev (by rw[Bool.or_eq_true,YBf,YBf];exact e)) ⟨by decide,?_⟩;rw[if_pos e]
 refine zaT (zak ev (by rw[YCx,YB6,YB6];omega)) ?_;refine zgr (t:={s with al:=k}) rfl (ev_v rfl) bq6 ?_ λd hd=>⟨if_neg e,hd⟩;rw[zaX];exact bp6
end Fd
set_option maxHeartbeats 400000
namespace Fd
open PySem L2
inductive Yd where
 |mark (x:Str)|hand (x:Str)|run (a b:Str) (r:Int) (h:Str)|aside (x:Str)|heed (x:Str)|allow (k:Int)
def ywd:Yd->Str
 |.mark _ => "mark"
 |.hand _ => "hand"
 |.run _ _ _ _ => "run"
 |.aside _ => "aside"
 |.heed _ => "heed"
 |.allow _ => "allow"
def yargs:Yd->List D
 |.mark x|.hand x|.aside x|.heed x=>[.str x]
 |.run a b r h=>[.str a,.str b,.int r,.str h]
 |.allow n=>[.int n]
def yD(d:Yd):D:=.tup (.str (ywd d)::yargs d)
def Ytx:Yd->Prop
 |.mark x|.hand x|.aside x|.heed x=>Tx x
 |.run a b _ h=>Tx a/\Tx b/\Tx h
 |_=>True
noncomputable def why(s:Ya)(d:Yd):Option Str:=Yd.rec (motive:=λ_=>Option Str) (λx=>zc7 s x) (λx=>zcN s x) (λa b r h=>whyRun s a b r h) (λx=>zc3 s x) (λx=>zeJ s x) (λk=>zcW k) d
def putH(hs:List (Str×Bool))(x:Str)(b:Bool):List (Str×Bool):=hs.map λp=>if p.1=x then(p.1,b)else p
noncomputable def yDo(s:Ya):Yd->Ya
 |.mark x=>{s with pl:=s.pl++[nxY s.pl x]}
 |.hand x=>{s with hs:=s.hs++[(x,true)]}
 |.run a b r h=>{s with en:=s.en+1,rs:=s.rs++[newR s a b r h]}
 |.aside x=>{s with sd:=s.sd++[x],hs:=putH s.hs x false}
 |.heed x=>{s with sd:=s.sd.filter λy=>!decide (y=x),hs:=putH s.hs x true}
 |.allow k=>{s with al:=k}
def zca(s:Ya)(d:Yd):Ya:={yDo s d with ds:=s.ds++[yD d]}
def zoO(d:Yd):∀x∈yargs d,x.old=x:=by cases d<;>simp[yargs,zaE,zaX]
def zbD(d:Yd):(yD d).old=yD d:=zaW (by simpa[zaE]using zoO d)
def zfW(d:Yd):okS (ywd d)=true:=by cases d<;>(dsimp only[ywd];exact ok_lit)
def zer(hs:List (Str×Bool))(x:Str)(b:Bool):(putH hs x b).map (·.1)=hs.map (·.1):=by
 unfold putH;rw[YAN];exact YBK λp _=>by show(if p.1=x then(p.1,b)else p).1=p.1;split<;>rfl
structure Yok(s:Ya):Prop where
 p:Pls s.pl
 pt:Lst s.pl
 h:Hns s
 ra:∀r∈s.rs,r.a<s.pl.length/\r.b<s.pl.length/\r.h∈nmsY s
 rl:s.rs.length<=40
 sn:∀x∈s.sd,x∈nmsY s
 sl:s.sd.length<=s.ds.length
 sh:∀p∈s.hs,p.2 = !decide (p.1∈s.sd)
 e0:0<=s.en
 el:s.en<=s.ds.length
 dd:∀d∈s.ds,d.old=d/\zax d 3=true
 dl:s.ds.length<=1000
def Yok.sok(ok:Yok s):∀x∈s.sd,okS x=true:=λx hx=>ok.h.okS x (ok.sn x hx)
def Yok.rab(ok:Yok s):∀r∈s.rs,r.a<s.pl.length/\r.b<s.pl.length:=λr hr=>⟨(ok.ra r hr).1,(ok.ra r hr).2.1⟩
def ztA(h:t.pl=s.pl)(h1:nmsY t=nmsY s)(h2:t.sd=s.sd)(h3:t.rs=s.rs)(h4:t.en=s.en)(h5:t.al=s.al):zav t=zav s:=by
 unfold zav zbo;rw[h,h1,h2,h3,h4,h5]
def zdm(ho:(D.tup (.str w::xs)).old=.tup (.str w::xs))(hl:(kvA A).lookup w=some (.obj f))(hm:(f,F)∈tabA A)(h:F [zav s,.tup (.str w::xs)] P qf):zbz A [zav s,.tup (.str w::xs)] P qf:=by
 refine zgR (za9 (n:=1) (zbl s) ho) ?_;have ev:Ev (ixGW (kvA A) (binW ixXD (vW 1) (kW (.int 0)))) (.val (zav s)::.val (.tup (.str w::xs))::List.replicate 1 Sl.un) (.obj f):=λP p=>by
  refine zfz (d:=.str w) (ev_v rfl) ev_k (zaH (j:=0) rfl) _ ?_;show opD ((kvA A).lookup w) P;rw[hl];exact p
 refine zaM ev ?_;exact⟨F,hm,rfl,zji h (λ_ z=>z) λ_ z=>z⟩
def zpL(ok:Yok s)(hx:Ytx d):zbz A [zav s,yD d] (λv=>why s d=none/\v.old=zav (zca s d)) (λn=>why s d=some n):=by
 have sl:s.sd.length<=1000:=YAx ok.sl ok.dl;cases d with
 |mark x=>exact zdm (f:=A.mark_entered) (zbD (.mark x)) (by kernel_rfl) (by unfold tabA;simp) (zpT ok.p ok.rab hx)
 |hand x=>exact zdm (f:=A.hand_entered) (zbD (.hand x)) (by kernel_rfl) (by unfold tabA;simp) (zpK ok.h hx)
 |run a b r h=>exact zdm (f:=A.run_entered) (zbD (.run a b r h)) (by kernel_rfl) (by unfold tabA;simp) (zrf ok.p ok.pt ok.h hx.1.ok hx.2.1.ok hx.2.2.ok ok.rl)
 |aside x=>
  rw[show zav (zca s (.aside x))=zav {s with sd:=s.sd++[x]}from ztA rfl (zer _ _ _) rfl rfl rfl rfl];exact zdm (f:=A.hand_set_aside) (zbD (.aside x)) (by kernel_rfl) (by unfold tabA;simp) (zoN ok.h ok.sok sl hx.ok)
 |heed x=>
  rw[show zav (zca s (.heed x))=zav {s with sd:=s.sd.filter λy=>!decide (y=x)}from ztA rfl (zer _ _ _) rfl rfl rfl rfl];exact zdm (f:=A.hand_heeded) (zbD (.heed x)) (by kernel_rfl) (by unfold tabA;simp) (zp3 ok.h ok.sok sl hx.ok)
 |allow k=>exact zdm (f:=A.number_allowed) (zbD (.allow k)) (by kernel_rfl) (F:=zbq) (by unfold tabA;simp) (zoj (s:=s))
def fenO(A:Ads)(ks bs us:List D):Ob:=⟨A.fen,[("kept",ks),("books",bs),("undone",us)]⟩
def zlw:IsF (fenO A ks bs us) "kept" 0 ks:=⟨rfl,λi y hi=>by omega⟩
def zjz:IsF (fenO A ks bs us) "books" 1 bs:=⟨rfl,λi y hi e=>by
 have:i=0:=by omega
 subst this;cases e;show("kept":Str)≠"books"; decide +kernel⟩
abbrev NF(m:Str):Prop:=m≠"kept" /\ m≠"books" /\ m≠"undone"
def zqx{A:Ads}{ks bs us:List D}{m:Str}(h:NF m):∀x∈(fenO A ks bs us).fs,x.1≠m:=λx hx=>by
 have hx:x∈[(("kept":Str),ks),("books",bs),("undone",us)]:=hx;simp only[YAv,YAB,YB8]at hx;rcases hx with rfl|rfl|rfl
 .exact YAK h.1
 .exact YAK h.2.1
 .exact YAK h.2.2
def zcx{A:Ads}{qj:Sto}{S:Env}{i:Nat}{q:Addr}{m:Str}{F:Sto->Fn}{ks bs us:List D}{d:D}(hi:S[i]?=some (.val (.obj q)))(hS:qj q=some (fenO A ks bs us))(hm:NF m)(h:F qj [.obj q] (·=d)):Ev (zcj qj i A.fen m 1 F (λ_ Q=>Q [])) S d:=λP p=>by
 unfold zcj;rw[hi];exact⟨⟨_,hS,rfl,zqx hm⟩,rfl,zd6 h λe z=>by subst z;exact p⟩
def zo4:atI (bs++[x]) (-1)=some x:=by
 unfold atI ixN;rw[if_neg (by decide),YAk,if_pos (by simp;omega)];show(bs++[x])[(-1+((bs.length+1:Nat):Int)).toNat]?=some x;rw[show(-1+((bs.length+1:Nat):Int)).toNat=bs.length from by omega]
 simp
def ztn:NF "now":=by decide +kernel
def zsw(hS:qj q=some (fenO A ks (bs++[zav s]) us)):za3 A qj [.obj q] (·=zav s):=by
 refine w_in (S:=[.val (.obj q)]) (by unfold zaI;simp[zbv]) ?_;refine⟨_,1,bs++[zav s],hS,rfl,zjz,?_⟩;show(match atI (bs++[zav s]) (-1)with|some d=>d.old=zav s|none=>False);rw[zo4];exact zbl s
def zlT{A:Ads}{qj:Sto}{q:Addr}{s:Ya}{ks bs us:List D}{S:Env}{i:Nat}(hi:S[i]?=some (.val (.obj q)))(hS:qj q=some (fenO A ks (bs++[zav s]) us)):Ev (zcj qj i A.fen "now" 1 (za3 A) (λ_ Q=>Q [])) S (zav s):=zcx hi hS ztn (zsw hS)
section
variable{E:EnF}{qj:Sto}{S:Env}{B:WF}{q:Addr}{A:Ads}{ks bs us:List D}{i:Nat}{d:D}{V:Sto->WE}
def zp2(hi:S[i]?=some (.val (.obj q)))(hS:qj q=some (fenO A ks bs us))(hV:Ev (V qj) S d)(hl:ks.length<100000)(h:B E (upS qj q (fenO A (ks++[d.old]) bs us)) S):seqF (appO i "kept" A.fen V) B E qj S:=by
 show appO i "kept" A.fen V _ qj S;unfold appO;rw[hi];exact⟨_,0,ks,hS,rfl,zlw,hV _ ⟨hl,h⟩⟩
def zoP(hi:S[i]?=some (.val (.obj q)))(hS:qj q=some (fenO A ks bs us))(hV:Ev (V qj) S d)(hl:bs.length<100000)(h:B E (upS qj q (fenO A ks (bs++[d.old]) us)) S):seqF (appO i "books" A.fen V) B E qj S:=by
 show appO i "books" A.fen V _ qj S;unfold appO;rw[hi];exact⟨_,1,bs,hS,rfl,zjz,hV _ ⟨hl,h⟩⟩
def zmt:putO "undone" [] (fenO A ks bs us).fs=(fenO A ks bs []).fs:=by unfold fenO;kernel_rfl
def zmC(hi:S[i]?=some (.val (.obj q)))(hS:qj q=some (fenO A ks bs us))(h:B E (upS qj q (fenO A ks bs [])) S):seqF (setO i "undone" A.fen (λqj=>lstW nilA)) B E qj S:=by
 show setO i "undone" A.fen _ _ qj S;unfold setO;rw[hi];refine⟨by decide,_,hS,rfl,by show 3<100;decide,?_⟩;show B E (upS qj q ⟨A.fen,putO "undone" [] (fenO A ks bs us).fs⟩) S;rw[zmt];exact h
end
def isRun:Yd->Bool
 |.run _ _ _ _=>true
 |_=>false
def zuX(d:Yd):decide (ywd d="run")=isRun d:=by cases d<;>kernel_rfl
def zfR(s:Ya)(d:Yd):D:=if isRun d=true then .int (s.en+1)else .non
def d0(hi:S[i]?=some (.val (yD d))):Ev (binW ixXD (vW i) (kW (.int 0))) S (.str (ywd d)):=zfz (t:=.str (ywd d)::yargs d) (ev_v hi) ev_k (zaH (j:=0) rfl)
def zls(d:Yd)(hi:S[i]?=some (.val (yD d))):Ev (binW eqD (binW ixXD (vW i) (kW (.int 0))) (kW (.str "run"))) S (.bl (isRun d)):=zfc (zew (d0 hi) ev_k (zfW d) ok_lit) (congrArg D.bl (zuX d))
def six:∀{xs:List D},xs.length=6->∃a b c d e f,xs=[a,b,c,d,e,f]
 |[a,b,c,d,e,f],_=>⟨a,b,c,d,e,f,rfl⟩
def zrU(h:v.old=zav t)(hi:S[i]?=some (.val v)):∃b:D,b.old=.int t.en/\Ev (binW zay (vW i) (kW (.str "entered"))) S b:=by
 cases v with
 |dct n ks xs=>
  rw[D.old]at h;injection h with h1 h2 h3
  subst h2;obtain⟨a,b,c,d,e,f,rfl⟩:=six (xs:=xs) (by rw[<-YAb (f:=D.old),h3];rfl);refine⟨e,?_,zkn (ev_v hi) bk5⟩
  have:=congrArg (λl:List D=>l[4]?) h3
  exact Option.some.inj this
 |_=>rw[D.old]at h;cases h
def zlX(hS:qj q=some (fenO A s.ds (bs++[zav s]) us))(ok:Yok s)(hx:Ytx d)(hb:bs.length<=1000) :
  zb7 A [.obj q,yD d] qj (λv qi=>why s d=none/\v.old=zfR s d/\qi=upS qj q (fenO A (s.ds++[yD d]) (bs++[zav s]++[zav (zca s d)]) [])) (λn qi=>why s d=some n/\qi=qj):=by
 refine zmh (za9 (n:=1) (zbv q) (zbD d)) ?_;show zcj qj 0 A.fen "now" 1 (za3 A) (λ_ Q=>Q []) _ _;refine zlT (ks:=s.ds) (us:=us) rfl hS _ ⟨rfl,zji (zpL ok hx) (λv hv=>?_) λ_ z=>⟨z,rfl⟩⟩;obtain⟨hw,hv⟩:=hv;unfold gD;show seqF (appO 0 "kept" A.fen λ_=>vW 1) _ _ _ [.val (.obj q),.val (yD d),.val v];refine zp2 (V:=λ_=>vW 1) (d:=yD d) (q:=q) rfl hS (ev_v rfl) (by have:=ok.dl;omega) ?_;rw[zbD];refine zoP (V:=λ_=>vW 2) (d:=v) (q:=q) rfl zbg (ev_v rfl) (by rw[YAk];show bs.length+1<100000;omega) ?_;rw[hv,zgN];refine zmC (q:=q) rfl zbg ?_;rw[zgN];refine zaS (zls d (i:=1) rfl) _ ?_;unfold zfR;cases e:isRun d with
 |false=>exact⟨hw,by rw[D.old];rfl,rfl⟩
 |true=>
  obtain⟨b,h1,h2⟩:=zrU hv (i:=2) (S:=[.val (.obj q),.val (yD d),.val v]) rfl;refine h2 _ ⟨hw,?_,rfl⟩;rw[h1];cases d with
  |run a b r h=>rfl
  |_=>cases e
def zjU(x:Str)(hx:x.length<=100000):zcn [.str x] (·=.bl (nameB x)):=by
 unfold zcn fnW zaI;rw[YAm,zaE];refine⟨hx,zk3 ?_⟩;unfold nameB zjQ;cases decide (1<=(x.length:Int))with
 |false=>rfl
 |true=>
  refine bl_t (ztD (zk3 ?_));cases decide ((x.length:Int)<=8)with
  |false=>rfl
  |true=>
   show _/\zcP _ _ _ _ _ (chs x) [];refine⟨by unfold chs;rw[YAb,<-zj3];exact hx,?_⟩;unfold chs;refine zdf (λch=>D.str ⟨#[ch]⟩) (λch=>.bl (decide (ch∈sg LET))) (sg x) (λch _ Y N y=>?_) ?_
   .show Y (.bl (if false=true then !hasS LET ⟨#[ch]⟩else hasS LET ⟨#[ch]⟩));rw[if_neg (by decide),znX];exact y
   .exact zf4 (f:=λch=>decide (ch∈sg LET)) (xs:=sg x) (n:=true) (by simp)
end Fd
set_option maxHeartbeats 400000
namespace Fd
open PySem L2
def mp1:putVs MK [a,b,c,d,e,f] "places" w=[w,b,c,d,e,f]:=by kernel_rfl
def mp2:putVs MK [a,b,c,d,e,f] "heeded" w=[a,w,c,d,e,f]:=by kernel_rfl
def mp3:putVs MK [a,b,c,d,e,f] "rows" w=[a,b,w,d,e,f]:=by kernel_rfl
def mp4:putVs MK [a,b,c,d,e,f] "entered" w=[a,b,c,w,e,f]:=by kernel_rfl
def mp5:putVs MK [a,b,c,d,e,f] "many" w=[a,b,c,d,w,f]:=by kernel_rfl
def mp6:putVs MK [a,b,c,d,e,f] "deeds" w=[a,b,c,d,e,w]:=by kernel_rfl
def mq1:putKs MK "places"=MK:=by kernel_rfl
def mq2:putKs MK "heeded"=MK:=by kernel_rfl
def mq3:putKs MK "rows"=MK:=by kernel_rfl
def mq4:putKs MK "entered"=MK:=by kernel_rfl
def mq5:putKs MK "many"=MK:=by kernel_rfl
def mq6:putKs MK "deeds"=MK:=by kernel_rfl
section
variable{S:Env}{E:En}{i:Nat}{V I:WE}{R B:WS}{ks:List Str}{xs:List D}{d v:D}{z:Str}{n:Bool}
def zt1(h:Ev V S (.dct n ks xs))(q:R E (S.set i (.dic ks xs))):seqW (dcpW i V) R E S:=h _ q
def ziK(hi:S[i]?=some (.dic ks xs))(ho:zkp i S=true)(hk:ks.length<1000)(h:Ev V S d)(q:E.nx (S.set i (.dic (putKs ks z) (putVs ks xs z d)))):dstW i (kW (.str z)) V E S:=by
 unfold dstW;rw[hi];exact⟨ho,hk,h _ q⟩
def zr8(hi:S[i]?=some (.dic ks xs))(ho:zkp i S=true)(hk:ks.length<1000)(hl:zaR ks xs z=some (.int a))(h:Ev V S (.int b))(q:E.nx (S.set i (.dic (putKs ks z) (putVs ks xs z (.int (a+b)))))):zkD i (kW (.str z)) V E S:=by
 unfold zkD;rw[hi];refine⟨ho,hk,?_⟩;show(match zaR ks xs z with|some (.int a)=>_|_=>False);rw[hl];exact h _ q
def zn5(hi:S[i]?=some (.dic ks xs))(hl:zaR ks xs z=some d):Ev (ogW i (kW (.str z))) S d:=λP p=>by
 unfold ogW;rw[hi];show optD (zaR ks xs z) P;rw[hl];exact p
def zkR(hi:S[i]?=some (.dic ks xs))(hL:EvL L S ds)(h:F (.dct true ks xs::ds) (·=d))(f:zsg d)(hl:ds.length+1=k:=by rfl):Ev (zgq i k F L) S d:=λP p=>by
 unfold zgq;rw[hi];exact hL _ ⟨hl,zd6 h λe z=>by subst z;exact⟨f,p⟩⟩
def zuW(hi:i<S.length)(hA:Ev A S (.fdc ks xs))(hk:ks.length<1000)(hV:Ev V (S.set i .un) v)(hI:Ev I (S.set i .un) (.str z))(q:B E (S.set i (.val (.fdc (putKs ks z) (putVs ks xs z v))))):dc2W i A V I B E S:=⟨hi,hA _ ⟨hk,hV _ (hI _ q)⟩⟩
end
def zlK(h:∀x∈xs,zax x n=true)(hl:xs.length<=1000:=by simp):zax (.tup xs) (n+1)=true:=by
 rw[zax,YAt hl,Bool.true_and];clear hl
 induction xs with
 |nil=>rw[zb3]
 |cons x xs ih=>rw[zb3,h x YAg,ih λy hy=>h y (YAj _ hy)];rfl
def ze8(h:∀x∈xs,zax x n=true)(hl:xs.length<=1000):zax (.lst b xs) (n+1)=true:=by
 rw[zax,YAt hl,Bool.true_and];clear hl
 induction xs with
 |nil=>rw[zb3]
 |cons x xs ih=>rw[zb3,h x YAg,ih λy hy=>h y (YAj _ hy)];rfl
def zcu(h:okS x=true):zax (.str x) n=true:=by rw[zax];exact h
def zho:zax (.int i) n=true:=by rw[zax]
section
variable{S:Env}{i:Nat}{w z:Str}{b:Bool}
def is_w(hi:S[i]?=some (.val (.str w)))(hw:okS w=true)(hz:okS z=true):EvT (blW (binW eqD (vW i) (kW (.str z)))) S (decide (w=z)):=zaS (zew (ev_v hi) ev_k hw hz)
end
def PlM(xs:List D)(pl:List (Str×Nat)):Prop:=zaR MK (xs.map D.old) "places"=some (.lst false (pl.map ySt))
def zle:zaI 2 [.dct n ks xs,.str x]=[.val (.dct false ks (xs.map D.old)),.val (.str x)]:=by
 unfold zaI;rw[YAm,YAm,YBd,zaE,D.old];rfl
def zfJ(hp:PlM xs pl)(h:Pls pl)(hx:okS x=true):zaG [.dct n MK xs,.str x] (·=.int (cntY pl x)):=by
 refine w_in zle ?_;refine za0 (zcz (zaJ (zdD ySt (λp=>if decide (p.1=x)then some (ySt p)else none) pl (zeH (zkn (ev_v rfl) hp)) (by have:=h.ln;omega) λy hy=>?_))) ?_
 .have ev:∀{S:Env},S[0]?=some (.val (ySt y))->S[1]?=some (.val (.str x))->EvT (blW (binW eqD (binW ixXD (vW 0) (kW (.int 0))) (vW 1))) S (decide (y.1=x)):=λh1 h2=>zaS (zew (zfz (t:=[.str y.1,.int y.2]) (ev_v h1) ev_k (zaH (j:=0) rfl)) (ev_v h2) (h.okS y hy) hx);cases e:decide (y.1=x)with
  |true=>exact zih (e▸ev rfl rfl) (ev_v rfl)
  |false=>exact zoX (e▸ev rfl rfl)
 .rw[zlF];rfl
def zrs(s:Ya):PlM (modL s) s.pl:=by
 unfold PlM modL;rw[YAm,zaO (zaz zbS _)];exact mk1
def ev_m(hi:S[i]?=some (.val (yMod s)))(h:zaR MK (modL s) z=some d):Ev (binW zay (vW i) (kW (.str z))) S d:=zkn (ev_v hi) h
def zd0[Decidable c](h:(if c then some x else o)=none):¬ c/\o=none:=by
 by_cases e:c
 .rw[if_pos e]at h;cases h
 .rw[if_neg e]at h;exact⟨e,h⟩
def zhJ(pl:List (Str×Nat))(x y:Str):cntY (pl++[nxY pl x]) y=cntY pl y+if x=y then 1 else 0:=by
 unfold cntY;rw[List.filter_append,YAk];congr 1;by_cases e:x=y
 .simp[nxY,e]
 .simp[nxY,e]
def Lst.snoc(h:Lst pl)(x:Str):Lst (pl++[nxY pl x])where
 fin:=λy hy=>by
  rw[zhJ]at hy ⊢;by_cases e:x=y
  .subst e;rw[if_pos rfl];exact YAE _ (YAw.mpr rfl)
  .rw[if_neg e]at hy ⊢;exact YBn _ (h.fin y hy)
 le:=λp hp=>by
  rw[zhJ];rcases YAG.mp hp with z|z
  .exact YAx (h.le p z) (YBW _ _)
  .rw[YAw.mp z];show cntY pl x+1<=cntY pl x+if x=x then 1 else 0;rw[if_pos rfl];exact YAo _
 nd:=List.nodup_append.mpr ⟨h.nd,by simp,λa ha b hb z=>by
  rw[YAw.mp hb]at z
  have:=h.le a ha
  rw[z]at this;exact absurd this (Nat.not_succ_le_self _)⟩
def zu2(hx:Ytx d):zax (yD d) 3=true:=by
 have w:=zfW d;unfold yD;refine zlK ?_ (by cases d<;>simp[yargs]);rw[YA0];refine⟨zcu w,?_⟩;cases d with
 |mark x=>simp[yargs,zcu (Tx.ok hx)]
 |hand x=>simp[yargs,zcu (Tx.ok hx)]
 |aside x=>simp[yargs,zcu (Tx.ok hx)]
 |heed x=>simp[yargs,zcu (Tx.ok hx)]
 |run a b r h=>simp[yargs,zho,zcu hx.1.ok,zcu hx.2.1.ok,zcu hx.2.2.ok]
 |allow n=>simp[yargs,zho]
def zo3(ok:Yok s)(hx:Ytx d)(f:why s d=none)(hl:s.ds.length<1000):Yok (zca s d):=by
 have dn:(zca s d).ds=s.ds++[yD d]:=rfl;have dd:∀y∈(zca s d).ds,y.old=y/\zax y 3=true:=λy hy=>by
  rw[dn]at hy;rcases YAG.mp hy with z|z
  .exact ok.dd y z
  .rw[YAw.mp z];exact⟨zbD d,zu2 hx⟩
 have dm:(zca s d).ds.length=s.ds.length+1:=by rw[dn,YAk];rfl
 have dl:(zca s d).ds.length<=1000:=by rw[dm];omega
 have sl:s.sd.length<=(zca s d).ds.length:=by rw[dm];have:=ok.sl;omega
 have el:s.en<=(zca s d).ds.length:=by rw[dm];have:=ok.el;omega
 have place:∀x,nameB x=true->s.pl.length≠12->Pls (s.pl++[nxY s.pl x]):=λx hn hl=>⟨λp hp=>(YAG.mp hp).elim (ok.p.ok p) λz=>by rw[YAw.mp z];exact hn,by rw[YAk];have:=ok.p.ln;show s.pl.length+1<=12;omega⟩;have ra':∀x,∀r∈s.rs,r.a<(s.pl++[nxY s.pl x]).length/\r.b<(s.pl++[nxY s.pl x]).length/\r.h∈nmsY s:=λx r hr=>by
  have:=ok.ra r hr;rw[YAk];show _<_+1/\_<_+1/\_;exact⟨by omega,by omega,this.2.2⟩
 have lh:=ok.h.ln;have hp:∀(t:Ya)(x:Str)(b:Bool),t.hs=putH s.hs x b->Hns t:=λt x b e=>by
  have en:nmsY t=nmsY s:=by show t.hs.map (·.1)=_;rw[e];exact zer _ _ _
  exact⟨en▸ok.h.nd,en▸ok.h.ok,by rw[e];unfold putH;rw[YAb];exact lh⟩
 cases d with
 |mark x=>
  obtain⟨f1,f⟩:=zd0 (show zc7 s x=none from f);obtain⟨f2,f⟩:=zd0 f;exact⟨place x (by simpa using f1) (zd0 f).1,ok.pt.snoc x,⟨ok.h.nd,ok.h.ok,lh⟩,ra' x,ok.rl,ok.sn,sl,ok.sh,ok.e0,el,dd,dl⟩
 |hand x=>
  obtain⟨f1,f⟩:=zd0 (show zcN s x=none from f);obtain⟨f2,f⟩:=zd0 f;have f3:=(zd0 f).1;have en:nmsY (zca s (.hand x))=nmsY s++[x]:=by show(s.hs++[(x,true)]).map (·.1)=_;rw[YAC];rfl
  refine⟨⟨ok.p.ok,ok.p.ln⟩,ok.pt,⟨?_,λy hy=>?_,?_⟩,λr hr=>⟨(ok.ra r hr).1,(ok.ra r hr).2.1,en▸YBn _ (ok.ra r hr).2.2⟩,ok.rl,λy hy=>en▸YBn _ (ok.sn y hy),sl,λp hp=>?_,ok.e0,el,dd,dl⟩
  .rw[en];exact List.nodup_append.mpr ⟨ok.h.nd,by simp,λa ha b hb z=>by rw[YAw.mp hb]at z;exact f2 (z▸ha)⟩
  .rw[en]at hy;exact(YAG.mp hy).elim (ok.h.ok y) λz=>by rw[YAw.mp z];simpa using f1
  .show(s.hs++[_]).length<=10;rw[YAk];show s.hs.length+1<=10;omega
  .refine(YAG.mp hp).elim (ok.sh p) λz=>?_;rw[YAw.mp z];show true = !decide (x∈s.sd);rw[YAp λz=>f2 (ok.sn x z)];rfl
 |run a b r h=>
  obtain⟨f1,f⟩:=zd0 (show whyRun s a b r h=none from f);obtain⟨f2,f⟩:=zd0 f;obtain⟨f3,f⟩:=zd0 f;obtain⟨f4,f⟩:=zd0 f;have f5:=(zd0 f).1;have e0:=ok.e0;have rl:=ok.rl;have el2:=ok.el;refine⟨⟨ok.p.ok,ok.p.ln⟩,ok.pt,⟨ok.h.nd,ok.h.ok,lh⟩,λq hq=>?_,?_,ok.sn,sl,ok.sh,by show 0<=s.en+1;omega,by rw[dm];show s.en+1<=_;omega,dd,dl⟩
  .rcases YAG.mp hq with z|z
   .exact ok.ra q z
   .rw[YAw.mp z];exact⟨zmG ok.pt (by omega),zmG ok.pt (by omega),YBo f3⟩
  .show(s.rs++[_]).length<=40;rw[YAk];show s.rs.length+1<=40;omega
 |aside x=>
  obtain⟨f1,f⟩:=zd0 (show zc3 s x=none from f);have en:nmsY (zca s (.aside x))=nmsY s:=zer _ _ _;refine⟨⟨ok.p.ok,ok.p.ln⟩,ok.pt,hp _ x false rfl,λr hr=>⟨(ok.ra r hr).1,(ok.ra r hr).2.1,en▸(ok.ra r hr).2.2⟩,ok.rl,λy hy=>en▸(YAG.mp hy).elim (ok.sn y) λz=>by rw[YAw.mp z];exact YBo f1,?_,λp hp=>?_,ok.e0,el,dd,dl⟩
  .rw[dm];show(s.sd++[x]).length<=_;rw[YAk];have:=ok.sl;show s.sd.length+1<=_;omega
  .obtain⟨q,hq,rfl⟩:=YAM.mp hp;show _ = !decide (_∈s.sd++[x]);by_cases e:q.1=x
   .rw[if_pos e,YAt (YAE _ (YAw.mpr e))];rfl
   .rw[if_neg e,ok.sh q hq];simp[e]
 |heed x=>
  have en:nmsY (zca s (.heed x))=nmsY s:=zer _ _ _;refine⟨⟨ok.p.ok,ok.p.ln⟩,ok.pt,hp _ x true rfl,λr hr=>⟨(ok.ra r hr).1,(ok.ra r hr).2.1,en▸(ok.ra r hr).2.2⟩,ok.rl,λy hy=>en▸ok.sn y (YBF.mp hy).1,YAx (YCp _ _) sl,λp hp=>?_,ok.e0,el,dd,dl⟩;obtain⟨q,hq,rfl⟩:=YAM.mp hp;show _ = !decide (_∈s.sd.filter λy=>!decide (y=x));by_cases e:q.1=x
  .rw[if_pos e];simp[e]
  .rw[if_neg e,ok.sh q hq];simp[e]
 |allow k=>exact⟨⟨ok.p.ok,ok.p.ln⟩,ok.pt,⟨ok.h.nd,ok.h.ok,lh⟩,ok.ra,ok.rl,ok.sn,sl,ok.sh,ok.e0,el,dd,dl⟩
end Fd
set_option maxHeartbeats 400000
namespace Fd
open PySem L2
def znc(y x:Str×Nat):eqB (ySt y) (ySt x)=decide (y=x):=by
 have:eqB (ySt y) (ySt x)=(eqB (.str y.1) (.str x.1)&&(((y.2:Nat):Int)==((x.2:Nat):Int)&&true)):=rfl
 rw[this,zin];obtain⟨a,b⟩:=y;obtain⟨c,d⟩:=x;by_cases e:a=c
 .by_cases f:b=d
  .subst e;subst f;simp
  .simp[e,f];omega
 .simp[e]
def zn0(h:okS x.1=true):layD (ySt x)=true:=by
 show(PyData.canLay0 (.str x.1)&&_)=true;rw[show PyData.canLay0 (.str x.1)=true from h];rfl
theorem zlN:∀{pl:List (Str×Nat)},(∀y∈pl,okS y.1=true)->zdP (pl.map ySt)=true
 |[],_=>by rw[YBd,zdP]
 |y::pl,h=>by rw[YAm,zdP,zlN λz hz=>h z (YAj _ hz),zn0 (h y YAg)];rfl
def zem(hp:PlM xs pl)(h:Pls pl)(hs:Lst pl)(hk:okS x=true)(hx:0<cntY pl x):zaP [.dct n MK xs,.str x] (·=.int (ixY pl x)):=by
 refine w_in zle ?_;have ht:=zfJ (n:=false) (xs:=xs.map D.old) (x:=x) (pl:=pl) (by unfold PlM;rw[YAN,show(D.old∘D.old)=D.old from funext zkt];exact hp) h hk;have et:Ev (tupW (zaa (vW 1) (zaa (zal 2 zaG (zaa (vW 0) (zaa (vW 1) nilA))) nilA))) [.val (.dct false MK (xs.map D.old)),.val (.str x)] (ySt (x,cntY pl x)):=zb1 (zac (ev_v rfl) (zac (zaK (zac (ev_v rfl) (zac (ev_v rfl) zaj)) ht) zaj));have ev:Ev (zrK (binW zay (vW 0) (kW (.str "places"))) (tupW (zaa (vW 1) (zaa (zal 2 zaG (zaa (vW 0) (zaa (vW 1) nilA))) nilA)))) [.val (.dct false MK (xs.map D.old)),.val (.str x)] (.int (ixY pl x)):=λP p=>by
  refine zkn (ev_v rfl) hp _ ?_;refine et (λy=>ztX (pl.map ySt) y P) ?_;refine⟨⟨zn0 hk,zlN h.okS,?_⟩,by rw[YAb];have:=h.ln;omega,ixY pl x,ySt (x,cntY pl x),by rw[YAu,zuD hs hx];rfl,?_,λm hm z hz=>?_,p⟩
  .exact YAx (YCs _ _) (by show(toPy (ySt (x,cntY pl x))).depth<=50;exact(by decide:1<=50))
  .rw[znc,YAt rfl]
  .have hml:m<pl.length:=Nat.lt_trans hm (zmG hs hx);rw[YAu,YAf hml]at hz;cases hz;show eqB (ySt pl[m]) (ySt (x,cntY pl x))=false;rw[znc]
   have:=List.not_of_lt_findIdx hm
   simpa using this
 exact za0 ev rfl
def zqe(s:Ya)(d:Yd):(zfR s d).old=zfR s d:=by
 unfold zfR;split
 .exact zaX _
 .rw[D.old]
def zpV(hd:∀y∈s.ds,y.old=y):zbn [yMod s,yD d] (·=zfR s d):=by
 refine w_in (za9 (n:=0) (zcY hd) (zbD d)) ?_;have er:Ev (binW eqD (binW ixXD (vW 1) (kW (.int 0))) (kW (.str "run"))) (.val (yMod s)::.val (yD d)::List.replicate 0 Sl.un) (.bl (isRun d)):=zls d (i:=1) rfl;have el:=zaJ (zbs (zac (ev_k (d:=.non)) (zac (zc9 (ev_m (s:=s) (S:=.val (yMod s)::.val (yD d)::List.replicate 0 Sl.un) (i:=0) rfl (m4 s)) (ev_k (d:=.int 1))) zaj)));refine za0 (zdM (k:=if isRun d then 1 else 0) (d:=zfR s d) el (zmk (zac er zaj) λP p=>p) ?_) rfl;unfold zfR;cases isRun d
 .exact zaH (j:=0) rfl
 .exact zaH (j:=1) rfl
def zqZ(h:xs.map D.old=modL t):(D.dct n MK xs).old=yMod t:=by rw[D.old,h];rfl
def in3(hi:S[i]?=some (.val (.str w)))(hw:okS w=true):EvT (blW (binW (inXD false) (vW i) (tupW (zaa (kW (.str "hand")) (zaa (kW (.str "heed")) (zaa (kW (.str "aside")) nilA)))))) S (decide (w∈[("hand":Str),"heed","aside"])):=
 zaS (zfb (neg:=false) (hs:=["hand","heed","aside"]) (ev_v hi) (zb1 (zac ev_k (zac ev_k (zac ev_k zaj)))) hw (by
  intro y hy;simp only[YAv,YAB,YB8]at hy;rcases hy with rfl|rfl|rfl<;>exact ok_lit))
def zqn(hn:x∉hs.map (·.1)):putKs (hs.map (·.1)) x=(hs++[(x,true)]).map (·.1)/\putVs (hs.map (·.1)) (hs.map λp=>D.bl p.2) x (.bl true)=(hs++[(x,true)]).map λp=>D.bl p.2:=by
 have:(hs.map (·.1)).contains x=false:=by rw[<-Bool.not_eq_true,YBT];exact hn
 unfold putKs putVs;rw[this];exact⟨by rw[YAC];rfl,by rw[YAC];rfl⟩
def zk7(hn:x∈hs.map (·.1)):putKs (hs.map (·.1)) x=(putH hs x b).map (·.1)/\putVs (hs.map (·.1)) (hs.map λp=>D.bl p.2) x (.bl b)=(putH hs x b).map λp=>D.bl p.2:=by
 have:(hs.map (·.1)).contains x=true:=YBT.mpr hn
 unfold putKs putVs;rw[this,zer];refine⟨rfl,?_⟩;rw[if_pos rfl];unfold putH;clear hn this
 induction hs with
 |nil=>rfl
 |cons p hs ih=>
  simp only[YAm,List.zipWith_cons_cons,ih];congr 1;split<;>rfl
abbrev modA(s:Ya)(d:Yd):List D:=[.lst false (s.pl.map ySt),.fdc (nmsY s) (s.hs.map λp=>.bl p.2),.lst false (s.rs.map yRow),.int s.en,.int s.al,.lst true (s.ds++[yD d])]
def zky:PlM [.lst false (s.pl.map ySt),.fdc (nmsY s) (s.hs.map λp=>.bl p.2),.lst false (s.rs.map yRow),.int e,.int s.al,.lst true (s.ds++[yD d])] s.pl:=by
 unfold PlM;rw[YAm,zaO (zaz zbS _)];exact mk1
def zic(ha:a.old=.lst false (t.pl.map ySt))(hb:b=.fdc (nmsY t) (t.hs.map λp=>.bl p.2))(hc:c.old=.lst false (t.rs.map yRow))(he:e=t.en)(hf:f=t.al)(hL:L.old=.lst false t.ds):(D.dct true MK [a,b,c,.int e,.int f,L]).old=yMod t:=by
 refine zqZ ?_;subst hb;subst he;subst hf;simp only[YAm,YBd];rw[ha,hc,hL,zke (zaz (λ_=>zqI _) _),zaX,zaX];rfl
def wk(d:Yd):Nat:=match d with
 |.mark _=>0
 |.hand _|.heed _|.aside _=>1
 |.run _ _ _ _=>2
 |.allow _=>5
section
variable{s:Ya}{d:Yd}{S:Env}
def wk0(d:Yd)(h2:S[2]?=some (.val (.str (ywd d))))(hb:decide (wk d=0)=b:=by rfl):EvT (orT (blW (binW eqD (vW 2) (kW (.str "mark")))) (blW (binW eqD (vW 2) (kW (.str "settle"))))) S b:=zak (zjI (is_w h2 (zfW d) ok_lit) λ_=>is_w h2 (zfW d) ok_lit) (by rw[<-hb];cases d<;>kernel_rfl)
def wk1(d:Yd)(h2:S[2]?=some (.val (.str (ywd d))))(hb:decide (wk d=1)=b:=by rfl):EvT (blW (binW (inXD false) (vW 2) (tupW (zaa (kW (.str "hand")) (zaa (kW (.str "heed")) (zaa (kW (.str "aside")) nilA)))))) S b:=zak (in3 h2 (zfW d)) (by rw[<-hb];cases d<;>kernel_rfl)
def wk2(d:Yd)(h2:S[2]?=some (.val (.str (ywd d))))(hb:decide (wk d=2)=b:=by rfl):EvT (blW (binW eqD (vW 2) (kW (.str "run")))) S b:=zak (is_w h2 (zfW d) ok_lit) (by rw[<-hb];cases d<;>kernel_rfl)
def wk3(d:Yd)(h2:S[2]?=some (.val (.str (ywd d))))(hb:decide (wk d=3)=b:=by rfl):EvT (blW (binW eqD (vW 2) (kW (.str "strike")))) S b:=zak (is_w h2 (zfW d) ok_lit) (by rw[<-hb];cases d<;>kernel_rfl)
def wk4(d:Yd)(h2:S[2]?=some (.val (.str (ywd d))))(hb:decide (wk d=4)=b:=by rfl):EvT (blW (binW eqD (vW 2) (kW (.str "mend")))) S b:=zak (is_w h2 (zfW d) ok_lit) (by rw[<-hb];cases d<;>kernel_rfl)
end
def d_at(hi:S[i]?=some (.val (yD d)))(h:(yargs d)[j]?=some y):Ev (binW ixXD (vW i) (kW (.int (j+1:Nat)))) S y:=zfz (t:=.str (ywd d)::yargs d) (k:=(j+1:Nat)) (ev_v hi) ev_k (zaH (j:=j+1) h)
def zup:WS:=dstW 0 (kW (.str "places")) (binW addD (ogW 0 (kW (.str "places"))) (valW (lstW (zaa (tupW (zaa (binW ixXD (vW 1) (kW (.int 1))) (zaa (binW addD (zgq 0 2 zaG (zaa (binW ixXD (vW 1) (kW (.int 1))) nilA)) (kW (.int 1))) nilA))) nilA))))
def zux:WS:=dc2W 3 (ogW 0 (kW (.str "heeded"))) (binW neD (vW 2) (kW (.str "aside"))) (binW ixXD (vW 1) (kW (.int 1))) (dstW 0 (kW (.str "heeded")) (vW 3))
section
variable{s:Ya}{d:Yd}
abbrev enM(t:Ya):En:={nx:=λ_=>(D.non).old=yMod t,rt:=λv=>v.old=yMod t,bk:=λ_=>False,ct:=λ_=>False}
abbrev SM(s:Ya)(d:Yd):Env:=[.dic MK (modA s d),.val (yD d),.val (.str (ywd d)),.un,.un,.un]
def zmQ(ok:Yok s)(hx:Tx x)(ha:yargs d=[.str x])(hd:∀y∈s.ds++[yD d],y.old=y):seqW zup (zkk 0) (enM {s with pl:=s.pl++[nxY s.pl x],ds:=s.ds++[yD d]}) (SM s d):=by
 have e1:∀{S:Env},S[1]?=some (.val (yD d))->Ev (binW ixXD (vW 1) (kW (.int 1))) S (.str x):=λh=>d_at (j:=0) h (by rw[ha];rfl);refine ziK (d:=.lst true (s.pl.map ySt++[ySt (nxY s.pl x)])) rfl rfl (by decide) (zbV (zn5 rfl mk1) (zaJ (zbs (zac (zb1 (zac (e1 rfl) (zac (zc9 (zkR rfl (zac (e1 rfl) zaj) (zfJ (n:=true) zky ok.p hx.ok) trivial) ev_k) zaj))) zaj))) (by rw[YAb];have:=ok.p.ln;show s.pl.length+1<=100000;omega)) ?_;rw[mq1,mp1];refine zic (t:={s with pl:=s.pl++[nxY s.pl x],ds:=s.ds++[yD d]}) ?_ rfl (zaO (zaz zfe _)) rfl rfl (zaO hd);rw[<-YBC (f:=ySt),<-YAC];exact zaO (zaz zbS _)
def ziF(ok:Yok s)(ha:yargs d=[.str x])(hb:(!decide (ywd d="aside"))=b)(hp:putKs (nmsY s) x=hs.map (·.1)/\putVs (nmsY s) (s.hs.map λp=>D.bl p.2) x (.bl b)=hs.map λp=>D.bl p.2)(hd:∀y∈s.ds++[yD d],y.old=y):seqW zux (zkk 0) (enM {s with sd:=sd,hs:=hs,ds:=s.ds++[yD d]}) (SM s d):=by
 have e1:∀{S:Env},S[1]?=some (.val (yD d))->Ev (binW ixXD (vW 1) (kW (.int 1))) S (.str x):=λh=>d_at (j:=0) h (by rw[ha];rfl);refine zuW (ks:=nmsY s) (xs:=s.hs.map λp=>.bl p.2) (v:=.bl b) (z:=x) (by show 3<6;decide) (zn5 rfl mk2) (by have:=ok.h.ln;show(s.hs.map (·.1)).length<1000;rw[YAb];omega) (zfc (zqr (ev_v rfl) ev_k (zfW d) ok_lit) (congrArg D.bl hb)) (e1 rfl) ?_;rw[hp.1,hp.2];refine ziK (d:=.fdc (hs.map (·.1)) (hs.map λp=>.bl p.2)) rfl rfl (by decide) (ev_v rfl) ?_;rw[mq2,mp2];exact zic (t:={s with sd:=sd,hs:=hs,ds:=s.ds++[yD d]}) (zaO (zaz zbS _)) rfl (zaO (zaz zfe _)) rfl rfl (zaO hd)
end
noncomputable def zuZ:WS:=seqW (zkD 0 (kW (.str "entered")) (kW (.int 1)))
  (seqW (asgW (.nm 4) (binW addD (tupW (zaa (ogW 0 (kW (.str "entered"))) (zaa (zgq 0 2 zaP (zaa (binW ixXD (vW 1) (kW (.int 1))) nilA)) (zaa (zgq 0 2 zaP (zaa (binW ixXD (vW 1) (kW (.int 2))) nilA)) nilA)))) (slXW (vW 1) (zdI (kW (.int 3))) noO)))
  (dstW 0 (kW (.str "rows")) (binW addD (ogW 0 (kW (.str "rows"))) (valW (lstW (zaa (vW 4) nilA))))))
def zvq:WS:=dstW 0 (kW (.str "rows")) (valW (zaF [none,some 1] (zbC (ogW 0 (kW (.str "rows")))) (.nm 0) (blW (binW neD (binW ixXD (vW 0) (kW (.int 0))) (binW ixXD (vW 1) (kW (.int 1))))) (vW 0)))
noncomputable def zvY:WS:=seqW (ownW 5 (lstW nilA))
  (seqW (forW (zbC (ogW 0 (kW (.str "rows")))) (.nm 4) (appW 5 (binW ixXD (valW (lstW (zaa (vW 4) (zaa (binW addD (slXW (vW 4) noO (zdI (kW (.int 3)))) (tupW (zaa (binW ixXD (vW 1) (kW (.int 2))) (zaa (binW ixXD (vW 4) (kW (.int 4))) nilA)))) nilA)))) (cbW zdB (zaa (binW eqD (binW ixXD (vW 4) (kW (.int 0))) (binW ixXD (vW 1) (kW (.int 1)))) nilA)))))
  (frzW 5 (dstW 0 (kW (.str "rows")) (vW 5))))
def ztk(ok:Yok s)(ha:Tx a)(hb:Tx b)(ca:0<cntY s.pl a)(cb:0<cntY s.pl b)(hd:∀y∈s.ds++[yD (.run a b r h)],y.old=y):seqW zuZ (zkk 0) (enM (zca s (.run a b r h))) (SM s (.run a b r h)):=by
 refine zr8 (i:=0) (S:=SM s (.run a b r h)) (ks:=MK) (xs:=modA s (.run a b r h)) (a:=s.en) (b:=1) rfl rfl (by decide) mk4 ev_k ?_;rw[mq4,mp4];show seqW _ _ _ [.dic MK [.lst false (s.pl.map ySt),.fdc (nmsY s) (s.hs.map λp=>.bl p.2),.lst false (s.rs.map yRow),.int (s.en+1),.int s.al,.lst true (s.ds++[yD (.run a b r h)])],.val (yD (.run a b r h)),.val (.str "run"),.un,.un,.un];have cut:cutD [D.str "run",.str a,.str b,.int r,.str h] (some 3) none=[.int r,.str h]:=by kernel_rfl
 have v1:Ev (vW 1) [.dic MK [.lst false (s.pl.map ySt),.fdc (nmsY s) (s.hs.map λp=>.bl p.2),.lst false (s.rs.map yRow),.int (s.en+1),.int s.al,.lst true (s.ds++[yD (.run a b r h)])],.val (yD (.run a b r h)),.val (.str "run"),.un,.un,.un] (.tup [.str "run",.str a,.str b,.int r,.str h]):=ev_v rfl;refine zaM (d:=yRow (newR s a b r h)) (zda (s:=[.int (s.en+1),.int (ixY s.pl a),.int (ixY s.pl b)]) (t:=[.int r,.str h]) (zb1 (zac (zn5 (i:=0) rfl mk4) (zac (zkR (i:=0) rfl (zac (zfz (k:=1) (d:=.str a) v1 ev_k (zaH (j:=1) rfl)) zaj) (zem zky ok.p ok.pt ha.ok ca) trivial) (zac (zkR (i:=0) rfl (zac (zfz (k:=2) (d:=.str b) v1 ev_k (zaH (j:=2) rfl)) zaj) (zem zky ok.p ok.pt hb.ok cb) trivial) zaj)))) (zfc (zlW v1 (zdu (ev_k (d:=.int 3))) zgf) (congrArg D.tup cut)) (by show 5<=100000;decide)) ?_;refine ziK (d:=.lst true (s.rs.map yRow++[yRow (newR s a b r h)])) rfl rfl (by decide) (zbV (zn5 rfl mk3) (zaJ (zbs (zac (ev_v rfl) zaj))) (by rw[YAb];have:=ok.rl;show s.rs.length+1<=100000;omega)) ?_;rw[mq3,mp3];refine zic (t:=zca s (.run a b r h)) (zaO (zaz zbS _)) rfl ?_ rfl rfl (zaO hd);rw[<-YBC (f:=yRow),<-YAC];exact zaO (zaz zfe _)
def zpr(ok:Yok s)(hx:Ytx d)(f:why s d=none):zcH [yMod s,yD d] (λv=>v.old=yMod (zca s d)):=by
 have hd:∀y∈s.ds++[yD d],y.old=y:=λy hy=>by
  rcases YAG.mp hy with z|z
  .exact(ok.dd y z).1
  .rw[YAw.mp z];exact zbD d
 refine w_in (za9 (n:=4) (zcY λy hy=>(ok.dd y hy).1) (zbD d)) ?_;refine zt1 (xs:=modL s) (ev_v rfl) ?_;refine ziK (ks:=MK) (xs:=modL s) (d:=.lst true (s.ds++[yD d])) rfl rfl (by decide) (zbV (zn5 rfl (m6 s)) (zaJ (zbs (zac (ev_v rfl) zaj))) (by have:=ok.dl;show s.ds.length+1<=100000;omega)) ?_;rw[mq6,show putVs MK (modL s) "deeds" (.lst true (s.ds++[yD d]))=_ from mp6];dsimp only;refine zaM (S:=[.dic MK (modA s d),.val (yD d),.un,.un,.un,.un]) (d:=.str (ywd d)) (d0 rfl) ?_;show seqW (ifS _ zup (ifS _ zux (ifS _ zuZ (ifS _ zvq (ifS _ zvY _))))) _ (enM (zca s d)) (SM s d);cases d with
 |mark x=>exact zaD (wk0 (.mark x) rfl) (zmQ ok hx rfl hd)
 |hand x=>exact zcC (wk0 (.hand x) rfl) (zaD (wk1 (.hand x) rfl) (ziF ok rfl (by kernel_rfl) (zqn (zd0 (zd0 (show zcN s x=none from f)).2).1) hd))
 |heed x=>exact zcC (wk0 (.heed x) rfl) (zaD (wk1 (.heed x) rfl) (ziF ok rfl (by kernel_rfl) (zk7 (YBo (zd0 (show zeJ s x=none from f)).1)) hd))
 |aside x=>exact zcC (wk0 (.aside x) rfl) (zaD (wk1 (.aside x) rfl) (ziF ok rfl (by kernel_rfl) (zk7 (YBo (zd0 (show zc3 s x=none from f)).1)) hd))
 |run a b r h=>
  have c:=(zd0 (show whyRun s a b r h=none from f)).1;exact zcC (wk0 (.run a b r h) rfl) (zcC (wk1 (.run a b r h) rfl) (zaD (wk2 (.run a b r h) rfl) (ztk ok hx.1 hx.2.1 (by omega) (by omega) hd)))
 |allow k=>
  refine zcC (wk0 (.allow k) rfl) (zcC (wk1 (.allow k) rfl) (zcC (wk2 (.allow k) rfl) (zcC (wk3 (.allow k) rfl) (zcC (wk4 (.allow k) rfl) ?_))));refine ziK (d:=.int k) rfl rfl (by decide) (d_at (j:=0) rfl rfl) ?_;rw[mq5,mp5];exact zic (t:=zca s (.allow k)) (zaO (zaz zbS _)) rfl (zaO (zaz zfe _)) rfl rfl (zaO hd)
end Fd
set_option maxHeartbeats 400000
namespace Fd
open PySem L2
def Wd(E:En)(o:Option Str):Prop:=E.rt (.str (o.getD ""))
section
variable{S:Env}{C A B V:WE}{T:WT}{R:WS}{E:En}{b:Bool}{s:Ya}{d:Yd}{x n:Str}{c:Prop}[Decidable c]{o:Option Str}
def zoK(h:Ev C S (.bl b)):Ev (binW ixXD (valW (lstW (zaa (kW (.str u)) (zaa (kW (.str v)) nilA)))) (cbW zdB (zaa C nilA))) S (.str (if b=true then v else u)):=by
 refine zdM (k:=if b then 1 else 0) (zaJ (zbs (zac ev_k (zac ev_k zaj)))) (zmk (zac h zaj) λP p=>p) ?_;cases b
 .exact zaH (j:=0) rfl
 .exact zaH (j:=1) rfl
def zc5(ev:EvT T S b)(hb:b=decide c)(hE:Wd E (if c then some n else o))(h:¬ c->Wd E o->R E S):seqW (ifS T (retW (kW (.str n))) nilS) R E S:=by
 subst hb;by_cases e:c
 .rw[if_pos e]at hE;exact zaD (zak ev (YAt e)) (za0 ev_k hE)
 .rw[if_neg e]at hE;exact zaT (zak ev (YAp e)) (h e hE)
def zeY(ev:Ev C S (.bl b))(hb:b=decide c)(hE:Wd E (if c then some n else none)):retW (binW ixXD (valW (lstW (zaa (kW (.str "")) (zaa (kW (.str n)) nilA)))) (cbW zdB (zaa C nilA))) E S:=by
 subst hb;refine za0 (zoK ev) ?_;by_cases e:c
 .rw[if_pos e]at hE;rw[if_pos (YAt e)];exact hE
 .rw[if_neg e]at hE;rw[if_neg (by simpa using e)];exact hE
def zi5(ev:Ev C S (.bl b))(hb:b = !decide c)(hE:Wd E (if c then some n else none)):retW (binW ixXD (valW (lstW (zaa (kW (.str n)) (zaa (kW (.str "")) nilA)))) (cbW zdB (zaa C nilA))) E S:=by
 subst hb;refine za0 (zoK ev) ?_;by_cases e:c
 .rw[if_pos e]at hE;rw[YAt e];exact hE
 .rw[if_neg e]at hE;rw[YAp e];exact hE
def zkM(h:Ev V S y)(q:E.rt y):seqW (retW V) R E S:=h _ q
def zkq{U V R:WS}{E:En}(h:seqW U V {E with nx:=R E} S):seqW (seqW U V) R E S:=h
def zsK(hA:Ev A S (.str z))(hB:Ev B S (.fdc ks xs)):EvT (inKW neg A B) S (neg != ks.contains z):=λP p=>hA _ (hB _ p)
def zsD(hA:Ev A S (.fdc ks xs)):Ev (zsb A) S (.int ks.length):=λP p=>hA _ p
def zia(ok:Yok s)(hx:okS x=true)(h0:S[0]?=some (.val (yMod s)))(hV:Ev V S (.str x)):Ev (zal 2 zaG (zaa (vW 0) (zaa V nilA))) S (.int (cntY s.pl x)):=zaK (zac (ev_v h0) (zac hV zaj)) (zfJ (zrs s) ok.p hx)
def zqd(h0:S[0]?=some (.val (yMod s)))(hV:Ev V S (.str x)):EvT (inKW neg V (binW zay (vW 0) (kW (.str "heeded")))) S (neg != decide (x∈nmsY s)):=zak (zsK hV (ev_m h0 (m2 s))) (by
 by_cases e:x∈nmsY s
 .rw[YAt e,YBT.mpr e]
 .rw[YAp e,show(nmsY s).contains x=false by rw[<-Bool.not_eq_true,YBT];exact e])
def nat0{k j:Nat}:decide ((k:Int)=(j:Int))=decide (k=j):=by
 by_cases e:k=j
 .subst e;simp
 .rw[YAp e,YAp (by omega)]
def zl3(hL:Ev L S (.int i))(hV:Ev V S (.int r))(hU:Ev U S (.int k)):Ev (zd9 leD leD L V U) S (.bl (decide (i<=r)&&decide (r<=k))):=λP p=>hL _ (hV _ (by
 show if decide (i<=r)=true then U S (λw=>leD (.int r) w P)else P (.bl false);by_cases e:i<=r
 .rw[YAt e]at p ⊢;exact hU _ p
 .rw[YAp e]at p ⊢;exact p))
def zuH(hL:Ev L S (.int (-1000000000)))(hV:Ev V S (.int r))(hU:Ev U S (.int 1000000000)):Ev (zd9 leD leD L V U) S (.bl (okR r)):=zl3 hL hV hU
def zjk{a b h:Str}{r:Int}(ok:Yok s)(ha:Tx a)(hb:Tx b):zbM [yMod s,yD (.run a b r h)] (·=.str ((whyRun s a b r h).getD "")):=by
 refine w_in (za9 (n:=5) (zcY λy hy=>(ok.dd y hy).1) (zbD _)) ?_;refine znT (x1:=.str "run") (x2:=.str a) (x3:=.str b) (x4:=.int r) (x5:=.str h) (ev_v rfl) ?_;show seqW _ _ _ [.val (yMod s),.val (yD (.run a b r h)),.val (.str "run"),.val (.str a),.val (.str b),.val (.int r),.val (.str h)];refine zc5 (zak (zjI (zaS (zeu (t:=0) (zia ok ha.ok rfl (ev_v rfl)) ev_k)) λ_=>zaS (zeu (t:=0) (zia ok hb.ok rfl (ev_v rfl)) ev_k)) rfl) (by rw[Bool.decide_or,<-nat0,<-nat0];rfl) (show Wd _ (whyRun s a b r h)from rfl) λ_ hE=>?_;refine zc5 (zaS (zew (ev_v rfl) (ev_v rfl) ha.ok hb.ok)) rfl hE λ_ hE=>?_;refine zc5 (zqd (x:=h) rfl (ev_v rfl)) (by simp) hE λ_ hE=>?_;refine zc5 (zhu (zaS (zuH (r:=r) (zsm ev_k λP p=>p) (ev_v rfl) ev_k))) (by cases okR r<;>rfl) hE λ_ hE=>?_;exact zeY (zeu (zcz (ev_m rfl (m3 s))) ev_k) (by rw[YAb];exact nat0 (j:=40)) hE
def zmP(hi:S[i]?=some (.val (yD d)))(hz:okS z=true):EvT (blW (binW eqD (binW ixXD (vW i) (kW (.int 0))) (kW (.str z)))) S (decide (ywd d=z)):=zaS (zew (d0 hi) ev_k (zfW d) hz)
def d1(h1:S[1]?=some (.val (yD d)))(hy:(yargs d)[0]?=some y):Ev (binW ixXD (vW 1) (kW (.int 1))) S y:=d_at (j:=0) h1 hy
def zjS(ok:Yok s)(hx:Tx x):zbm [yMod s,yD (.mark x)] (·=.str ((zc7 s x).getD "")):=by
 refine w_in (za9 (n:=0) (zcY λy hy=>(ok.dd y hy).1) (zbD _)) ?_;refine zc5 (zhu (zet (zaK (zac (d1 rfl rfl) zaj) (zjU x hx.ln)))) (by cases nameB x<;>rfl) (show Wd _ (zc7 s x)from rfl) λ_ hE=>?_;refine zaT (zak (zmP (d:=.mark x) (i:=1) rfl ok_lit) (show decide (("mark":Str)="hand")=false by decide +kernel)) ?_;refine zc5 (zaS (zoQ (zia ok hx.ok rfl (d1 rfl rfl)) ev_k)) (by by_cases e:0<cntY s.pl x<;>simp[e]) hE λ_ hE=>?_;exact zeY (zeu (zcz (ev_m rfl (m1 s))) ev_k) (by rw[YAb];exact nat0 (j:=12)) hE
def zje(ok:Yok s)(hx:Tx x):zbm [yMod s,yD (.hand x)] (·=.str ((zcN s x).getD "")):=by
 refine w_in (za9 (n:=0) (zcY λy hy=>(ok.dd y hy).1) (zbD _)) ?_;refine zc5 (zhu (zet (zaK (zac (d1 rfl rfl) zaj) (zjU x hx.ln)))) (by cases nameB x<;>rfl) (show Wd _ (zcN s x)from rfl) λ_ hE=>?_;refine zaD (zak (zmP (d:=.hand x) (i:=1) rfl ok_lit) (show decide (("hand":Str)="hand")=true by decide +kernel)) (zkq ?_);refine zc5 (zqd (x:=x) rfl (d1 rfl rfl)) (by simp) hE λ_ hE=>?_;exact zeY (zeu (zsD (ev_m rfl (m2 s))) ev_k) (by rw[YAb];exact nat0 (j:=10)) hE
def in2(h1:S[1]?=some (.val (yD d)))(hu:okS u=true)(hv:okS v=true):EvT (blW (binW (inXD false) (binW ixXD (vW 1) (kW (.int 0))) (tupW (zaa (kW (.str u)) (zaa (kW (.str v)) nilA))))) S (decide (ywd d∈[u,v])):=
 zaS (zfb (neg:=false) (hs:=[u,v]) (d0 h1) (zb1 (zac ev_k (zac ev_k zaj))) (zfW d) (by
  intro y hy;simp only[YAv,YAB,YB8]at hy;rcases hy with rfl|rfl<;>assumption))
def zhR(ok:Yok s)(hx:x∈nmsY s):zaR (nmsY s) (s.hs.map λp=>D.bl p.2) x=some (.bl (!decide (x∈s.sd))):=by
 have h:=ok.sh;show zaR (s.hs.map (·.1)) _ _=_;have hx:x∈s.hs.map (·.1):=hx;generalize s.hs=hs at h hx
 induction hs with
 |nil=>cases hx
 |cons p hs ih=>
  rw[YAm,YAm];unfold zaR;by_cases e:p.1=x
  .rw[if_pos e,<-e,h p YAg]
  .rw[if_neg e];rw[YAm]at hx;exact ih (λq hq=>h q (YAj _ hq)) ((YAv.mp hx).resolve_left λz=>e z.symm)
def zpa(ok:Yok s)(hx:Ytx d):zcI [yMod s,yD d] (·=.str ((why s d).getD "")):=by
 refine w_in (za9 (n:=0) (zcY λy hy=>(ok.dd y hy).1) (zbD d)) ?_;have er:=zmP (d:=d) (S:=[.val (yMod s),.val (yD d)]) (i:=1) (z:="run") rfl ok_lit;have e1:=in2 (d:=d) (S:=[.val (yMod s),.val (yD d)]) (u:="mark") (v:="hand") rfl ok_lit ok_lit;have e2:=zmP (d:=d) (S:=[.val (yMod s),.val (yD d)]) (i:=1) (z:="settle") rfl ok_lit;have e3:=in2 (d:=d) (S:=[.val (yMod s),.val (yD d)]) (u:="strike") (v:="mend") rfl ok_lit ok_lit;have e4:=zmP (d:=d) (S:=[.val (yMod s),.val (yD d)]) (i:=1) (z:="allow") rfl ok_lit;have e5:=zmP (d:=d) (S:=[.val (yMod s),.val (yD d)]) (i:=1) (z:="aside") rfl ok_lit;have em:=zew (d0 (d:=d) (S:=[.val (yMod s),.val (yD d)]) (i:=1) rfl) (ev_k (d:=.str "mend")) (zfW d) ok_lit;cases d with
 |run a b r h=>exact zaD (zak er (by kernel_rfl)) (zkM (zaK (zac (ev_v rfl) (zac (ev_v rfl) zaj)) (zjk ok hx.1 hx.2.1)) rfl)
 |mark x=>exact zaT (zak er (by kernel_rfl)) (zaD (zak e1 (by kernel_rfl)) (zkM (zaK (zac (ev_v rfl) (zac (ev_v rfl) zaj)) (zjS ok hx)) rfl))
 |hand x=>exact zaT (zak er (by kernel_rfl)) (zaD (zak e1 (by kernel_rfl)) (zkM (zaK (zac (ev_v rfl) (zac (ev_v rfl) zaj)) (zje ok hx)) rfl))
 |allow k=>
  refine zaT (zak er (by kernel_rfl)) (zaT (zak e1 (by kernel_rfl)) (zaT (zak e2 (by kernel_rfl)) (zaT (zak e3 (by kernel_rfl)) (zaD (zak e4 (by kernel_rfl)) ?_))));refine zi5 (zl3 (r:=k) ev_k (d1 (d:=.allow k) rfl rfl) ev_k) ?_ (show Wd _ (zcW k)from rfl);by_cases e:k<0\/3<k
  .rw[YAt e];rcases e with e|e
   .rw[YAp (by omega)];rfl
   .rw[YAp (show ¬ k<=3 by omega),Bool.and_false];rfl
  .rw[YAp e,YAt (by omega),YAt (by omega)];rfl
 |aside x=>
  refine zaT (zak er (by kernel_rfl)) (zaT (zak e1 (by kernel_rfl)) (zaT (zak e2 (by kernel_rfl)) (zaT (zak e3 (by kernel_rfl)) (zaT (zak e4 (by kernel_rfl)) ?_))));refine zc5 (zqd (x:=x) rfl (d1 rfl rfl)) (by simp) (show Wd _ (zc3 s x)from rfl) λi1 hE=>?_;refine zaD (zak e5 (by kernel_rfl)) ?_;exact zi5 (zpM (z:=x) (ev_m rfl (m2 s)) (d1 rfl rfl) (zhR ok (YBo i1))) rfl hE
 |heed x=>
  refine zaT (zak er (by kernel_rfl)) (zaT (zak e1 (by kernel_rfl)) (zaT (zak e2 (by kernel_rfl)) (zaT (zak e3 (by kernel_rfl)) (zaT (zak e4 (by kernel_rfl)) ?_))));refine zc5 (zqd (x:=x) rfl (d1 rfl rfl)) (by simp) (show Wd _ (zeJ s x)from rfl) λi1 hE=>?_;refine zaT (zak e5 (by kernel_rfl)) ?_;exact zeY (zpM (z:=x) (ev_m rfl (m2 s)) (d1 rfl rfl) (zhR ok (YBo i1))) (by rw[decide_not]) hE
end
end Fd
set_option maxHeartbeats 400000
namespace Fd
open PySem L2
def EvA(R:WOA)(S:Env)(qj:Sto)(ds:List D):Prop:=∀K:List D->Sto->Prop,K ds qj->R S qj K
def zjW:EvA nilO S qj []:=λK k=>k
def zdv{V:Sto->WE}{R:WOA}{S:Env}{qj:Sto}{d:D}{ds:List D}(h:Ev (V qj) S d)(hR:EvA R S qj ds):EvA (zaV (za1 V) R) S qj (d::ds):=λK k=>h _ (hR _ k)
def zts(h:EvT (C qj) S false)(q:B E qj S):seqF (ifF C U nilF) B E qj S:=h _ q
def zuT(h:EvT (C qj) S false)(q:B E qj S):ifF C U B E qj S:=h _ q
def zkd(h:EvT (C qj) S true)(q:U E qj S):ifF C U B E qj S:=h _ q
def zlr{A:Ads}{i n:Nat}{m:Str}{F:FnF}{y:Str->Sto->Prop}{R:WOA}{S:Env}{qj:Sto}{Q P:D->Sto->Prop}{qf:Str->Sto->Prop}{q:Addr}{ks bs us ds:List D}(hi:S[i]?=some (.val (.obj q)))(hS:qj q=some (fenO A ks bs us))(hm:NF m)(hR:EvA R S qj ds)(h:F (.obj q::ds) qj P qf)(k:∀d qi,P d qi->Q d qi)(l:∀n qi,qf n qi->y n qi)(hl:ds.length+1=n:=by rfl):zeN i A.fen m n F y R S qj Q:=by
 unfold zeN;rw[hi];exact⟨⟨_,hS,rfl,zqx hm⟩,hR _ ⟨hl,zhb h k l⟩⟩
def zox:NF "deed":=by decide +kernel
def zkX{i:Nat}{V:Sto->WE}{R:WF}{E:EnF}{qj:Sto}{S:Env}{d:D}(h:Ev (V qj) S d)(q:R E qj (S.set i (.val d))):seqF (zbJ λqj=>asgW (.nm i) (V qj)) R E qj S:=h _ (by unfold gD;exact q)
def zqO(h:why s d=some nm):nm∈NSx:=by
 unfold NSx;cases d<;>simp only[why,zcW,zc3,zcN,zeJ,zc7,whyRun]at h<;>(repeat' split at h)<;>cases h<;>simp
def zrt:∀nm∈NSx,okS nm=true/\decide (nm="")=false:=by decide +kernel
def fenB(A:Ads)(s:Ya)(d:Yd)(bs:List D):Ob:=fenO A (s.ds++[yD d]) (bs++[zav s]++[zav (zca s d)]) []
def zrC(s:Ya)(d:Yd):zax (zfR s d) 5=true:=by unfold zfR;split<;>rw[zax]
section
variable{A:Ads}{qj:Sto}{q:Addr}{s:Ya}{d:Yd}{nm:Str}{bs us:List D}{m:D}
def zlH(hm:m.old=yMod s)(hS:qj q=some (fenO A s.ds (bs++[zav s]) us))(ok:Yok s)(hx:Ytx d)(f:why s d=none)(hb:bs.length<=1000) :
  za6 A [.obj q,m,yD d] qj (λv qi=>v.old=yMod (zca s d)/\qi=upS qj q (fenB A s d bs)) (λ_ _=>False):=by
 refine zmh (S:=[.val (.obj q),.val (yMod s),.val (yD d)]) (by unfold zaI;simp[zbv,hm,zbD]) ?_;have hd:∀y∈s.ds,y.old=y:=λy hy=>(ok.dd y hy).1;show zeN 0 A.fen "deed" 2 (zb7 A) (λ_ _=>False) (zaV (za1 λqj=>vW 2) nilO) [.val (.obj q),.val (yMod s),.val (yD d)] qj _;refine zlr (ds:=[yD d]) (q:=q) rfl hS zox (zdv (ev_v rfl) zjW) (zlX hS ok hx hb) (λv qi h=>?_) λ_ _ z=>by rw[f]at z;cases z.1
 obtain⟨_,hv,rfl⟩:=h;have et:Ev (zal 2 zbn (zaa (vW 1) (zaa (vW 2) nilA))) [.val (.obj q),.val (yMod s),.val (yD d)] (zfR s d):=zaK (zac (ev_v rfl) (zac (ev_v rfl) zaj)) (zpV hd);refine et _ ⟨rfl,zd6 (zdX 5 v (zfR s d) (hv.trans (zqe s d).symm) (by rw[<-zei,hv];exact zrC s d)) λe z=>?_⟩;subst z;show retW (zal 2 zcH (zaa (vW 1) (zaa (vW 2) nilA))) _ [.val (.obj q),.val (yMod s),.val (yD d)];exact⟨rfl,zd6 (zpr ok hx f) λe z=>⟨z,rfl⟩⟩
def zn1(hS:qj q=some (fenO A s.ds (bs++[zav s]) us))(ok:Yok s)(hx:Ytx d)(f:why s d=some nm)(hb:bs.length<=1000) :
  zco A [.obj q,yD d] qj (λv qi=>v=.tup [.non,.lst true [.str nm]]/\qi=qj) (λ_ _=>False):=by
 refine zmh (za9 (n:=3) (zbv q) (zbD d)) ?_;refine zkX (V:=λ_=>kW .non) ev_k ?_;refine zkX (V:=λ_=>valW (lstW nilA)) (zaJ (zbs zaj)) ?_;show zo7 2 4 3 _ (kdN NSx) _ qj [.val (.obj q),.val (yD d),.val .non,.val (.lst true []),.un];refine⟨λn qi=>why s d=some n/\qi=qj,?_,λn qi z=>⟨.lst true [.str n],?_,?_⟩⟩
 .show zeN 0 A.fen "deed" 2 (zb7 A) _ (zaV (za1 λqj=>vW 1) nilO) [.val (.obj q),.val (yD d),.val .non,.val (.lst true []),.un] qj _;exact zlr (ds:=[yD d]) (q:=q) rfl hS zox (zdv (ev_v rfl) zjW) (zlX hS ok hx hb) (λv qi h=>by rw[f]at h;cases h.1) λ_ _ z=>z
 .unfold kdN;rw[if_pos (zqO z.1)]
 .obtain⟨z1,rfl⟩:=z;rw[f]at z1;cases z1;show retW (tupW (zaa (vW 2) (zaa (vW 3) nilA))) _ [.val (.obj q),.val (yD d),.val .non,.val (.lst true [.str nm]),.un];exact za0 (zb1 (zac (ev_v rfl) (zac (ev_v rfl) zaj))) ⟨rfl,rfl⟩
def zmF(hm:m.old=yMod s)(hS:qj q=some (fenO A s.ds (bs++[zav s]) us))(ok:Yok s)(hx:Ytx d)(hb:bs.length<=1000) :
  zbL A [.obj q,m,yD d] qj (λv qi=>(why s d=none/\v.old=yMod (zca s d)/\qi=upS qj q (fenB A s d bs))\/((why s d).isSome=true/\v.old=yMod s/\qi=qj)) (λ_ _=>False):=by
 refine zmh (S:=[.val (.obj q),.val (yMod s),.val (yD d),.un]) (by unfold zaI;simp[zbv,hm,zbD]) ?_;refine zkX (V:=λ_=>zal 2 zcI (zaa (vW 1) (zaa (vW 2) nilA))) (zaK (zac (ev_v rfl) (zac (ev_v rfl) zaj)) (zpa ok hx)) ?_;show seqF _ _ _ qj [.val (.obj q),.val (yMod s),.val (yD d),.val (.str ((why s d).getD ""))];have old:(yMod s).old=yMod s:=zcY λy hy=>(ok.dd y hy).1;cases hw:why s d with
 |none=>
  have e:EvT (blW (binW eqD (vW 3) (kW (.str "")))) [.val (.obj q),.val (yMod s),.val (yD d),.val (.str ((none:Option Str).getD ""))] true:=zak (zaS (zew (s:="") (ev_v rfl) ev_k ok_lit ok_lit)) (by decide +kernel);refine e _ ?_;show zeG 3 (za6 A) _ (zaV (za1 λqj=>vW 0) (zaV (za1 λqj=>vW 1) (zaV (za1 λqj=>vW 2) nilO))) [.val (.obj q),.val (yMod s),.val (yD d),.val (.str "")] qj _;exact⟨rfl,zhb (zlH old hS ok hx hw hb) (λv qi z=>.inl ⟨rfl,z.1,z.2⟩) λ_ _ z=>z⟩
 |some nm=>
  obtain⟨o1,o3⟩:=zrt nm (zqO hw);have e:EvT (blW (binW eqD (vW 3) (kW (.str "")))) [.val (.obj q),.val (yMod s),.val (yD d),.val (.str ((some nm).getD ""))] false:=zak (zaS (zew (s:=nm) (ev_v rfl) ev_k o1 ok_lit)) o3;refine zts (C:=λ_=>blW (binW eqD (vW 3) (kW (.str "")))) e ?_;show zeG 2 (zco A) (λ_ _=>False) (zaV (za1 λqj=>vW 0) (zaV (za1 λqj=>vW 2) nilO)) [.val (.obj q),.val (yMod s),.val (yD d),.val (.str nm)] qj _;refine⟨rfl,zhb (zn1 hS ok hx hw hb) (λv qi h=>?_) λ_ _ z=>z⟩;obtain⟨rfl,rfl⟩:=h;have et:Ev (tupW (zaa (kW .non) (zaa (valW (lstW (zaa (vW 3) nilA))) nilA))) [.val (.obj q),.val (yMod s),.val (yD d),.val (.str nm)] (.tup [.non,.lst true [.str nm]]):=zb1 (zac ev_k (zac (zaJ (zbs (zac (ev_v rfl) zaj))) zaj));refine zdv (V:=λ_=>tupW (zaa (kW .non) (zaa (valW (lstW (zaa (vW 3) nilA))) nilA))) et zjW _ ⟨rfl,zd6 (zdX 5 _ _ rfl (zlK (n:=4) ?_)) λe z=>?_⟩
  .simp only[YA0,YAB,YBL,YBS,YCY];exact⟨by rw[zax],ze8 (n:=3) (by simp[zcu o1]) (by simp)⟩
  .subst z;exact .inr ⟨rfl,old,rfl⟩
end
end Fd
set_option maxHeartbeats 400000
namespace Fd
open PySem L2
def zbu(ha:a.old=a):zaI (n+1) [a]=.val a::List.replicate n .un:=by
 unfold zaI;simp[ha]
def mksY(pl:List (Str×Nat)):List D:=pl.filterMap λp=>if decide (((p.2:Nat):Int)=1)then some (.str p.1)else none
def zsv(pl:List (Str×Nat)):∀y∈mksY pl,y.old=y:=λy hy=>by
 obtain⟨p,_,e⟩:=YBk.mp hy;split at e<;>cases e
 exact zaE _
def zht(hI:EvL I S (pl.map ySt))(hl:pl.length<=1000):EvL (zaF [none,none] I (.tp 2 (.cons (.nm 0) (.cons (.nm 1) .nil))) (blW (binW eqD (vW 1) (kW (.int 1)))) (vW 0)) S (mksY pl):=
 zdD (sub:=[none,none]) (t:=.tp 2 (.cons (.nm 0) (.cons (.nm 1) .nil))) (C:=blW (binW eqD (vW 1) (kW (.int 1)))) (E:=vW 0) ySt (λp=>if decide (((p.2:Nat):Int)=1)then some (.str p.1)else none) pl hI (by omega) λp _=>by
  have ev:∀{S:Env},S[1]?=some (.val (.int p.2))->EvT (blW (binW eqD (vW 1) (kW (.int 1)))) S (decide (((p.2:Nat):Int)=1)):=λh=>zaS (zeu (ev_v h) ev_k);cases e:decide (((p.2:Nat):Int)=1)with
  |true=>exact zsW (e▸ev rfl) (ev_v rfl)
  |false=>exact zqA (e▸ev rfl)
def zjC(hl:pl.length<=1000):zeo [.tup (pl.map ySt)] (·=.lst true (mksY pl)):=by
 refine w_in (zbu (n:=0) (zaW (zaz zbS _))) ?_;exact za0 (zaJ (zht (zjh (ev_v rfl)) hl)) rfl
theorem zkb{α:Type}{p:α->Bool}{g:α->D}:∀xs:List α,(xs.filterMap λx=>if p x then some (g x)else none)=(xs.filter p).map g
 |[]=>rfl
 |x::xs=>by
  rw[YAV,YC4];cases p x
  .exact zkb xs
  .exact congrArg (g x::·) (zkb xs)
def zhF{α:Type}{sub:List (Option Nat)}{I:WL}{C:WT}{S:Env}{emb:α->D}(p:α->Bool){ys:List α}(hI:EvL I S (ys.map emb))(hl:ys.length<=100000)(h:∀x∈ys,EvT C ((subE sub S).set 0 (.val (emb x))) (p x))(h0:0<(subE sub S).length:=by exact Nat.zero_lt_succ _):EvL (zaF sub I (.nm 0) C (vW 0)) S ((ys.filter p).map emb):=by
 have:=zdD (sub:=sub) (t:=.nm 0) (C:=C) (E:=vW 0) emb (λx=>if p x then some (emb x)else none) ys hI hl λx hx=>by
  have e:=h x hx;cases f:p x with
  |false=>exact zoX (zak e f)
  |true=>exact zih (zak e f) (ev_v (by simp[h0]))
 rw[zkb]at this;exact this
def asdY(s:Ya):List Str:=(nmsY s).filter λx=>decide (x∈s.sd)
def cntR(s:Ya):List Yr:=s.rs.filter λr=>!decide (r.h∈s.sd)
def dueL(s:Ya):List D:=[.lst false (mksY s.pl),.lst false ((nmsY s).map D.str),.lst false ((asdY s).map D.str),.lst false (s.pl.map ySt),.int s.al,.lst false (s.rs.map (yRun s.pl)),.lst false (((cntR s).map (·.n)).map D.int),.lst false s.ds]
section
variable{A:Ads}{qj:Sto}{q:Addr}{s:Ya}{bs us:List D}
def znh(hi:S[i]?=some (.val (.obj q)))(hS:qj q=some (fenO A s.ds (bs++[zav s]) us))(h:zaR BK (zbo s) z=some d):Ev (binW zay (zcj qj i A.fen "now" 1 (za3 A) (λ_ Q=>Q [])) (kW (.str z))) S d:=zkn (zlT hi hS) h
def hl10(ok:Yok s):(nmsY s).length<=10:=by rw[YAb];exact ok.h.ln
def zmj(hS:qj q=some (fenO A s.ds (bs++[zav s]) us))(ok:Yok s):zdC A qj [.obj q] (·=.lst true (mksY s.pl)):=by
 refine w_in (zbu (n:=0) (zbv q)) ?_;exact za0 (zaK (zac (znh rfl hS (b1 s)) zaj) (zjC (by have:=ok.p.ln;omega))) rfl
def zmc(hS:qj q=some (fenO A s.ds (bs++[zav s]) us)):zdp A qj [.obj q] (·=.lst true ((nmsY s).map D.str)):=by
 refine w_in (zbu (n:=0) (zbv q)) ?_;exact za0 (zaJ (zki (znh rfl hS (b2 s)))) rfl
def zkz(hS:qj q=some (fenO A s.ds (bs++[zav s]) us)):zcT A qj [.obj q] (·=.lst true (s.pl.map ySt)):=by
 refine w_in (zbu (n:=0) (zbv q)) ?_;exact za0 (zaJ (zki (znh rfl hS (b1 s)))) rfl
def zjo(hS:qj q=some (fenO A s.ds (bs++[zav s]) us)):zcv A qj [.obj q] (·=.int s.al):=by
 refine w_in (zbu (n:=0) (zbv q)) ?_;exact za0 (znh rfl hS (b6 s)) rfl
def zoe(hS:qj q=some (fenO A s.ds (bs++[zav s]) us)):zek A qj [.obj q] (·=.lst true (s.rs.map (yRun s.pl))):=by
 refine w_in (zbu (n:=0) (zbv q)) ?_;exact za0 (zaJ (zki (znh rfl hS (b4 s)))) rfl
def zku(hS:qj q=some (fenO A s.ds (bs++[zav s]) us))(ok:Yok s):zc1 A qj [.obj q] (·=.lst true ((asdY s).map D.str)):=by
 refine w_in (zbu (n:=1) (zbv q)) ?_;refine zaM (zlT rfl hS) ?_;exact za0 (zaJ (zhF (S:=[.val (.obj q),.val (zav s)]) (λx=>decide (x∈s.sd)) (zjh (ev_b rfl (b2 s))) (by have:=hl10 ok;omega) (λx hx=>zaS (zfb (neg:=false) (ev_v rfl) (ev_b (i:=1) rfl (b3 s)) (ok.h.okS x hx) ok.sok)))) rfl
def zpP(ok:Yok s):zbr [zav s] (·=.lst true ((cntR s).map (yRun s.pl))):=by
 refine w_in (zbu (n:=0) (zbl s)) ?_;exact za0 (zaJ (zhF (S:=[.val (zav s)]) (λr=>!decide (r.h∈s.sd)) (zjh (ev_b rfl (b4 s))) (by have:=ok.rl;omega) (λr hr=>zaS (zfb (neg:=true) (zfz (k:=6) (t:=[.int r.n,.str (plY s.pl r.a).1,.int (plY s.pl r.a).2,.str (plY s.pl r.b).1,.int (plY s.pl r.b).2,.int r.r,.str r.h]) (ev_v rfl) ev_k (zaH (j:=6) rfl)) (ev_b (i:=1) rfl (b3 s)) (ok.h.okS _ (ok.ra r hr).2.2) ok.sok)))) rfl
def zn7(ok:Yok s):(cntR s).length<=1000:=YAx (YCp _ _) (by have:=ok.rl;omega)
def ziq(hS:qj q=some (fenO A s.ds (bs++[zav s]) us))(ok:Yok s):zce A qj [.obj q] (·=.lst true (((cntR s).map (·.n)).map D.int)):=by
 refine w_in (zbu (n:=0) (zbv q)) ?_;exact za0 (zoL (emb:=yRun s.pl) (zeH (zaK (zac (zlT rfl hS) zaj) (zpP ok))) (zn7 ok) λr=>⟨_,rfl⟩) rfl
def zmM(hS:qj q=some (fenO A s.ds (bs++[zav s]) us))(ok:Yok s):zdz A qj [.obj q] (·=.lst true s.ds):=by
 refine w_in (zbu (n:=0) (zbv q)) ?_;refine⟨_,0,s.ds,hS,rfl,zlw,?_⟩;show D.lst true (s.ds.map D.old)=_;rw[zcB λx hx=>(ok.dd x hx).1]
def zqa:NF "marks":=by decide +kernel
def zpp:NF "hands":=by decide +kernel
def zno:NF "asides":=by decide +kernel
def znC:NF "stands":=by decide +kernel
def zmy:NF "allowed":=by decide +kernel
def zri:NF "runs":=by decide +kernel
def zkU:NF "counting":=by decide +kernel
def zpy:NF "deeds":=by decide +kernel
def zmX(ok:Yok s):[D.lst n1 (mksY s.pl),.lst n2 ((nmsY s).map D.str),.lst n3 ((asdY s).map D.str),.lst n4 (s.pl.map ySt),.int s.al,.lst n5 (s.rs.map (yRun s.pl)),.lst n6 (((cntR s).map (·.n)).map D.int),.lst n7 s.ds].map D.old=dueL s:=by
 simp only[YAm,YBd];rw[zaO (zsv _),zaO (zaz zaE _),zaO (zaz zaE _),zaO (zaz zbS _),zaX,zaO (zaz (zie _) _),zaO (zaz zaX _),zaO λx hx=>(ok.dd x hx).1];rfl
def zp1(hS:qj q=some (fenO A s.ds (bs++[zav s]) us))(ok:Yok s):zds A qj [.obj q] (λv=>v.old=.lst false (dueL s)):=by
 refine w_in (zbu (n:=1) (zbv q)) ?_;refine zaM (zaJ (zbs (zac (zcx rfl hS zqa (zmj hS ok)) (zac (zcx rfl hS zpp (zmc hS)) (zac (zcx rfl hS zno (zku hS ok)) (zac (zcx rfl hS znC (zkz hS)) (zac (zcx rfl hS zmy (zjo hS)) (zac (zcx rfl hS zri (zoe hS)) (zac (zcx rfl hS zkU (ziq hS ok)) zaj))))))))) ?_;refine za0 (zbV (ev_v rfl) (zaJ (zbs (zac (zcx rfl hS zpy (zmM hS ok)) zaj))) (by show 8<=100000;decide)) ?_;show(D.lst true _).old=_;rw[D.old];exact congrArg (D.lst false) (zmX ok)
def zpX{S:Env}{A:WE}{hs:List Str}{xs:List D}(h:Ev A S (.fdc hs xs)):EvL (zrM A) S (hs.map D.str):=λP p=>h _ p
def zf6{S:Env}{A:WE}{hs:List Str}{xs:List D}(h:Ev A S (.fdc hs xs))(hl:hs.length<=1000):EvL (zjx A) S (hs.map D.str):=λP p=>h _ ⟨hl,p⟩
def zn6(ok:Yok s):(yMod s).old=yMod s:=zcY λx hx=>(ok.dd x hx).1
def zfo(ok:Yok s):zbE [yMod s] (·=.lst true (mksY s.pl)):=by
 refine w_in (zbu (n:=0) (zn6 ok)) ?_;exact za0 (zaJ (zht (zeH (ev_m rfl (m1 s))) (by have:=ok.p.ln;omega))) rfl
def zkc(ok:Yok s):zcc [yMod s] (·=.lst true ((cntR s).map yRow)):=by
 refine w_in (zbu (n:=0) (zn6 ok)) ?_;exact za0 (zaJ (zhF (S:=[.val (yMod s)]) (λr=>!decide (r.h∈s.sd)) (zeH (ev_m rfl (m3 s))) (by have:=ok.rl;omega) (λr hr=>zet (zpM (ev_m (i:=1) rfl (m2 s)) (zfz (k:=4) (t:=[.int r.n,.int r.a,.int r.b,.int r.r,.str r.h]) (ev_v rfl) ev_k (zaH (j:=4) rfl)) (zhR ok (ok.ra r hr).2.2))))) rfl
def zqT{pl:List (Str×Nat)}{a:Nat}(ha:a<pl.length):atI (pl.map ySt) (a:Int)=some (ySt (plY pl a)):=zaH (by
 rw[YAu];unfold plY;rw[YAL,YAf ha];rfl)
def zrY(ok:Yok s):zej [yMod s] (λv=>v.old=.lst false (dueL s)):=by
 refine w_in (zbu (n:=4) (zn6 ok)) ?_;refine zaM (ev_m rfl (m1 s)) ?_;have hc:=zdD (sub:=[none,some 1]) (S:=[.val (yMod s),.val (.lst false (s.pl.map ySt)),.un,.un,.un]) (I:=zbC (binW zay (vW 0) (kW (.str "rows")))) (t:=.nm 0) (C:=noIf) (E:=binW addD (binW addD (binW addD (tupW (zaa (binW ixXD (vW 0) (kW (.int 0))) nilA)) (binW ixXD (vW 1) (binW ixXD (vW 0) (kW (.int 1))))) (binW ixXD (vW 1) (binW ixXD (vW 0) (kW (.int 2))))) (slXW (vW 0) (zdI (kW (.int 3))) noO)) yRow (λr=>some (yRun s.pl r)) s.rs (zeH (ev_m rfl (m3 s))) (by have:=ok.rl;omega) (λr hr=>by
  obtain⟨ha,hb,_⟩:=ok.ra r hr;have cut:cutD [D.int r.n,.int r.a,.int r.b,.int r.r,.str r.h] (some 3) none=[.int r.r,.str r.h]:=by kernel_rfl
  have v0:Ev (vW 0) ((subE [none,some 1] [.val (yMod s),.val (.lst false (s.pl.map ySt)),.un,.un,.un]).set 0 (.val (yRow r))) (.tup [.int r.n,.int r.a,.int r.b,.int r.r,.str r.h]):=ev_v rfl;have v1:Ev (vW 1) ((subE [none,some 1] [.val (yMod s),.val (.lst false (s.pl.map ySt)),.un,.un,.un]).set 0 (.val (yRow r))) (.lst false (s.pl.map ySt)):=ev_v rfl;have p1:=zb1 (zac (zfz (k:=0) v0 ev_k (zaH (j:=0) rfl)) zaj);have p2:=zdM (d:=.tup [.str (plY s.pl r.a).1,.int (plY s.pl r.a).2]) v1 (zfz (k:=1) (d:=.int r.a) v0 ev_k (zaH (j:=1) rfl)) (zqT ha);have p3:=zdM (d:=.tup [.str (plY s.pl r.b).1,.int (plY s.pl r.b).2]) v1 (zfz (k:=2) (d:=.int r.b) v0 ev_k (zaH (j:=2) rfl)) (zqT hb);have p4:=zfc (zlW v0 (zdu (ev_k (d:=.int 3))) zgf) (congrArg D.tup cut);exact zih zg1 (zda (zda (zda p1 p2 (by show 3<=100000;decide)) p3 (by show 5<=100000;decide)) p4 (by show 7<=100000;decide)))
 rw[zcd]at hc;refine zaM (zaJ hc) ?_;refine zaM (zaJ (zhF (S:=[.val (yMod s),.val (.lst false (s.pl.map ySt)),.val (.lst true (s.rs.map (yRun s.pl))),.un,.un]) (emb:=D.str) (λx=>decide (x∈s.sd)) (zpX (ev_m rfl (m2 s))) (by have:=hl10 ok;omega) (λx hx=>zak (zhu (zet (zpM (z:=x) (ev_m (i:=1) rfl (m2 s)) (ev_v rfl) (zhR ok hx)))) (Bool.not_not _)))) ?_;show seqW _ _ _ [.val (yMod s),.val (.lst false (s.pl.map ySt)),.val (.lst true (s.rs.map (yRun s.pl))),.val (.lst true ((asdY s).map D.str)),.un];refine zaM (zaJ (zbs (zac (zaK (zac (ev_v rfl) zaj) (zfo ok)) (zac (zaJ (zf6 (ev_m rfl (m2 s)) (by have:=hl10 ok;omega))) (zac (ev_v rfl) (zac (ev_v rfl) (zac (ev_m rfl (m5 s)) (zac (ev_v rfl) zaj)))))))) ?_;refine za0 (zbV (ev_v rfl) (zaJ (zbs (zac (zoL (emb:=yRow) (zeH (zaK (zac (ev_v rfl) zaj) (zkc ok))) (zn7 ok) λr=>⟨_,rfl⟩) (zac (ev_m rfl (m6 s)) zaj)))) (by show 8<=100000;decide)) ?_;show(D.lst true _).old=_;rw[D.old];exact congrArg (D.lst false) (zmX ok)
def ztb(ok:Yok s)(ha:a<s.pl.length):okS (plY s.pl a).1=true:=by
 unfold plY;rw[YAL,YAf ha];exact ok.p.okS _ (YBy ha)
def ztQ(ok:Yok s):zax (.lst false (dueL s)) 5=true:=by
 have hp:=ok.p.ln;have hh:=hl10 ok;have hd:=ok.dl;have hr:=ok.rl;have ha:(asdY s).length<=10:=YAx (YCp _ _) hh;unfold dueL;refine ze8 ?_ (by simp);simp only[YA0,YAB,YBL,YBS,YCY];refine⟨ze8 (λx hx=>?_) (YAx (YB0 _ _) (by omega)),ze8 (λx hx=>?_) (by rw[YAb];omega),ze8 (λx hx=>?_) (by rw[YAb];omega),ze8 (λx hx=>?_) (by rw[YAb];omega),zho,ze8 (λx hx=>?_) (by rw[YAb];omega),ze8 (λx hx=>?_) (by rw[YAb,YAb];exact zn7 ok),ze8 (λd hd=>(ok.dd d hd).2) (by omega)⟩
 .obtain⟨p,hp,e⟩:=YBk.mp hx;split at e<;>cases e
  exact zcu (ok.p.okS p hp)
 .obtain⟨y,hy,rfl⟩:=YAM.mp hx;exact zcu (ok.h.okS y hy)
 .obtain⟨y,hy,rfl⟩:=YAM.mp hx;exact zcu (ok.h.okS y (YBF.mp hy).1)
 .obtain⟨y,hy,rfl⟩:=YAM.mp hx;exact zlK (by simp[zcu (ok.p.okS y hy),zho])
 .obtain⟨r,hr,rfl⟩:=YAM.mp hx;obtain⟨ha,hb,hh⟩:=ok.ra r hr;exact zlK (by simp[zcu (ztb ok ha),zcu (ztb ok hb),zho,zcu (ok.h.okS _ hh)])
 .obtain⟨y,hy,rfl⟩:=YAM.mp hx;exact zho
def zm0(hm:m.old=yMod s)(hS:qj q=some (fenO A s.ds (bs++[zav s]) us))(ok:Yok s):zbI A qj [.obj q,m] (·=.bl true):=by
 refine w_in (S:=[.val (.obj q),.val (yMod s)]) (by unfold zaI;simp[zbv,hm]) ?_;refine⟨rfl,zd6 (zp1 hS ok) λv hv=>⟨rfl,zd6 (zrY ok) λw hw=>⟨rfl,zd6 (zdX 5 v w (hv.trans hw.symm) ?_) λe z=>z⟩⟩⟩;rw[<-zei,hv];exact ztQ ok
end
end Fd
set_option maxHeartbeats 400000
namespace Fd
open PySem L2
def zkI(x y:Str):(x++y).length=x.length+y.length:=by show(x.cps++y.cps).size=_;rw[Array.size_append];rfl
def zkN(hx:okS x=true)(hy:okS y=true):okS (x++y)=true:=ziN λch hc=>by
 rw[znD]at hc;exact(YAG.mp hc).elim (zhH hx ch) (zhH hy ch)
def Tx.name(h:nameB x=true):Tx x:=⟨zf3 h,zpi h⟩
def zvx(h:nameB x=true):x.length<=8:=by
 unfold nameB zjQ at h;rw[YAA,YAA]at h
 have:=YAD h.1.2
 omega
def tk(hb:S[b]?=some (.val .box))(hM:Ev M S (.int m))(h0:0<m)(h1:m<2^64)(k:∀x:Int,0<=x->x<m->Q (.int x)):zal 2 zaf (zaa (vW b) (zaa M nilA)) S Q:=(zac (ev_v hb) (zac hM zaj)) _ ⟨rfl,zef h0 h1 k⟩
def zuE{S:Env}{A B:WE}{b:Bool}{ns:List Str}{k:Nat}{y:Str}(hA:Ev A S (.lst b (ns.map D.str)))(hB:Ev B S (.int k))(h:ns[k]?=some y):Ev (binW ixXD A B) S (.str y):=zdM hA hB (zaH (by rw[YAu,h];rfl))
def zoC(hA:Ev A S (.str z))(hL:EvO L S l)(hU:EvO U S u)(h:z.length<=100000):Ev (slXW A L U) S (.str (cutS z l u)):=λP p=>hA _ (hL _ (hU _ ⟨h,p⟩))
def zpz(ok:Yok s):∃ms:List Str,mksY s.pl=ms.map D.str/\ms.length<=12/\∀y∈ms,Tx y:=by
 have h:=ok.p.okS;have hn:=ok.p.ok;have hl:=ok.p.ln;refine⟨s.pl.filterMap λp=>if decide (((p.2:Nat):Int)=1)then some p.1 else none,?_,YAx (YB0 _ _) hl,λy hy=>?_⟩
 .unfold mksY;rw[YCK];congr 1
  funext p
  split<;>rfl
 .obtain⟨p,hp,e⟩:=YBk.mp hy;split at e<;>cases e
  exact Tx.name (hn p hp)
def EvP(A:WE)(S:Env)(P:D->Prop):Prop:=∀Q:D->Prop,(∀d,P d->Q d)->A S Q
def EvLP(A:WL)(S:Env)(P:List D->Prop):Prop:=∀Q:List D->Prop,(∀d,P d->Q d)->A S Q
section
variable{S:Env}{A B V:WE}{R:WL}{P P' T:D->Prop}{PL TL:List D->Prop}{d:D}{i:Nat}{E:En}{U:WS}
def zdn(h:Ev A S d):EvP A S (·=d):=λQ q=>h Q (q d rfl)
def zdc(hA:EvP A S P)(hB:EvP B S P')(h:∀x y,P x->P' y->∀Q:D->Prop,(∀d,T d->Q d)->f x y Q):EvP (binW f A B) S T:=λQ q=>hA _ λx px=>hB _ λy py=>h x y px py Q q
def zps(hA:EvP A S P)(hR:EvLP R S PL)(h:∀d ds,P d->PL ds->TL (d::ds)):EvLP (zaa A R) S TL:=λQ q=>hA _ λd pd=>hR _ λds pds=>q _ (h d ds pd pds)
def zdw(hb:S[b]?=some (.val .box))(hM:Ev M S (.int m))(h0:0<m)(h1:m<2^64):EvP (zal 2 zaf (zaa (vW b) (zaa M nilA))) S (λd=>∃x:Int,d=.int x/\0<=x/\x<m):=λQ q=>tk hb hM h0 h1 λx a b=>q _ ⟨x,rfl,a,b⟩
def zk1(h:EvP V S P)(k:∀d,P d->U E (S.set i (.val d))):seqW (asgW (.nm i) V) U E S:=h _ λd p=>by unfold gD;exact k d p
def znG(h:EvP V S P)(k:∀d,P d->E.nx (S.set i (.val d))):asgW (.nm i) V E S:=h _ λd p=>by unfold gD;exact k d p
def zrB(h:EvLP R S PL)(hl:∀ds,PL ds->ds.length<=100000):EvP (valW (lstW R)) S (λd=>∃ds,d=.lst true ds/\PL ds):=λQ q=>h _ λds p=>⟨hl ds p,q _ ⟨ds,rfl,p⟩⟩
end
def zqQ{ns:List Str}{z:Int}(h0:0<=z)(h1:z<ns.length):∃y∈ns,atI (ns.map D.str) z=some (.str y):=by
 obtain⟨j,rfl⟩:=YAZ h0;have hj:j<ns.length:=by omega
 exact⟨ns[j],YBy hj,zaH (by rw[YAu,YAf hj];rfl)⟩
abbrev TxD(d:D):Prop:=∃y,d=.str y/\Tx y
def zo2(hb:S[b]?=some (.val .box))(hM:Ev M S (.int m))(h0:0<m)(h1:m<2^64)(k:∀x:Int,0<=x->x<m->R E (S.set i (.val (.int x)))):seqW (asgW (.nm i) (zal 2 zaf (zaa (vW b) (zaa M nilA)))) R E S:=tk hb hM h0 h1 λx z0 z1=>by unfold gD;exact k x z0 z1
def TxL(n:Nat)(ds:List D):Prop:=∃bs:List Str,ds=bs.map D.str/\bs.length=n/\∀y∈bs,Tx y
def txk{S:Env}{y:Str}(h:Tx y):EvP (kW (.str y)) S TxD:=λQ q=>q _ ⟨y,rfl,h⟩
def txl0{S:Env}:EvLP nilA S (TxL 0):=λQ q=>q _ ⟨[],rfl,rfl,by simp⟩
def txl{S:Env}{A:WE}{R:WL}{n:Nat}(hA:EvP A S TxD)(hR:EvLP R S (TxL n)):EvLP (zaa A R) S (TxL (n+1)):=zps hA hR (by
 rintro d ds ⟨y,rfl,ty⟩ ⟨bs,rfl,hb,tb⟩;exact⟨y::bs,rfl,by simp[hb],λz hz=>(YAv.mp hz).elim (λe=>e▸ty) (tb z)⟩)
def setY(d:Yd)(t:Nat)(y:D):D:=.tup (.str (ywd d)::(yargs d).set t y)
def bend(hx:Ytx d)(ht:t<(yargs d).length):(∃x,(yargs d)[t]?=some (.str x)/\∀y,Tx y->∃d',Ytx d'/\setY d t (.str y)=yD d')\/(∃i,(yargs d)[t]?=some (.int i)/\∀k,∃d',Ytx d'/\setY d t (.int k)=yD d'):=by
 cases d with
 |mark x=>match t,ht with|0,_=>exact .inl ⟨x,rfl,λy hy=>⟨.mark y,hy,rfl⟩⟩
 |hand x=>match t,ht with|0,_=>exact .inl ⟨x,rfl,λy hy=>⟨.hand y,hy,rfl⟩⟩
 |aside x=>match t,ht with|0,_=>exact .inl ⟨x,rfl,λy hy=>⟨.aside y,hy,rfl⟩⟩
 |heed x=>match t,ht with|0,_=>exact .inl ⟨x,rfl,λy hy=>⟨.heed y,hy,rfl⟩⟩
 |allow n=>match t,ht with|0,_=>exact .inr ⟨n,rfl,λk=>⟨.allow k,trivial,rfl⟩⟩
 |run a b r h=>match t,ht with
  |0,_=>exact .inl ⟨a,rfl,λy hy=>⟨.run y b r h,⟨hy,hx.2.1,hx.2.2⟩,rfl⟩⟩
  |1,_=>exact .inl ⟨b,rfl,λy hy=>⟨.run a y r h,⟨hx.1,hy,hx.2.2⟩,rfl⟩⟩
  |2,_=>exact .inr ⟨r,rfl,λk=>⟨.run a b k h,hx,rfl⟩⟩
  |3,_=>exact .inl ⟨h,rfl,λy hy=>⟨.run a b r y,⟨hx.1,hx.2.1,hy⟩,rfl⟩⟩
def zlh(d:Yd):0<(yargs d).length/\(yargs d).length<=4:=by cases d<;>exact⟨by simp[yargs],by simp[yargs]⟩
def zqN{α:Type}{xs:List α}{k:Nat}(h:k<=xs.length):cutD xs none (some (k:Int))=xs.take k:=by
 unfold cutD;rw[HT.sIx_nat];show List.take (min k xs.length-0) (xs.drop 0)=_;rw[YCG h];rfl
def zuB{α:Type}{xs:List α}{k:Nat}(h:k<=xs.length):cutD xs (some (k:Int)) none=xs.drop k:=by
 unfold cutD;rw[HT.sIx_nat,YCG h];show List.take (xs.length-k) (xs.drop k)=_;exact YCc (by simp)
def zlY(h3:S[3]?=some (.val (yD d)))(h4:S[4]?=some (.val (.int (1+(t:Int)))))(h7:S[7]?=some (.val y))(ht:t<(yargs d).length)(q:E.rt (setY d t y)):retW (binW addD (binW addD (slXW (vW 3) noO (zdI (vW 4))) (tupW (zaa (vW 7) nilA))) (slXW (vW 3) (zdI (binW addD (vW 4) (kW (.int 1)))) noO)) E S:=by
 have v3:Ev (vW 3) S (.tup (.str (ywd d)::yargs d)):=ev_v h3;have l4:=(zlh d).2;have e1:cutD (D.str (ywd d)::yargs d) none (some (1+(t:Int)))=.str (ywd d)::(yargs d).take t:=by
  rw[show(1+(t:Int))=((t+1:Nat):Int)from by omega,zqN (by rw[YAy];omega),List.take_succ_cons]
 have e2:cutD (D.str (ywd d)::yargs d) (some (1+(t:Int)+1)) none=(yargs d).drop (t+1):=by
  rw[show(1+(t:Int)+1)=((t+1+1:Nat):Int)from by omega,zuB (by rw[YAy];omega),List.drop_succ_cons]
 have a1:=zfc (zlW v3 zgf (zdu (ev_v h4))) (congrArg D.tup e1);have a2:=zfc (zlW v3 (zdu (zc9 (ev_v h4) (ev_k (d:=.int 1)))) zgf) (congrArg D.tup e2);have l1:((yargs d).take t).length<=4:=YAx (List.length_take_le' _ _) l4;have l2:((yargs d).drop (t+1)).length<=4:=YAx (by rw[YCt];exact Nat.sub_le _ _) l4;refine za0 (zda (zda a1 (zb1 (zac (ev_v h7) zaj)) (by rw[YAy];show _+1+1<=_;omega)) a2 (by rw[YAk,YAy];show _+1+1+_<=_;omega)) ?_;unfold setY at q;rw[List.set_eq_take_append_cons_drop,if_pos ht]at q
 simpa using q
def zrv{ns:List Int}{z:Int}(h0:0<=z)(h1:z<ns.length):∃y,atI (ns.map D.int) z=some (.int y):=by
 obtain⟨j,rfl⟩:=YAZ h0;have hj:j<ns.length:=by omega
 exact⟨ns[j],zaH (by rw[YAu,YAf hj];rfl)⟩
def zpU{s:Ya}{d:Yd}{m:D}{n:Bool}{pool:List Str}(ok:Yok s)(hx:Ytx d)(hm:m.old=yMod s)(hl:pool.length=16)(hn:∀y∈pool,nameB y=true):zbA [.box,m,.lst n (pool.map D.str),yD d] (λv=>∃d',v=yD d'/\Ytx d'):=by
 refine w_in (S:=[.val .box,.val (yMod s),.val (.lst false (pool.map D.str)),.val (yD d),.un,.un,.un,.un]) (by unfold zaI;simp[hm,zbD,zaO (zaz zaE pool)];rw[D.old]) ?_;obtain⟨al0,al4⟩:=zlh d;have ln:(((.str (ywd d)::yargs d:List D).length:Nat):Int)-1=((yargs d).length:Int):=by rw[YAy];omega
 refine zk1 (P:=λv=>∃t:Nat,v=.int (1+(t:Int))/\t<(yargs d).length) (zdc (zdn ev_k) (zdw (b:=0) rfl (zgB (zhd (t:=.str (ywd d)::yargs d) (ev_v rfl)) ev_k) (by rw[ln];omega) (by rw[ln];omega)) λa b ha hb Q q=>?_) λv hv=>?_
 .obtain⟨z,rfl,z0,z1⟩:=hb;subst ha;rw[ln]at z1;obtain⟨j,rfl⟩:=YAZ z0;exact q _ ⟨j,rfl,by omega⟩
 obtain⟨t,rfl,ht⟩:=hv;show seqW _ _ _ [.val .box,.val (yMod s),.val (.lst false (pool.map D.str)),.val (yD d),.val (.int (1+(t:Int))),.un,.un,.un];have ex:∀{y},(yargs d)[t]?=some y->Ev (binW ixXD (vW 3) (vW 4)) [.val .box,.val (yMod s),.val (.lst false (pool.map D.str)),.val (yD d),.val (.int (1+(t:Int))),.un,.un,.un] y:=λh=>zfz (t:=.str (ywd d)::yargs d) (k:=1+(t:Int)) (ev_v rfl) (ev_v rfl) (by rw[show(1+(t:Int))=((t+1:Nat):Int)from by omega];exact zaH h);obtain⟨p0,hp0⟩:∃p0,pool[0]?=some p0:=⟨pool[0],YAf (by omega)⟩;rcases bend hx ht with⟨x,hx1,hx2⟩|⟨i,hi1,hi2⟩
 .refine zaD (zet λP p=>ex hx1 _ p) (zkq ?_);have np:nameB p0=true:=hn p0 (YCu hp0);have l8:=zvx np;have op:=zf3 np;have ep:∀{S:Env},S[2]?=some (.val (.lst false (pool.map D.str)))->Ev (binW ixXD (vW 2) (kW (.int 0))) S (.str p0):=λh=>zuE (k:=0) (ev_v h) ev_k hp0;have c1:=zh0 p0 none (some 1);have c7:=zh0 p0 none (some 7);have c3:=zh0 p0 none (some 3);have good:∀u:Str,u.length<=64->(∀ch∈sg u,ch∈sg (cutS p0 none (some 1)))->Tx (p0++u):=λu h1 h2=>⟨zkN op (ziN λch hc=>zhH op ch (zlb (h2 ch hc))),by rw[zkI];omega⟩;have t3:Tx (cutS p0 none (some 7)++"A"):=⟨zkN (znf op _ _) ok_lit,by rw[zkI];show _+1<=_;omega⟩;have t4:Tx (cutS p0 none (some 3)++" a"):=⟨zkN (znf op _ _) ok_lit,by rw[zkI];show _+2<=_;omega⟩;have t1:Tx "":=⟨ok_lit,by decide +kernel⟩;have t5:Tx "1":=⟨ok_lit,by decide +kernel⟩;obtain⟨ms,em,lm,tm⟩:=zpz ok;have cu:∀{k:Int}{u:Str}{S:Env},S[2]?=some (.val (.lst false (pool.map D.str)))->Tx (cutS p0 none (some k)++u)->(cutS p0 none (some k)).length+u.length<=100000->EvP (binW addD (slXW (binW ixXD (vW 2) (kW (.int 0))) noO (zdI (kW (.int k)))) (kW (.str u))) S TxD:=λh ht hl Q q=>zoi (zoC (ep h) zgf (zdu ev_k) (by omega)) ev_k hl Q (q _ ⟨_,rfl,ht⟩);refine zk1 (zrB (PL:=TxL 5) (txl (txk t1) (txl (zdc (P:=(·=.str p0)) (P':=λd=>∃u:Str,d=.str u/\u.length<=64/\∀ch∈sg u,ch∈sg (cutS p0 none (some 1))) (zdn (ep rfl)) (λQ q=>zoC (ep rfl) zgf (zdu ev_k) (by omega) _ ⟨⟨by decide,by decide,by omega⟩,λu h1 h2=>q _ ⟨u,rfl,YAx h1 (by show 8*_<=64;omega),h2⟩⟩) λa b ha hb Q q=>?_) (txl (cu rfl t3 (by show _+1<=_;omega)) (txl (cu rfl t4 (by show _+2<=_;omega)) (txl (txk t5) txl0))))) λds ⟨bs,e,hb,_⟩=>by rw[e,YAb];omega) λd hd=>?_
  .obtain⟨u,rfl,h1,h2⟩:=hb;subst ha;exact⟨by omega,q _ ⟨_,rfl,good u h1 h2⟩⟩
  obtain⟨_,rfl,bs,rfl,hb,tb⟩:=hd;show seqW _ _ _ [.val .box,.val (yMod s),.val (.lst false (pool.map D.str)),.val (yD d),.val (.int (1+(t:Int))),.val (.lst true (bs.map D.str)),.un,.un];have hh:=hl10 ok;have hh2:=ok.h.ln;have tall:∀y∈pool++ms++nmsY s++bs,Tx y:=λy hy=>by
   simp only[YAG]at hy;rcases hy with((z|z)|z)|z
   .exact Tx.name (hn y z)
   .exact tm y z
   .exact Tx.name (ok.h.ok y z)
   .exact tb y z
  refine zaM (d:=.lst true ((pool++ms++nmsY s++bs).map D.str)) (by
   rw[YAC,YAC,YAC,<-em];refine zbV (zbV (zbV (ev_v rfl) (zaK (zac (ev_v rfl) zaj) (zfo ok)) ?_) (zaJ (zf6 (ev_m rfl (m2 s)) (by omega))) ?_) (ev_v rfl) ?_<;>simp only[YAk,YAb,em]<;>omega) ?_
  have hl2:((pool++ms++nmsY s++bs).map D.str).length=(pool++ms++nmsY s++bs).length:=YAb _;have hl3:16<=(pool++ms++nmsY s++bs).length/\(pool++ms++nmsY s++bs).length<=100:=by simp only[YAk,YAb];omega
  refine znG (P:=TxD) (zdc (zdn (ev_v (i:=6) rfl)) (zdw (b:=0) rfl (zcz (ev_v (i:=6) rfl)) (by rw[hl2];omega) (by rw[hl2];omega)) λa b ha hb Q q=>?_) λd hd=>?_
  .obtain⟨z,rfl,z0,z1⟩:=hb;subst ha;rw[hl2]at z1;obtain⟨y,hy,e⟩:=zqQ z0 z1;show(match atI ((pool++ms++nmsY s++bs).map D.str) z with|some d=>Q d|none=>False);rw[e];exact q _ ⟨y,rfl,tall y hy⟩
  .obtain⟨y,rfl,ty⟩:=hd;obtain⟨d',h1,h2⟩:=hx2 y ty;exact zlY (E:={nx:=λx=>∃d',D.non=yD d'/\Ytx d',rt:=λv=>∃d',v=yD d'/\Ytx d',bk:=λx=>False,ct:=λx=>False}) (S:=[.val .box,.val (yMod s),.val (.lst false (pool.map D.str)),.val (yD d),.val (.int (1+(t:Int))),.val (.lst true (bs.map D.str)),.val (.lst true ((pool++ms++nmsY s++bs).map D.str)),.val (.str y)]) rfl rfl rfl ht ⟨d',h2,h1⟩
 .refine zcC (zet λP p=>ex hi1 _ p) (zkq ?_);have neg:∀{S:Env}(i:Int),Ev (unW negD (kW (.int i))) S (.int (-i)):=λi=>zsm ev_k λP p=>p;have pw:∀{S:Env},Ev (binW powD (kW (.int 10)) (kW (.int 20))) S (.int (10^20)):=zbF ev_k ev_k λP p=>⟨⟨by decide,by decide,by decide⟩,p⟩;refine zaM (d:=.lst true (([0,-1,1,3,4,1000000000,1000000001,-1000000000,-1000000001,10^20,-10^20]:List Int).map D.int)) (zaJ (zbs (zac ev_k (zac (neg 1) (zac ev_k (zac ev_k (zac ev_k (zac ev_k (zac ev_k (zac (neg 1000000000) (zac (neg 1000000001) (zac pw (zac (zsm pw λP p=>p) zaj))))))))))))) ?_;generalize hns:([0,-1,1,3,4,1000000000,1000000001,-1000000000,-1000000001,10^20,-10^20]:List Int)=ns;have nl:ns.length=11:=by rw[<-hns];rfl
  have e6:Ev (vW 6) [.val .box,.val (yMod s),.val (.lst false (pool.map D.str)),.val (yD d),.val (.int (1+(t:Int))),.un,.val (.lst true (ns.map D.int)),.un] (.lst true (ns.map D.int)):=ev_v rfl;have ee:=ev_m (s:=s) (S:=[.val .box,.val (yMod s),.val (.lst false (pool.map D.str)),.val (yD d),.val (.int (1+(t:Int))),.un,.val (.lst true (ns.map D.int)),.un]) (i:=1) rfl (m4 s);have en:=zc9 (zfc (zcz e6) (by rw[YAb,nl])) (ev_k (d:=.int 2));refine znG (P:=λv=>∃k,v=.int k) (zdc (zdn (zbV e6 (zaJ (zbs (zac ee (zac (zc9 ee (ev_k (d:=.int 1))) zaj)))) (by rw[YAb,nl];show 13<=100000;decide))) (zdw (b:=0) (m:=13) rfl en (by decide) (by decide)) λa b ha hb Q q=>?_) λv hv=>?_
  .obtain⟨z,rfl,z0,z1⟩:=hb;subst ha;rw[show ns.map D.int++[.int s.en,.int (s.en+1)]=(ns++[s.en,s.en+1]).map D.int from by rw[YAC];rfl];obtain⟨y,e⟩:=zrv (ns:=ns++[s.en,s.en+1]) z0 (by rw[YAk,nl];exact z1);show(match atI ((ns++[s.en,s.en+1]).map D.int) z with|some d=>Q d|none=>False);rw[e];exact q _ ⟨y,rfl⟩
  .obtain⟨k,rfl⟩:=hv;obtain⟨d',h1,h2⟩:=hi2 k;exact zlY (E:={nx:=λx=>∃d',D.non=yD d'/\Ytx d',rt:=λv=>∃d',v=yD d'/\Ytx d',bk:=λx=>False,ct:=λx=>False}) (S:=[.val .box,.val (yMod s),.val (.lst false (pool.map D.str)),.val (yD d),.val (.int (1+(t:Int))),.un,.val (.lst true (ns.map D.int)),.val (.int k)]) rfl rfl rfl ht ⟨d',h2,h1⟩
end Fd
set_option maxHeartbeats 400000
namespace Fd
open PySem L2
def ztI(h0:0<=x)(h1:x<26):atI (sg LET) x=some (97+x.toNat):=by
 obtain⟨j,rfl⟩:=YAZ h0
 have:∀j<26,(sg LET)[j]?=some (97+j):=by decide +kernel
 exact zaH (this j (by omega))
def chS(ns:List Int):Str:=Str.join sE (ns.map λn=>⟨#[97+n.toNat]⟩)
def chS_sg(ns:List Int):sg (chS ns)=ns.map λn=>97+n.toNat:=by
 unfold chS;rw[show(ns.map λn=>(⟨#[97+n.toNat]⟩:Str))=(ns.map λn=>97+n.toNat).map λch=>⟨#[ch]⟩from by rw[YAN];rfl,zj1]
def zpw(h26:In26 ns)(h1:1<=ns.length)(h2:ns.length<=8):nameB (chS ns)=true:=by
 unfold chS;rw[show(ns.map λn=>(⟨#[97+n.toNat]⟩:Str))=(ns.map λn=>97+n.toNat).map λch=>⟨#[ch]⟩from by rw[YAN];rfl];refine zrH (by rw[YAb];exact h1) (by rw[YAb];exact h2) λch hc=>?_;obtain⟨n,hn,rfl⟩:=YAM.mp hc
 have:=h26 n hn
 exact(zm8 _).mpr (by omega)
def zto(hi:S[i]?=some (.val (.lst n (ns.map D.int))))(hj:S[j]?=some (.val (.str LET)))(h26:In26 ns)(h2:ns.length<=8)(q:Q (.str (chS ns))) :
  smW joF (kW (.str sE)) (valW (zaF [none,some j] (zbC (vW i)) (.nm 0) noIf (binW ixXD (vW 1) (vW 0)))) S Q:=by
 have e:(subE [none,some j] S)[1]?=some (.val (.str LET)):=by
  unfold subE;simp only[YAm,YBd,YAz,List.getElem?_cons_zero];rw[hj]
 have hc:=zdD (sub:=[none,some j]) (S:=S) (I:=zbC (vW i)) (t:=.nm 0) (C:=noIf) (E:=binW ixXD (vW 1) (vW 0)) D.int (λn=>some (.str ⟨#[97+n.toNat]⟩)) ns (zeH (ev_v hi)) (by omega) (λx hx=>zih zg1 (λP p=>by
  have e2:((subE [none,some j] S).set 0 (.val (.int x)))[1]?=some (.val (.str LET)):=by rw[YAl (by decide)];exact e
  refine zon e2 (zon (d:=.int x) (by unfold subE;rfl) ?_);have hl:(LET:Str).length=26:=by decide +kernel
  show _/\(match atI (sg LET) x with|some ch=>P (.str ⟨#[ch]⟩)|none=>False);rw[ztI (h26 x hx).1 (h26 x hx).2];exact⟨by rw[hl];decide,p⟩))
 rw[zcd]at hc;refine hc (λxs=>joF sE (.lst true xs) Q) ⟨ns.map λn:Int=>⟨#[97+n.toNat]⟩,by rw[YAN];rfl,λt ht=>?_,by rw[YAb];omega,by decide +kernel,q⟩;obtain⟨ch,_,rfl⟩:=YAM.mp ht;show 1<=2000;decide
def zkL{E:En}{m size k c:Int}{like:Bool}{fs ns:List Int}{rows:List Str}{pl:Nat}(hpl:pl<ns.length)(h8:ns.length<=8)(hf:fs[pl]?=some c)(n26:In26 ns)(hr:rows.length<1000)
  (q:∀x d,nameB x=true->(sg x)[pl]?=some (97+((c+11*k) % 26).toNat)->E.nx [.val .box,.val (.int m),.val (.str LET),.val (.int size),.val (.int pl),.val (.bl like),.val (.lst true (fs.map D.int)),.own ((rows++[x]).map D.str),.val (.int k),d]) :
  seqW (putW 9 (vW 4) (binW modD (binW addD (binW ixXD (vW 6) (vW 4)) (binW mulD (kW (.int 11)) (vW 8))) (kW (.int 26))))
   (frzW 9 (appW 7 (smW joF (kW (.str sE)) (valW (zaF [none,some 2] (zbC (vW 9)) (.nm 0) noIf (binW ixXD (vW 1) (vW 0))))))) E
   [.val .box,.val (.int m),.val (.str LET),.val (.int size),.val (.int pl),.val (.bl like),.val (.lst true (fs.map D.int)),.own (rows.map D.str),.val (.int k),.own (ns.map D.int)]:=by
 have hv:0<=(c+11*k) % 26/\(c+11*k) % 26<26:=⟨YBj _ (by decide),YA5 _ (by decide)⟩;have ea:Ev (binW modD (binW addD (binW ixXD (vW 6) (vW 4)) (binW mulD (kW (.int 11)) (vW 8))) (kW (.int 26))) [.val .box,.val (.int m),.val (.str LET),.val (.int size),.val (.int pl),.val (.bl like),.val (.lst true (fs.map D.int)),.own (rows.map D.str),.val (.int k),.own (ns.map D.int)] (.int ((c+11*k) % 26)):=zkG (zc9 (zdM (ev_v rfl) (ev_v rfl) (zaH (by rw[YAu,hf];rfl))) (zkZ ev_k (ev_v rfl) λP p=>⟨.inl ⟨by decide,by decide⟩,p⟩)) ev_k;refine ea _ ?_;have e:ixN (ns.map D.int).length (pl:Int)=some pl:=by
  unfold ixN;rw[YAb,if_pos (by omega),if_pos (by omega)];simp
 show(match ixN (ns.map D.int).length (pl:Int)with|some m=>_|none=>False);rw[e];have es:(ns.map D.int).set pl (.int ((c+11*k) % 26))=(ns.set pl ((c+11*k) % 26)).map D.int:=List.map_set.symm;show frzW 9 (appW 7 (smW joF (kW (.str sE)) (valW (zaF [none,some 2] (zbC (vW 9)) (.nm 0) noIf (binW ixXD (vW 1) (vW 0)))))) E [.val .box,.val (.int m),.val (.str LET),.val (.int size),.val (.int pl),.val (.bl like),.val (.lst true (fs.map D.int)),.own (rows.map D.str),.val (.int k),.own ((ns.map D.int).set pl (.int ((c+11*k) % 26)))];rw[es];have n26':In26 (ns.set pl ((c+11*k) % 26)):=λn hn=>by
  rcases List.mem_or_eq_of_mem_set hn with h|h
  .exact n26 n h
  .rw[h];exact hv
 show smW joF (kW (.str sE)) (valW (zaF [none,some 2] (zbC (vW 9)) (.nm 0) noIf (binW ixXD (vW 1) (vW 0)))) [.val .box,.val (.int m),.val (.str LET),.val (.int size),.val (.int pl),.val (.bl like),.val (.lst true (fs.map D.int)),.own (rows.map D.str),.val (.int k),.val (.lst true ((ns.set pl ((c+11*k) % 26)).map D.int))] _;refine zto (i:=9) (j:=2) rfl rfl n26' (by rw[YB3];omega) ⟨by rw[YAb];omega,?_⟩
 have:=q (chS (ns.set pl ((c+11*k) % 26))) (.val (.lst true ((ns.set pl ((c+11*k) % 26)).map D.int))) (zpw n26' (by rw[YB3];omega) (by rw[YB3];omega)) (by rw[chS_sg,YAu,YAi hpl];rfl)
 rw[YAC]at this;exact this
def Apart(c:Int)(pl:Nat)(rows:List Str):Prop:=∀(i:Nat) x,rows[i]?=some x->(sg x)[pl]?=some (97+((c+11*(i:Int)) % 26).toNat)
def Apart.nodup(h:Apart c pl rows)(hl:rows.length<=26):rows.Nodup:=by
 refine List.pairwise_iff_getElem.mpr λi j hi hj hij e=>?_;have h1:=h i _ (YAf hi);have h2:=h j _ (YAf hj);rw[e,h2]at h1
 have:=Option.some.inj h1
 omega
def zmo(m:Int)(m0:0<=m)(m1:m<=26):zci [.box,.int m] (λd=>∃ns:List Str,d=.lst true (ns.map D.str)/\(ns.length:Int)=m/\(∀x∈ns,nameB x=true)/\ns.Nodup):=by
 unfold zci fnW;rw[zoo .box (.int m) 8,zkJ,zaX];refine⟨rfl,zef (by decide) (by decide) λa a0 a1=>?_⟩;refine⟨rfl,zef (by omega) (by omega) λp p0 p1=>?_⟩;refine⟨rfl,zef (by decide) (by decide) λl l0 l1=>⟨zeh _ _,?_⟩⟩;generalize eqB (.int l) (.int 0)=like;refine⟨⟨by omega,by omega⟩,?_⟩;refine zqS (j:=0) (n:=(1+a).toNat) rfl (by omega) λfs fl f26=>?_;refine⟨YBI _,⟨by omega,by omega⟩,?_⟩;obtain⟨pl,rfl⟩:=YAZ p0;obtain⟨c,hc⟩:∃c,fs[pl]?=some c:=⟨_,YAf (by omega)⟩;refine zh5 (λrest S=>∃(rows:List Str)(s8 s9:Sl),S=[.val .box,.val (.int m),.val (.str LET),.val (.int (1+a)),.val (.int (pl:Int)),.val (.bl like),.val (.lst true (fs.map D.int)),.own (rows.map D.str),s8,s9]/\(rows.length+rest.length:Int)=m/\(∀x∈rows,nameB x=true)/\Apart c pl rows/\rest=rngL (rows.length:Int) rest.length) ?_ ?_ _ _ ⟨[],.un,.un,rfl,by rw[zbB];show((0:Nat):Int)+(m.toNat:Int)=m;omega,by simp,λi x h=>by simp at h,by rw[zbB];rfl⟩
 .rintro k rest S E' hn hcc hr hb ⟨rows,s8,s9,rfl,hl,hx,hap,hk⟩;rw[YAy,zm2]at hk;injection hk with hk1 hk2
  subst hk1;have h00:(0:Int)<=(D.int (rows.length:Int)::rest).length:=by omega
  have hl':(rows.length:Int)<1000:=by omega
  have fin:∀ns:List Int,pl<ns.length->ns.length<=8->In26 ns->seqW (putW 9 (vW 4) (binW modD (binW addD (binW ixXD (vW 6) (vW 4)) (binW mulD (kW (.int 11)) (vW 8))) (kW (.int 26))))
   (frzW 9 (appW 7 (smW joF (kW (.str sE)) (valW (zaF [none,some 2] (zbC (vW 9)) (.nm 0) noIf (binW ixXD (vW 1) (vW 0))))))) E'
   [.val .box,.val (.int m),.val (.str LET),.val (.int (1+a)),.val (.int (pl:Int)),.val (.bl like),.val (.lst true (fs.map D.int)),.own (rows.map D.str),.val (.int (rows.length:Int)),.own (ns.map D.int)]:=λns h1 h2 h3=>
   zkL h1 h2 hc h3 (by omega) λx d hxx hsx=>hn _ ⟨rows++[x],.val (.int (rows.length:Int)),d,rfl,by rw[YAk,YCn];rw[YAy]at hl;omega,λy hy=>(YAG.mp hy).elim (hx y) (λz=>by rw[YAw.mp z];exact hxx),λi y hy=>by
    by_cases hi:i<rows.length
    .rw[YA6 hi]at hy;exact hap i y hy
    .rw[YBu (by omega)]at hy;have e0:i-rows.length=0:=by
      cases hz:i-rows.length with
      |zero=>rfl
      |succ n=>rw[hz]at hy;simp at hy
     rw[e0]at hy;cases hy
     have:i=rows.length:=by omega
     rw[this];exact hsx,by rw[YAk,YCn];rw[show((rows.length+1:Nat):Int)=(rows.length:Int)+1 from by omega];exact hk2⟩
  cases like with
  |true=>exact fin fs (by omega) (by omega) f26
  |false=>
   refine⟨rfl,zef (by omega) (by omega) λt t0 t1=>⟨⟨by omega,by omega⟩,?_⟩⟩;exact zqS (j:=0) (n:=(((pl:Int)+1)+t).toNat) rfl (by omega) λns nl n26=>fin ns (by omega) (by omega) n26
 .rintro S ⟨rows,s8,s9,rfl,hl,hx,hap,hk⟩;have hl2:(rows.length:Int)=m:=by simpa using hl
  exact⟨rows,rfl,hl2,hx,hap.nodup (by omega)⟩
end Fd
set_option maxHeartbeats 400000
namespace Fd
open PySem L2
def mkN(pl:List (Str×Nat)):List Str:=pl.filterMap λp=>if decide (((p.2:Nat):Int)=1)then some p.1 else none
def zuO(pl:List (Str×Nat)):mksY pl=(mkN pl).map D.str:=by
 unfold mksY mkN;rw[YCK];congr 1
 funext p
 split<;>rfl
def zjf(h:x∈mkN pl):(x,1)∈pl:=by
 obtain⟨p,hp,e⟩:=YBk.mp h;split at e
 .rename_i e1
  cases e
  have:p.2=1:=by have:=YAD e1;omega
  rw[<-this];exact hp
 .cases e
def zhi(h:x∈mkN pl):0<cntY pl x:=cnt_pos.mpr (YAM.mpr ⟨_,zjf h,rfl⟩)
def zuM(h:pl.Nodup):(mkN pl).Nodup:=by
 induction pl with
 |nil=>exact YDd
 |cons p pl ih=>
  rw[YAP]at h;unfold mkN;rw[YAV];split
  .exact ih h.2
  .rename_i y e
   refine YAP.mpr ⟨λz=>?_,ih h.2⟩;split at e
   .rename_i e1
    cases e
    have:p.2=1:=by have:=YAD e1;omega
    exact h.1 (by have:=zjf z;rw[<- ‹p.2=1›]at this;exact this)
   .cases e
def zsZ(pl:List (Str×Nat)):(mkN pl).length<=pl.length:=YB0 _ _
def zt8{ms:List Str}(h:ms.Nodup){a b:Nat}{ha:a<ms.length}{hb:b<ms.length}(hab:a≠b):ms[a]≠ms[b]:=by
 have p:=List.pairwise_iff_getElem.mp h;rcases Nat.lt_or_gt_of_ne hab with z|z
 .exact p a b ha hb z
 .exact YAK (p b a hb ha z)
def nmZ(ms:List Str)(i:Nat):Str:=ms.getD i ""
def zis(ha:a<ms.length):nmZ ms a=ms[a]:=by unfold nmZ;rw[YAL,YAf ha];rfl
def zio{ms:List Str}{k:Int}(h0:0<=k)(h1:k<ms.length):atI (ms.map D.str) k=some (.str (nmZ ms k.toNat)):=by
 obtain⟨j,rfl⟩:=YAZ h0;have hj:j<ms.length:=by omega
 exact zaH (by rw[YAu,YAf hj];show _=some (D.str (nmZ ms j));rw[zis hj];rfl)
def zsj:eqB (.lst n xs) (.lst m [])=xs.isEmpty:=by
 cases xs with
 |nil=>rfl
 |cons x xs=>rfl
def zpc{n m:Bool}{hs:List Str}(h:∀y∈hs,okS y=true):eqOk (.lst n (hs.map D.str)) (.lst m []):=⟨by unfold layD;exact zhL h,by unfold layD;rw[zdP],by
 refine YAx (YCs _ _) ?_;show(toPy (.lst m [])).depth<=50;exact(by decide:1<=50)⟩
def ziQ(h0:0<=p)(h1:p<1000):zcl [.int p] (·=.int (p*p*3 % 17-p)):=by
 refine w_in (zbu (n:=0) (zaX p)) ?_;have e1:Ev (binW mulD (vW 0) (vW 0)) [.val (.int p)] (.int (p*p)):=zkZ (ev_v rfl) (ev_v rfl) λP q=>⟨.inl ⟨by omega,by omega⟩,q⟩;have e2:Ev (binW mulD (binW mulD (vW 0) (vW 0)) (kW (.int 3))) [.val (.int p)] (.int (p*p*3)):=zkZ e1 ev_k λP q=>⟨.inr ⟨by decide,by decide⟩,q⟩;exact za0 (zgB (zkG e2 ev_k) (ev_v rfl)) rfl
def zrO{b:Bool}{hs:List Int}{k:Int}{Q:D->Prop}(k0:0<=k)(k1:k<hs.length)(q:∀v∈hs,Q (.int v)):ixXD (.lst b (hs.map D.int)) (.int k) Q:=by
 obtain⟨j,rfl⟩:=YAZ k0;have hj:j<hs.length:=by omega
 show(match atI (hs.map D.int) (j:Int)with|some d=>Q d|none=>False);rw[zaH (j:=j) (by rw[YAu,YAf hj];rfl)];exact q _ (YBy hj)
def RunD(s:Ya)(v:D):Prop:=v=.non\/∃d,v=yD d/\Ytx d/\why s d=none/\isRun d=true
abbrev enR(s:Ya):En:={nx:=λ_=>RunD s .non,rt:=RunD s,bk:=λ_=>False,ct:=λ_=>False}
abbrev eR(s:Ya)(x5 x6 x7 x4:Sl):Env:=[.val .box,.val (yMod s),.val (.lst true ((mkN s.pl).map D.str)),.val (.lst true ((nmsY s).map D.str)),x4,x5,x6,x7]
section
variable{s:Ya}{x4:Sl}
def zlt(ok:Yok s){a b:Str}{r:Int}(ha:a∈mkN s.pl)(hb:b∈mkN s.pl)(hab:a≠b)(hr:okR r=true)(l1:1<=(nmsY s).length)(l4:s.rs.length<40):retW (tupW (zaa (kW (.str "run")) (zaa (vW 5) (zaa (vW 6) (zaa (vW 7) (zaa (binW ixXD (vW 3) (zal 2 zaf (zaa (vW 0) (zaa (cbW zbd (zaa (vW 3) nilA)) nilA)))) nilA)))))) (enR s) (eR s (.val (.str a)) (.val (.str b)) (.val (.int r)) x4):=by
 have lh:=hl10 ok;have tx:∀{x},x∈mkN s.pl->Tx x:=λh=>Tx.name (ok.p.ok _ (zjf h));show zal 2 zaf (zaa (vW 0) (zaa (cbW zbd (zaa (vW 3) nilA)) nilA)) (eR s (.val (.str a)) (.val (.str b)) (.val (.int r)) x4) _;refine tk rfl (zfc (zcz (ev_v rfl)) (by rw[YAb])) (by omega) (by omega) λk k0 k1=>?_;show(match atI ((nmsY s).map D.str) k with|some d=>(_/\_:Prop)|none=>False);rw[zio k0 k1];have hm:nmZ (nmsY s) k.toNat∈nmsY s:=by rw[zis (by omega)];exact YBy _
 refine⟨by show 5<=100000;decide,.inr ⟨.run a b r (nmZ (nmsY s) k.toNat),rfl,⟨tx ha,tx hb,Tx.name (ok.h.ok _ hm)⟩,?_,rfl⟩⟩;show whyRun s a b r _=none
 have:=zhi ha
 have:=zhi hb
 unfold whyRun;rw[if_neg (by omega),if_neg hab,if_neg λz=>z hm,if_neg (by rw[hr];decide),if_neg (by omega)]
def zlk(h1:-1000000000<=r)(h2:r<=1000000000):okR r=true:=by unfold okR;rw[YAt h1,YAt h2];rfl
def zo0(ok:Yok s){a b:Str}{r:Int}(ha:a∈mkN s.pl)(hb:b∈mkN s.pl)(hab:a≠b)(r0:-100<=r)(r1:r<=100)(l1:1<=(nmsY s).length)(l4:s.rs.length<40):seqW (ifS (blW (binW eqD (zal 2 zaf (zaa (vW 0) (zaa (kW (.int 4)) nilA))) (kW (.int 0)))) (asgW (.nm 7) (binW ixXD (valW (lstW (zaa (binW addD (vW 7) (kW (.int 1))) (zaa (binW subD (vW 7) (kW (.int 2))) (zaa (zal 2 zaf (zaa (vW 0) (zaa (kW (.int 1000000000)) nilA))) (zaa (unW negD (kW (.int 1000000000))) nilA)))))) (zal 2 zaf (zaa (vW 0) (zaa (kW (.int 4)) nilA))))) nilS)
  (retW (tupW (zaa (kW (.str "run")) (zaa (vW 5) (zaa (vW 6) (zaa (vW 7) (zaa (binW ixXD (vW 3) (zal 2 zaf (zaa (vW 0) (zaa (cbW zbd (zaa (vW 3) nilA)) nilA)))) nilA))))))) (enR s) (eR s (.val (.str a)) (.val (.str b)) (.val (.int r)) x4):=by
 show zal 2 zaf (zaa (vW 0) (zaa (kW (.int 4)) nilA)) (eR s (.val (.str a)) (.val (.str b)) (.val (.int r)) x4) _;refine tk rfl ev_k (by decide) (by decide) λx x0 x1=>?_;refine⟨zeh _ _,?_⟩;rw[zif];by_cases hx:x=0
 .rw[YAt hx];show zal 2 zaf (zaa (vW 0) (zaa (kW (.int 1000000000)) nilA)) (eR s (.val (.str a)) (.val (.str b)) (.val (.int r)) x4) _;refine tk rfl ev_k (by decide) (by decide) λy y0 y1=>?_;refine⟨by show 4<=100000;decide,?_⟩;show zal 2 zaf (zaa (vW 0) (zaa (kW (.int 4)) nilA)) (eR s (.val (.str a)) (.val (.str b)) (.val (.int r)) x4) _;refine tk rfl ev_k (by decide) (by decide) λk k0 k1=>?_;refine zrO (b:=true) (hs:=[r+1,r-2,y,-1000000000]) k0 k1 λv hv=>?_;unfold gD;simp only[YAv,YAB,YB8]at hv;exact zlt ok ha hb hab (zlk (by rcases hv with rfl|rfl|rfl|rfl<;>omega) (by rcases hv with rfl|rfl|rfl|rfl<;>omega)) l1 l4
 .rw[YAp hx];exact zlt ok ha hb hab (zlk (by omega) (by omega)) l1 l4
def zfO{m:D}(hm:m.old=yMod s)(ok:Yok s):za8 [.box,m] (RunD s):=by
 have hl:(mkN s.pl).length<=12:=YAx (zsZ _) ok.p.ln;have lh:=hl10 ok;refine w_in (S:=[.val .box,.val (yMod s),.un,.un,.un,.un,.un,.un]) (by unfold zaI;simp[zkJ,hm]) ?_;refine zaM (zfc (zaK (zac (ev_v rfl) zaj) (zfo ok)) (by rw[zuO])) ?_;refine zaM (zaJ (zf6 (ev_m rfl (m2 s)) (by omega))) ?_;show seqW _ _ (enR s) (eR s .un .un .un .un);have lm:∀{S:Env},S[2]?=some (.val (.lst true ((mkN s.pl).map D.str)))->Ev (cbW zbd (zaa (vW 2) nilA)) S (.int (mkN s.pl).length):=λh=>zfc (zcz (ev_v h)) (by rw[YAb]);have e1:=zaS (ztH (lm (S:=eR s .un .un .un .un) rfl) (ev_k (d:=.int 2)));have e2:EvT (blW (binW eqD (vW 3) (valW (lstW nilA)))) (eR s .un .un .un .un) ((nmsY s).map D.str).isEmpty:=zaS (zbF (ev_v rfl) (zaJ (zbs zaj)) λP p=>⟨zpc ok.h.okS,by rw[zsj];exact p⟩);have e3:=zaS (zmi (S:=eR s .un .un .un .un) (zcz (ev_m (i:=1) rfl (m3 s))) (ev_k (d:=.int 40)));cases hb:(decide (((mkN s.pl).length:Int)<2) || (((nmsY s).map D.str).isEmpty || decide ((40:Int)<=((s.rs.map yRow).length:Int))))with
 |true=>exact(zak (zjI e1 λ_=>zjI e2 λ_=>e3) hb) _ (.inl rfl)
 |false=>
  refine zaT (zak (zjI e1 λ_=>zjI e2 λ_=>e3) hb) ?_;rw[YCx,YCx]at hb;obtain⟨h1,h2,h3⟩:=hb;have l2:2<=(mkN s.pl).length:=by have:=of_decide_eq_false h1;omega
  have l1:1<=(nmsY s).length:=by
   cases e:nmsY s with
   |nil=>rw[e]at h2;cases h2
   |cons x xs=>simp
  have l4:s.rs.length<40:=by have:=of_decide_eq_false h3;rw[YAb]at this;omega
  refine zo2 rfl (lm rfl) (by omega) (by omega) λat_ a0 a1=>?_;show seqW _ _ (enR s) (eR s .un .un .un (.val (.int at_)));generalize x4e:Sl.val (D.int at_)=x4;have v4:Ev (vW 4) (eR s .un .un .un x4) (.int at_):=by rw[<-x4e];exact ev_v rfl
  have hA:Ev (binW ixXD (vW 2) (vW 4)) (eR s .un .un .un x4) (.str (nmZ (mkN s.pl) at_.toNat)):=zdM (ev_v rfl) v4 (zio a0 a1);have hB:EvP (binW ixXD (vW 2) (binW modD (binW addD (binW addD (vW 4) (kW (.int 1))) (zal 2 zaf (zaa (vW 0) (zaa (binW subD (cbW zbd (zaa (vW 2) nilA)) (kW (.int 1))) nilA)))) (cbW zbd (zaa (vW 2) nilA)))) (eR s .un .un .un x4) (λv=>∃ot:Int,v=.str (nmZ (mkN s.pl) ot.toNat)/\0<=ot/\ot<(mkN s.pl).length/\ot≠at_):=by
   refine zdc (zdn (ev_v rfl)) (zdc (P:=λv=>∃t:Int,v=.int (at_+1+t)/\0<=t/\t<(mkN s.pl).length-1) (zdc (zdn (zc9 v4 ev_k)) (zdw (b:=0) rfl (zgB (lm rfl) ev_k) (by omega) (by omega)) λa b ha hb Q q=>?_) (zdn (lm rfl)) (T:=λv=>∃ot:Int,v=.int ot/\0<=ot/\ot<(mkN s.pl).length/\ot≠at_) λa b ha hb Q q=>?_) λa b ha hb Q q=>?_
   .obtain⟨t,rfl,t0,t1⟩:=hb;subst ha;exact q _ ⟨t,rfl,t0,t1⟩
   .obtain⟨t,rfl,t0,t1⟩:=ha;subst hb;have hn:(0:Int)<((mkN s.pl).length:Int):=by omega
    refine⟨hn,q _ ⟨_,rfl,YBj _ (by omega),YA5 _ hn,?_⟩⟩;by_cases hh:at_+1+t<((mkN s.pl).length:Int)
    .rw[Int.emod_eq_of_lt (by omega) hh];omega
    .have:at_+1+t=(at_+1+t-((mkN s.pl).length:Int))+((mkN s.pl).length:Int)*1:=by omega
     rw[this,Int.add_mul_emod_self_left,Int.emod_eq_of_lt (by omega) (by omega)];omega
   .obtain⟨ot,rfl,o0,o1,o2⟩:=hb;subst ha;show(match atI ((mkN s.pl).map D.str) ot with|some d=>Q d|none=>False);rw[zio o0 o1];exact q _ ⟨ot,rfl,o0,o1,o2⟩
  refine hA _ (hB _ ?_);rintro v ⟨ot,rfl,o0,o1,o2⟩;have ma:nmZ (mkN s.pl) at_.toNat∈mkN s.pl:=by rw[zis (by omega)];exact YBy _
  have mb:nmZ (mkN s.pl) ot.toNat∈mkN s.pl:=by rw[zis (by omega)];exact YBy _
  have hab:nmZ (mkN s.pl) at_.toNat≠nmZ (mkN s.pl) ot.toNat:=by rw[zis (by omega),zis (by omega)];exact zt8 (zuM ok.pt.nd) (by omega)
  generalize nmZ (mkN s.pl) at_.toNat=a at ma hab;generalize nmZ (mkN s.pl) ot.toNat=b at mb hab;have lp:=ok.p.ln;have ia:=zmG ok.pt (zhi ma);have ib:=zmG ok.pt (zhi mb);have pl2:Ev (zal 2 zaP (zaa (vW 1) (zaa (vW 6) nilA))) (eR s (.val (.str a)) (.val (.str b)) .un x4) (.int (ixY s.pl b)):=zaK (zac (ev_v rfl) (zac (ev_v rfl) zaj)) (zem (zrs s) ok.p ok.pt (ok.p.okS _ (zjf mb)) (zhi mb));have pl1:Ev (zal 2 zaP (zaa (vW 1) (zaa (vW 5) nilA))) (eR s (.val (.str a)) (.val (.str b)) .un x4) (.int (ixY s.pl a)):=zaK (zac (ev_v rfl) (zac (ev_v rfl) zaj)) (zem (zrs s) ok.p ok.pt (ok.p.okS _ (zjf ma)) (zhi ma));refine zaM (S:=eR s (.val (.str a)) (.val (.str b)) .un x4) (zgB (zaK (zac pl2 zaj) (ziQ (by omega) (by omega))) (zaK (zac pl1 zaj) (ziQ (by omega) (by omega)))) ?_;refine zo0 ok ma mb hab ?_ ?_ l1 l4
  .generalize (ixY s.pl a:Int)*(ixY s.pl a:Int)*3=u;generalize (ixY s.pl b:Int)*(ixY s.pl b:Int)*3=v;omega
  .generalize (ixY s.pl a:Int)*(ixY s.pl a:Int)*3=u;generalize (ixY s.pl b:Int)*(ixY s.pl b:Int)*3=v;omega
end
end Fd
set_option maxHeartbeats 400000
namespace Fd
open PySem L2
def s00:Ya:=⟨[],[],[],[],0,0,[]⟩
theorem zea(I:List D->Sto->Env->Prop)
  (hs:∀x rest qj S (E':EnF),(∀qj S,I rest qj S->E'.nx qj S)->(∀qj S,I rest qj S->E'.ct qj S)->(∀qj d,E.rt qj d->E'.rt qj d)->(∀qj S,E.nx qj S->E'.bk qj S)->I (x::rest) qj S->gD t x S λS'=>B E' qj S') (hd:∀qj S,I [] qj S->E.nx qj S) :
  ∀(xs:List D)(qj:Sto)(S:Env),I xs qj S->zeI t B E xs qj S
 |[],qj,S,h=>hd qj S h
 |x::xs,qj,S,h=>hs x xs qj S {nx:=zeI t B E xs,ct:=zeI t B E xs,bk:=E.nx,rt:=E.rt} (zea I hs hd xs) (zea I hs hd xs) (λqj d z=>z) (λqj S z=>z) h
def zlS(hR:EvA R S qj ds)(h:F ds qj P qf)(k:∀d qi,P d qi->Q d qi)(l:∀n qi,qf n qi->y n qi)(hl:ds.length=n:=by rfl):zeG n F y R S qj Q:=hR _ ⟨hl,zhb h k l⟩
def zof:zbH [] (·=.dct true BK (zbo s00)):=by
 refine w_in (S:=[]) rfl ?_;exact⟨by decide,by decide,by decide,by decide,by decide,rfl⟩
def zny:zcZ [] (λv=>v.old=yMod s00):=by
 refine w_in (S:=[]) rfl ?_;refine⟨by decide,by decide,by decide,by decide,?_⟩;refine zqZ ?_;simp only[YAm,YBd];rw[zaO (by simp),zke (by simp),zaX];rfl
def zqp(hi:S[i]?=some (.val (.obj q)))(hF:EvL (F qj) S xs)(hS:qj q=some o)(hC:o.C=C)(hl:o.fs.length<100)(h:E.nx (upS qj q ⟨o.C,putO f (xs.map D.old) o.fs⟩) S):setO i f C F E qj S:=by
 unfold setO;rw[hi];exact hF _ ⟨o,hS,hC,hl,h⟩
def zpJ:zcb A [.obj a] (upS qj a ⟨A.fen,[]⟩) (λd qi=>d=.non/\qi=upS qj a (fenO A [] [zav s00] [])) (λ_ _=>False):=by
 refine zmh (zbu (n:=0) (zbv a)) ?_;refine⟨by decide,⟨A.fen,[]⟩,zbg,rfl,by show 0<100;decide,?_⟩;rw[zgN];have p1:putO "kept" ([].map D.old) ([]:List (Str×List D))=[(("kept":Str),[])]:=by kernel_rfl
 rw[p1];have eb:EvL (lstW (zaa (zal 0 zbH nilA) nilA)) [.val (.obj a)] [.dct true BK (zbo s00)]:=zbs (zac (zaK zaj zof) zaj);show seqF (setO 0 "books" A.fen λqj=>lstW (zaa (zal 0 zbH nilA) nilA)) _ _ _ [.val (.obj a)];refine zqp (q:=a) (o:=⟨A.fen,[("kept",[])]⟩) rfl eb zbg rfl (by show 1<100;decide) ?_;rw[zgN,YBC,zgT (zcQ s00)];have p2:putO "books" [D.dct false BK (zbo s00)] [(("kept":Str),([]:List D))]=[(("kept":Str),[]),("books",[D.dct false BK (zbo s00)])]:=by kernel_rfl
 rw[p2];show setO 0 "undone" A.fen (λqj=>lstW nilA) _ _ [.val (.obj a)];refine zqp (q:=a) (o:=⟨A.fen,[("kept",[]),("books",[D.dct false BK (zbo s00)])]⟩) rfl (zbs zaj) zbg rfl (by show 2<100;decide) ?_;rw[zgN];have p3:putO "undone" ([].map D.old) [(("kept":Str),([]:List D)),("books",[D.dct false BK (zbo s00)])]=[(("kept":Str),[]),("books",[D.dct false BK (zbo s00)]),("undone",[])]:=by kernel_rfl
 rw[p3];exact⟨rfl,rfl⟩
def zsl:Yok s00:=by constructor<;>first|(constructor<;>simp[s00,cntY,nmsY])|simp[s00]
def zhI(h:v.old=yMod s):isN v=false:=by
 cases v with
 |non=>rw[D.old]at h;cases h
 |_=>rfl
structure Yat(A:Ads)(qj:Sto)(q:Addr)(m:D)(s:Ya)(n:Nat):Prop where
 m:m.old=yMod s
 ok:Yok s
 dn:s.ds.length<=n
 ex:∃bs us,qj q=some (fenO A s.ds (bs++[zav s]) us)/\bs.length<=n
section
variable{A:Ads}{qj:Sto}{q:Addr}{m:D}{s:Ya}{d:Yd}{n i j k:Nat}{S:Env}{Q:D->Sto->Prop}
def Yat.le(z:Yat A qj q m s n)(h:n<=k):Yat A qj q m s k:=⟨z.m,z.ok,YAx z.dn h,z.ex.imp λbs h1=>h1.imp λus h2=>⟨h2.1,YAx h2.2 h⟩⟩
def Yat.next(z:Yat A qj q m s n)(hn:n<900)(hx:Ytx d)(f:why s d=none)(hb:bs.length<=n)(hv:v.old=yMod (zca s d)):Yat A (upS qj q (fenB A s d bs)) q v (zca s d) (n+1):=by
 have dn:=z.dn;refine⟨hv,zo3 z.ok hx f (by omega),?_,bs++[zav s],[],by rw[zbg];rfl,by rw[YAk];show bs.length+1<=n+1;omega⟩;show(s.ds++[_]).length<=n+1;rw[YAk];show s.ds.length+1<=n+1;omega
def Yat.judged(z:Yat A qj q m s n)(hn:n<900)(hx:Ytx d)(hi:S[i]?=some (.val (.obj q)))(hj:S[j]?=some (.val m))(hk:S[k]?=some (.val (yD d)))
  (h:∀v qi s',Yat A qi q v s' (n+1)->Q v qi):zeG 3 (zbL A) (λ_ _=>False) (zaV (za1 λqj=>vW i) (zaV (za1 λqj=>vW j) (zaV (za1 λqj=>vW k) nilO))) S qj Q:=by
 obtain⟨bs,us,hS,hb⟩:=z.ex;refine zlS (zdv (ev_v hi) (zdv (ev_v hj) (zdv (ev_v hk) zjW))) (zmF z.m hS z.ok hx (by omega)) (λv qi hv=>?_) λ_ _ z=>z;rcases hv with⟨h1,h2,rfl⟩|⟨_,h2,rfl⟩
 .exact h v _ _ (z.next hn hx h1 hb h2)
 .exact h v _ s ⟨h2,z.ok,YCV z.dn,bs,us,hS,YCV hb⟩
def Yat.step(z:Yat A qj q m s n)(hn:n<900)(hx:Ytx d)(f:why s d=none)(hi:S[i]?=some (.val (.obj q)))(hj:S[j]?=some (.val m))(hk:S[k]?=some (.val (yD d)))
  (h:∀v qi,Yat A qi q v (zca s d) (n+1)->Q v qi):zeG 3 (za6 A) (λ_ _=>False) (zaV (za1 λqj=>vW i) (zaV (za1 λqj=>vW j) (zaV (za1 λqj=>vW k) nilO))) S qj Q:=by
 obtain⟨bs,us,hS,hb⟩:=z.ex;refine zlS (zdv (ev_v hi) (zdv (ev_v hj) (zdv (ev_v hk) zjW))) (zlH z.m hS z.ok hx f (by omega)) (λv qi hv=>?_) λ_ _ z=>z;obtain⟨h1,rfl⟩:=hv;exact h v _ (z.next hn hx f hb h1)
end
def Fits:Ya->List Yd->Prop
 |_,[]=>True
 |s,d::r=>(why s d=none/\Ytx d)/\Fits (zca s d) r
theorem zhc{rest:List Yd}:∀(xs:List Str)(s:Ya),xs.Nodup->(∀x∈xs,nameB x=true/\cntY s.pl x=0)->s.pl.length+xs.length<=12->(∀s':Ya,s'.hs=s.hs->Fits s' rest)->Fits s (xs.map Yd.mark++rest)
 |[],s,_,_,_,k=>k s rfl
 |x::xs,s,hn,hx,hl,k=>by
  rw[YAP]at hn;rw[YAy]at hl;obtain⟨h1,h2⟩:=hx x YAg;refine⟨⟨?_,Tx.name h1⟩,zhc xs _ hn.2 (λy hy=>⟨(hx y (YAj _ hy)).1,?_⟩) ?_ λs' h=>k s' h⟩
  .show zc7 s x=none;unfold zc7;rw[if_neg (by rw[h1];decide),if_neg (by omega),if_neg (by omega)]
  .show cntY (s.pl++[nxY s.pl x]) y=0;rw[zhJ,(hx y (YAj _ hy)).2,if_neg (show ¬ x=y from λz=>hn.1 (z▸hy))]
  .show(s.pl++[_]).length+xs.length<=12;rw[YAk];show s.pl.length+1+xs.length<=12;omega
theorem zhw{rest:List Yd}:∀(xs:List Str)(s:Ya),xs.Nodup->(∀x∈xs,nameB x=true/\x∉nmsY s)->s.hs.length+xs.length<=10->(∀s':Ya,Fits s' rest)->Fits s (xs.map Yd.hand++rest)
 |[],s,_,_,_,k=>k s
 |x::xs,s,hn,hx,hl,k=>by
  rw[YAP]at hn;rw[YAy]at hl;obtain⟨h1,h2⟩:=hx x YAg;refine⟨⟨?_,Tx.name h1⟩,zhw xs _ hn.2 (λy hy=>⟨(hx y (YAj _ hy)).1,λz=>?_⟩) ?_ k⟩
  .show zcN s x=none;unfold zcN;rw[if_neg (by rw[h1];decide),if_neg h2,if_neg (by omega)]
  .have z:y∈(s.hs++[(x,true)]).map (·.1):=z;rw[YAC]at z;rcases YAG.mp z with z|z
   .exact(hx y (YAj _ hy)).2 z
   .rw[YAw.mp z]at hy;exact hn.1 hy
  .show(s.hs++[_]).length+xs.length<=10;rw[YAk];show s.hs.length+1+xs.length<=10;omega
def zuI{ns:List Str}{k:Nat}(h:k<ns.length):atI (ns.map D.str) (k:Int)=some (.str (nmZ ns k)):=by
 have:=zio (ms:=ns) (k:=(k:Int)) (by omega) (by omega)
 rw[YBG]at this;exact this
def zqE(h:k<ns.length):nmZ ns k∈ns:=by rw[zis h];exact YBy h
theorem zh3{ns:List Str}(hn:ns.Nodup){f:Nat->Nat}:∀{l:List Nat},l.Nodup->(∀k∈l,f k<ns.length)->(∀a∈l,∀b∈l,f a=f b->a=b)->(l.map λk=>nmZ ns (f k)).Nodup
 |[],_,_,_=>by simp
 |k::l,h1,h2,h3=>by
  rw[YAP]at h1;rw[YAm,YAP];refine⟨λm=>?_,zh3 hn h1.2 (λj hj=>h2 j (YAj _ hj)) λa ha b hb=>h3 a (YAj _ ha) b (YAj _ hb)⟩;obtain⟨j,hj,e⟩:=YAM.mp m;have e:nmZ ns (f j)=nmZ ns (f k):=e;have fj:=h2 j (YAj _ hj);have fk:=h2 k YAg;rw[zis fj,zis fk]at e;by_cases z:f j=f k
  .exact h1.1 (h3 j (YAj _ hj) k YAg z▸hj)
  .exact zt8 hn z e
def yBeg(ns:List Str)(n1 n2:Nat)(k:Int):List Yd:=((List.range n1).map λk=>nmZ ns k).map Yd.mark++(((List.range n2).map λk=>nmZ ns (15-k)).map Yd.hand++[.allow k])
def zr0(ns:List Str)(n1 n2:Nat)(k:Int):(yBeg ns n1 n2 k).map yD=(((List.range n1).map λk=>D.tup [.str "mark",.str (nmZ ns k)])++((List.range n2).map λk=>D.tup [.str "hand",.str (nmZ ns (15-k))]))++[.tup [.str "allow",.int k]]:=by
 unfold yBeg;rw[YAC,YAC,YAN,YAN,YAN,YAN,YCg];rfl
def zpx{ns:List Str}{n1 n2:Nat}{k:Int}(hl:ns.length=16)(hn:ns.Nodup)(ho:∀x∈ns,nameB x=true)(h1:n1<=5)(h2:n2<=4)(k0:0<=k)(k3:k<=3):Fits s00 (yBeg ns n1 n2 k):=by
 have lt:∀{n j:Nat},j∈List.range n->j<n:=λh=>YCj.mp h;unfold yBeg;refine zhc _ s00 (zh3 hn (f:=λk=>k) List.nodup_range (λj hj=>by have:=lt hj;omega) λa _ b _ e=>e) (λx hx=>?_) (by rw[YAb,YA9];show 0+n1<=12;omega) λs' hs=>?_
 .obtain⟨j,hj,rfl⟩:=YAM.mp hx
  have:=lt hj
  exact⟨ho _ (zqE (by omega)),by simp[s00,cntY]⟩
 .have hs:s'.hs=[]:=hs;refine zhw _ s' (zh3 hn (f:=λk=>15-k) List.nodup_range (λj hj=>by omega) λa ha b hb e=>?_) (λx hx=>?_) (by rw[YAb,YA9,hs];show 0+n2<=10;omega) λs2=>⟨⟨by show zcW k=none;unfold zcW;rw[if_neg (by omega)],trivial⟩,trivial⟩
  .have:=lt ha;have:=lt hb
   have e:15-a=15-b:=e;omega
  .obtain⟨j,hj,rfl⟩:=YAM.mp hx;exact⟨ho _ (zqE (by omega)),by show _∉s'.hs.map (·.1);rw[hs];simp⟩
def znp{A:Ads}{qj:Sto}{M N R:Int}(hM:0<M/\M<=5)(hN:0<N/\N<=4)(hR:0<=R/\R<=40):zc0 A [.box,.int M,.int N,.int R] qj (λv qi=>∃(q:Addr)(m:D)(ns:List Str)(s:Ya),v=.tup [.obj q,m,.lst true (ns.map D.str)]/\Yat A qi q m s 60/\ns.length=16/\(∀x∈ns,nameB x=true)/\ns.Nodup) (λ_ _=>False):=by
 refine zmh (S:=[.val .box,.val (.int M),.val (.int N),.val (.int R),.un,.un,.un,.un,.un,.un]) (by unfold zaI;simp[zkJ,zaX]) ?_;refine⟨rfl,zd6 (zmo 16 (by decide) (by decide)) λd hd=>?_⟩;obtain⟨ns,rfl,nl,nok,nd⟩:=hd;unfold gD;intro q hq;refine zhb zpJ (λd qi h=>?_) λ_ _ z=>z;obtain⟨rfl,rfl⟩:=h;refine⟨rfl,?_⟩;unfold gD;refine⟨rfl,zd6 zny λm0 hm0=>?_⟩;unfold gD;show zal 2 zaf (zaa (vW 0) (zaa (vW 1) nilA)) [.val .box,.val (.int M),.val (.int N),.val (.int R),.val (.lst true (ns.map D.str)),.val (.obj q),.val m0,.un,.un,.un] _;refine tk rfl (ev_v rfl) (by omega) (by omega) λt1 a0 a1=>?_;refine⟨⟨by omega,by omega⟩,by rw[zbB];omega,?_⟩;rw[ziu];refine zdf (λk:Nat=>D.int (k:Int)) (λk=>D.tup [.str "mark",.str (nmZ ns k)]) (List.range (1+t1).toNat) (λk hk=>zih zg1 (zb1 (zac ev_k (zac (zdM (ev_v rfl) (ev_v rfl) (zuI (by have:=YCj.mp hk;omega))) zaj)))) ?_;show zal 2 zaf (zaa (vW 0) (zaa (vW 2) nilA)) [.val .box,.val (.int M),.val (.int N),.val (.int R),.val (.lst true (ns.map D.str)),.val (.obj q),.val m0,.val (.lst true ((List.range (1+t1).toNat).map λk=>D.tup [.str "mark",.str (nmZ ns k)])),.un,.un] _;refine tk rfl (ev_v rfl) (by omega) (by omega) λt2 b0 b1=>?_;refine⟨⟨by omega,by omega⟩,by rw[zbB];omega,?_⟩;rw[ziu];refine zdf (λk:Nat=>D.int (k:Int)) (λk=>D.tup [.str "hand",.str (nmZ ns (15-k))]) (List.range (1+t2).toNat) (λk hk=>zih zg1 (zb1 (zac ev_k (zac (zdM (ev_v rfl) (zgB ev_k (ev_v rfl)) (by
  have:=YCj.mp hk
  rw[show(15:Int)-(k:Int)=((15-k:Nat):Int)from by omega];exact zuI (by omega))) zaj)))) ?_
 refine⟨by rw[YAb,YAb,YA9,YA9];omega,?_⟩;show zal 2 zaf (zaa (vW 0) (zaa (kW (.int 4)) nilA)) [.val .box,.val (.int M),.val (.int N),.val (.int R),.val (.lst true (ns.map D.str)),.val (.obj q),.val m0,.own (((List.range (1+t1).toNat).map λk=>D.tup [.str "mark",.str (nmZ ns k)])++((List.range (1+t2).toNat).map λk=>D.tup [.str "hand",.str (nmZ ns (15-k))])),.un,.un] _;refine tk rfl ev_k (by decide) (by decide) λt3 c0 c1=>?_;refine⟨by show 2<=100000;decide,by rw[YAk,YAb,YAb,YA9,YA9];omega,?_⟩;rw[<-zr0];have hf:=zpx (n1:=(1+t1).toNat) (n2:=(1+t2).toNat) (k:=t3) (by omega) nd nok (by omega) (by omega) c0 (by omega);have hz:(yBeg ns (1+t1).toNat (1+t2).toNat t3).length<=10:=by
  unfold yBeg;rw[YAk,YAk,YAb,YAb,YAb,YAb,YA9,YA9];show _+(_+1)<=10;omega
 generalize yBeg ns (1+t1).toNat (1+t2).toNat t3=zs at hf hz;show zeI (.nm 8) _ _ (zs.map yD) _ [.val .box,.val (.int M),.val (.int N),.val (.int R),.val (.lst true (ns.map D.str)),.val (.obj q),.val m0,.val (.lst true (zs.map yD)),.un,.un];generalize D.lst true (zs.map yD)=L;refine zea (λrest qj S=>∃zr s m n s8,rest=zr.map yD/\S=[.val .box,.val (.int M),.val (.int N),.val (.int R),.val (.lst true (ns.map D.str)),.val (.obj q),.val m,.val L,s8,.un]/\Yat A qj q m s n/\n+zr.length<=10/\Fits s zr) ?_ ?_ _ _ _ ⟨zs,s00,m0,0,.un,rfl,rfl,⟨hm0,zsl,by simp[s00],[],[],zbg,by simp⟩,by omega,hf⟩
 .rintro x rest qj S E' hn hc hr hb ⟨zr,s,m,n,s8,e,rfl,z,hl,hf⟩;cases zr with
  |nil=>cases e
  |cons d zr=>
   rw[YAm]at e;injection e with e1 e2
   subst e1;obtain⟨⟨f1,f2⟩,f3⟩:=hf;rw[YAy]at hl;unfold gD;refine zkd (C:=λ_=>blW (zfV (vW 6))) (zak (zaS (zhP (ev_v rfl))) (by rw[zhI z.m];rfl)) ?_;refine Yat.step (i:=5) (j:=6) (k:=8) z (by omega) f2 f1 rfl rfl rfl λv qi z'=>?_;unfold gD;exact hn _ _ ⟨zr,zca s d,v,n+1,.val (yD d),e2,rfl,z',by omega,f3⟩
 .rintro qj S ⟨zr,s,m,n,s8,e,rfl,z,hl,hf⟩;show zal 2 zaf (zaa (vW 0) (zaa (binW addD (vW 3) (kW (.int 1))) nilA)) [.val .box,.val (.int M),.val (.int N),.val (.int R),.val (.lst true (ns.map D.str)),.val (.obj q),.val m,.val L,s8,.un] _;refine tk rfl (zc9 (ev_v rfl) ev_k) (by omega) (by omega) λt4 d0 d1=>?_;refine⟨⟨by omega,by omega⟩,?_⟩;refine zea (λrest qj S=>∃s m n s8 s9,S=[.val .box,.val (.int M),.val (.int N),.val (.int R),.val (.lst true (ns.map D.str)),.val (.obj q),.val m,.val L,s8,s9]/\Yat A qj q m s n/\n+rest.length<=60) ?_ ?_ _ _ _ ⟨s,m,n,s8,.un,rfl,z,by rw[zbB];omega⟩
  .rintro x rest qj S E' hn hc hr hb ⟨s,m,n,s8,s9,rfl,z,hl⟩;rw[YAy]at hl;unfold gD;refine zkd (C:=λ_=>blW (zfV (vW 6))) (zak (zaS (zhP (ev_v rfl))) (by rw[zhI z.m];rfl)) ?_;refine⟨rfl,zd6 (zfO z.m z.ok) λd hd=>?_⟩;unfold gD;rcases hd with rfl|⟨d,rfl,fx,f,_⟩
   .show ifF (λ_=>blW (zfV (vW 8))) (asgO (.nm 6) (zeG 3 (za6 A) (λ_ _=>False) (zaV (za1 λqj=>vW 5) (zaV (za1 λqj=>vW 6) (zaV (za1 λqj=>vW 8) nilO))))) nilF E' qj [.val .box,.val (.int M),.val (.int N),.val (.int R),.val (.lst true (ns.map D.str)),.val (.obj q),.val m,.val L,.val (.non),.val x];refine zuT (C:=λ_=>blW (zfV (vW 8))) (zak (zaS (zhP (x:=.non) (ev_v rfl))) rfl) ?_;exact hn _ _ ⟨s,m,n,.val .non,.val x,rfl,z,by omega⟩
   .show ifF (λ_=>blW (zfV (vW 8))) (asgO (.nm 6) (zeG 3 (za6 A) (λ_ _=>False) (zaV (za1 λqj=>vW 5) (zaV (za1 λqj=>vW 6) (zaV (za1 λqj=>vW 8) nilO))))) nilF E' qj [.val .box,.val (.int M),.val (.int N),.val (.int R),.val (.lst true (ns.map D.str)),.val (.obj q),.val m,.val L,.val (yD d),.val x];refine zkd (C:=λ_=>blW (zfV (vW 8))) (zak (zaS (zhP (x:=yD d) (ev_v rfl))) rfl) ?_;refine Yat.step (i:=5) (j:=6) (k:=8) z (by omega) fx f rfl rfl rfl λv qi z'=>?_;unfold gD;exact hn _ _ ⟨_,v,n+1,.val (yD d),.val x,rfl,z',by omega⟩
  .rintro qj S ⟨s,m,n,s8,s9,rfl,z,hl⟩;exact⟨by show 3<=100000;decide,q,m,ns,s,rfl,z.le (by omega),by omega,nok,nd⟩
end Fd
set_option maxHeartbeats 400000
namespace Fd
open PySem L2
def zha(I:Sto->Env->Prop)(hA:∀E2:EnF,(∀qj S,I qj S->E2.nx qj S)->(∀qj d,E.rt qj d->E2.rt qj d)->X E2 qj S)(hB:∀qj S,I qj S->Y E qj S):seqF X Y E qj S:=hA {E with nx:=Y E} hB λqj d z=>z
def zrJ{V:Sto->WE}{B:WF}{E:EnF}{qj:Sto}{S:Env}{i:Nat}{P:D->Prop}(h:EvP (V qj) S P)(q:∀d,P d->B E qj (S.set i (.val d))):seqF (zbJ λqj=>asgW (.nm i) (V qj)) B E qj S:=h _ λd p=>by unfold gD;exact q d p
def zv3{C:Sto->WT}{U:Sto->WS}{B:WF}{E:EnF}{qj:Sto}{S:Env}(h:EvT (C qj) S false)(q:B E qj S):seqF (zbJ λqj=>ifS (C qj) (U qj) nilS) B E qj S:=h _ q
def zpo(z:Yat A qj q m s n)(hi:S[i]?=some (.val (.obj q)))(hj:S[j]?=some (.val m)):EvT (notT (truW (zoD qj 2 (zbI A) (zaa (vW i) (zaa (vW j) nilA))))) S false:=by
 obtain⟨bs,us,hS,_⟩:=z.ex;exact zhu (b:=true) (zet λP p=>(zac (ev_v hi) (zac (ev_v hj) zaj)) _ ⟨rfl,zd6 (zm0 z.m hS z.ok) λe h=>by subst h;exact p⟩)
def zuJ(z:Yat A qj q m s n)(hi:S[i]?=some (.val (.obj q)))(hj:S[j]?=some (.val m)):EvT (orT (blW (isNW (vW j))) (notT (truW (zoD qj 2 (zbI A) (zaa (vW i) (zaa (vW j) nilA)))))) S false:=zak (zjI (zaS (zq0 (ev_v hj))) λ_=>zpo z hi hj) (by rw[zhI z.m];rfl)
section
variable{S:Env}{A B:WE}{P T:D->Prop}{R:WL}{ds:List D}{n:Nat}{F:Fn}
def zlA(hR:EvL R S ds)(h:F ds P)(hl:ds.length=n:=by rfl):EvP (zal n F R) S P:=λQ q=>hR _ ⟨hl,zd6 h q⟩
def zre(hA:EvP A S λv=>v=.non\/∃d,v=yD d/\T (yD d))(hB:EvP B S T):EvP (orVW A B) S T:=λQ q=>hA _ (by
 rintro v (rfl|⟨d,rfl,h⟩)
 .exact hB Q q
 .exact q _ h)
def zm5(hA:EvP A S P)(h:∀d,P d->T d):EvP A S T:=λQ q=>hA Q λd p=>q d (h d p)
def zpn{b:Bool}{ns:List Str}{i:Nat}(hA:Ev A S (.lst b (ns.map D.str)))(hb:S[i]?=some (.val .box)){M:WE}(hM:Ev M S (.int ns.length))(h0:0<ns.length)(h1:ns.length<1000):EvP (binW ixXD A (zal 2 zaf (zaa (vW i) (zaa M nilA)))) S λv=>∃x∈ns,v=.str x:=zdc (zdn hA) (zdw hb hM (by omega) (by omega)) λa c ha hc Q q=>by
 obtain⟨z,rfl,z0,z1⟩:=hc;subst ha;obtain⟨y,hy,e⟩:=zqQ z0 z1;show(match atI (ns.map D.str) z with|some d=>Q d|none=>False);rw[e];exact q _ ⟨y,hy,rfl⟩
def zuu(hA:Ev A S (.lst b t))(hL:EvO L S l)(hU:EvO U S u):Ev (slXW A L U) S (.lst true (cutD t l u)):=λP p=>hA _ (hL _ (hU _ p))
end
def zgM{x:D}{i:Int}(h:x.old=.int i):x=.int i:=by
 cases x<;>rw[D.old]at h<;>cases h<;>rfl
def zkx{x:D}{ks:List Str}{xs:List D}(h:x.old=.fdc ks xs):∃ys,x=.fdc ks ys/\ys.map D.old=xs:=by
 cases x<;>rw[D.old]at h<;>cases h
 exact⟨_,rfl,rfl⟩
def zmV{m:D}{s:Ya}(h:m.old=yMod s):∃n a ys c f,m=.dct n MK [a,.fdc (nmsY s) ys,c,.int s.en,.int s.al,f]:=by
 cases m with
 |dct n ks xs=>
  rw[D.old]at h;injection h with h1 h2 h3
  subst h2;obtain⟨a,b,c,d,e,f,rfl⟩:=six (xs:=xs) (by rw[<-YAb (f:=D.old),h3];rfl);have g:∀i:Nat,([a,b,c,d,e,f].map D.old)[i]?=(modL s)[i]?:=λi=>by rw[h3]
  obtain⟨ys,rfl,_⟩:=zkx (Option.some.inj (g 1));have e3:=zgM (Option.some.inj (g 3));have e4:=zgM (Option.some.inj (g 4));subst e3;subst e4;exact⟨n,a,ys,c,f,rfl⟩
 |_=>rw[D.old]at h;cases h
section
variable{S:Env}{s:Ya}{m:D}{i:Nat}
def zql(h:m.old=yMod s)(ok:Yok s)(hi:S[i]?=some (.val m)):Ev (valW (zjx (binW zay (vW i) (kW (.str "heeded"))))) S (.lst true ((nmsY s).map D.str)):=by
 obtain⟨n,a,ys,c,f,rfl⟩:=zmV h;exact zaJ (zf6 (zkn (ev_v hi) mk2) (by have:=hl10 ok;omega))
def zu7{ns:List Str}:cutD (ns.map D.str) none (some 1)=(ns.take 1).map D.str:=by
 cases ns with
 |nil=>rfl
 |cons x xs=>
  have:=zqN (xs:=(x::xs).map D.str) (k:=1) (by simp)
  rw[<-List.map_take]at this;exact this
end
def znO{pool:List Str}{k:Nat}(h:∀y∈pool,nameB y=true):∀y∈pool.take k,nameB y=true:=λy hy=>h y (List.mem_of_mem_take hy)
end Fd
set_option maxHeartbeats 400000
namespace Fd
open PySem L2
abbrev e27(q:Addr)(m:D)(pool:List Str)(x5 x6 x7 x8:Sl):Env:=[.un,.val .box,.val (.obj q),.val m,.val (.lst true (pool.map D.str)),x5,x6,x7,x8]
abbrev DdP(v:D):Prop:=∃d,v=yD d/\Ytx d
def zuK(h:m.old=yMod s)(ok:Yok s)(hi:S[i]?=some (.val .box))(hj:S[j]?=some (.val m))(hB:EvP B S DdP):EvP (orVW (zal 2 za8 (zaa (vW i) (zaa (vW j) nilA))) B) S DdP:=zre (zm5 (zlA (zac (ev_v hi) (zac (ev_v hj) zaj)) (zfO h ok)) λv hv=>hv.imp id λ⟨d,e,t,_⟩=>⟨d,e,d,rfl,t⟩) hB
def zr4(A:Ads):lawF 7 (zdY A):=by
 unfold lawF;show zdY A _ _ [.un,.val .box,.un,.un,.un,.un,.un,.un,.un];unfold zdY;refine zha (λqj S=>∃q m s pool,pool.length=16/\(∀y∈pool,nameB y=true)/\Yat A qj q m s 60/\S=e27 q m pool .un .un .un .un) (λE2 h2 _=>?_) ?_
 .refine⟨rfl,zhb (znp (M:=5) (N:=4) (R:=8) (by decide) (by decide) (by decide)) (λd qi h=>?_) λ_ _ z=>z⟩;obtain⟨q,m,ns,s,rfl,z,nl,nok,nd⟩:=h;unfold gD;refine⟨rfl,?_⟩;unfold gDs gD gDs gD gDs gD gDs;exact h2 _ _ ⟨q,m,s,ns,nl,nok,z,rfl⟩
 rintro qj S ⟨q,m,s,pool,pl16,pok,z,rfl⟩;refine zv3 (C:=λqj=>blW (isNW (vW 3))) (zak (zaS (zq0 (ev_v rfl))) (zhI z.m)) ?_;refine zha (λqj S=>True) (λE2 h2 hrt=>?_) ?_
 .have er:EvP (binW addD (kW (.int 4)) (zal 2 zaf (zaa (vW 1) (zaa (kW (.int 11)) nilA)))) (e27 q m pool .un .un .un .un) (λd=>∃n:Nat,d=.int n/\n<=40):=zdc (zdn ev_k) (zdw (b:=1) rfl ev_k (by decide) (by decide)) λa b ha hb Q qq=>by
   obtain⟨w,rfl,w0,w1⟩:=hb;subst ha;obtain⟨j,rfl⟩:=YAZ w0;exact qq _ ⟨4+j,by simp,by omega⟩
  refine er _ ?_;rintro d ⟨n,rfl,hn40⟩;refine⟨⟨by omega,by omega⟩,?_⟩;refine zea (λrest qj S=>∃s m n x5 x6 x7 x8,S=e27 q m pool x5 x6 x7 x8/\Yat A qj q m s n/\n+rest.length<=200) ?_ ?_ _ _ _ ⟨s,m,60,.un,.un,.un,.un,rfl,z,by rw[zbB];omega⟩
  .rintro x rest qj S E' hnx _ hrt' _ ⟨s,m,n,x5,x6,x7,x8,rfl,z,hln⟩;rw[YAy]at hln;unfold gD;have ok:=z.ok;have lm:=hl10 ok;refine zrJ (V:=λ_=>zal 2 zaf (zaa (vW 1) (zaa (kW (.int 6)) nilA))) (zdw (b:=1) rfl ev_k (by decide) (by decide)) ?_;rintro _ ⟨way,rfl,w0,w6⟩;refine zrJ (V:=λ_=>binW addD (valW (zjx (binW zay (vW 3) (kW (.str "heeded"))))) (slXW (vW 4) noO (zdI (kW (.int 1))))) (P:=λv=>v=.lst true ((nmsY s++pool.take 1).map D.str)) (zdn (zfc (zbV (zql z.m ok rfl) (zfc (zuu (ev_v rfl) zgf (zdu ev_k)) (by rw[zu7])) (by simp only[YAb,YBM];have:=ok.h.ln;omega)) (by rw[YAC]))) ?_;rintro _ rfl;have mok:∀y∈nmsY s++pool.take 1,Tx y:=λy hy=>Tx.name ((YAG.mp hy).elim (ok.h.ok y) (znO pok y));have ml:(nmsY s++pool.take 1).length=(nmsY s).length+1:=by rw[YAk,YBM];omega
   generalize nmsY s++pool.take 1=ms at mok ml;refine zrJ (V:=λ_=>tupW (zaa (binW ixXD (valW (lstW (zaa (kW (.str "aside")) (zaa (kW (.str "heed")) nilA)))) (binW modD (vW 6) (kW (.int 2)))) (zaa (binW ixXD (vW 7) (zal 2 zaf (zaa (vW 1) (zaa (cbW zbd (zaa (vW 7) nilA)) nilA)))) nilA))) (P:=DdP) (λQ qq=>?_) ?_
   .have w2:way % 2=0\/way % 2=1:=by omega
    have e1:EvP (binW ixXD (valW (lstW (zaa (kW (.str "aside")) (zaa (kW (.str "heed")) nilA)))) (binW modD (vW 6) (kW (.int 2)))) (e27 q m pool (.val x) (.val (.int way)) (.val (.lst true (ms.map D.str))) x8) (λv=>v=.str "aside" \/ v=.str "heed"):=by
     refine zdc (zdn (zaJ (zbs (zac ev_k (zac ev_k zaj))))) (zdn (zkG (ev_v rfl) ev_k)) λa b ha hb Q qq=>?_;subst ha;subst hb;show(match atI [D.str "aside",D.str "heed"] (way % 2)with|some d=>Q d|none=>False);rcases w2 with e|e<;>rw[e]
     .rw[show atI [D.str "aside",D.str "heed"] 0=some (.str "aside")from zaH (j:=0) rfl];exact qq _ (.inl rfl)
     .rw[show atI [D.str "aside",D.str "heed"] 1=some (.str "heed")from zaH (j:=1) rfl];exact qq _ (.inr rfl)
    refine e1 _ λv hv=>?_;refine zpn (b:=true) (ns:=ms) (S:=e27 q m pool (.val x) (.val (.int way)) (.val (.lst true (ms.map D.str))) x8) (ev_v rfl) rfl (zfc (zcz (ev_v rfl)) (by rw[YAb])) (by omega) (by omega) _ ?_;rintro _ ⟨y,hy,rfl⟩;refine⟨by show 2<=100000;decide,qq _ ?_⟩;rcases hv with rfl|rfl
    .exact⟨.aside y,rfl,mok y hy⟩
    .exact⟨.heed y,rfl,mok y hy⟩
   rintro _ ⟨d,rfl,hd⟩;show seqF _ _ E' qj (e27 q m pool (.val x) (.val (.int way)) (.val (.lst true (ms.map D.str))) (.val (yD d)));generalize hx7:Sl.val (.lst true (ms.map D.str))=y7;refine zha (λqi S=>qi=qj/\∃d,Ytx d/\S=e27 q m pool (.val x) (.val (.int way)) y7 (.val (yD d))) (λE2 h2 _=>?_) ?_
   .have ev:Ev (binW eqD (vW 6) (kW (.int 4))) (e27 q m pool (.val x) (.val (.int way)) y7 (.val (yD d))) (.bl (decide (way=4))):=zeu (ev_v rfl) ev_k;cases c:decide (way=4)with
    |false=>exact zn3 (zak (zaS ev) c) (h2 _ _ ⟨rfl,d,hd,rfl⟩)
    |true=>
     refine zlz (zak (zaS ev) c) (znG (P:=DdP) (λQ qq=>?_) ?_)
     .refine tk (b:=1) (S:=e27 q m pool (.val x) (.val (.int way)) y7 (.val (yD d))) rfl ev_k (by decide) (by decide) λw _ _=>?_;exact⟨by show 2<=100000;decide,qq _ ⟨.allow (w-1),rfl,trivial⟩⟩
     .rintro _ ⟨d',rfl,h'⟩;exact h2 _ _ ⟨rfl,d',h',rfl⟩
   rintro qi S ⟨rfl,d,hd,rfl⟩;refine zha (λqg S=>qg=qi/\∃d,Ytx d/\S=e27 q m pool (.val x) (.val (.int way)) y7 (.val (yD d))) (λE2 h2 _=>?_) ?_
   .have ev:Ev (binW eqD (vW 6) (kW (.int 5))) (e27 q m pool (.val x) (.val (.int way)) y7 (.val (yD d))) (.bl (decide (way=5))):=zeu (ev_v rfl) ev_k;cases c:decide (way=5)with
    |false=>exact zn3 (zak (zaS ev) c) (h2 _ _ ⟨rfl,d,hd,rfl⟩)
    |true=>
     refine zlz (zak (zaS ev) c) (znG (zuK (B:=vW 8) z.m ok rfl rfl (zm5 (zdn (ev_v rfl)) λv hv=>⟨d,hv,hd⟩)) ?_);rintro _ ⟨d',rfl,h'⟩;exact h2 _ _ ⟨rfl,d',h',rfl⟩
   rintro qg S ⟨rfl,d,hd,rfl⟩;refine zha (λqh S=>qh=qg/\∃d,Ytx d/\S=e27 q m pool (.val x) (.val (.int way)) y7 (.val (yD d))) (λE2 h2 _=>?_) ?_
   .refine tk (b:=1) (S:=e27 q m pool (.val x) (.val (.int way)) y7 (.val (yD d))) rfl ev_k (by decide) (by decide) λw _ _=>?_;refine ev_k _ (zq1 ?_);dsimp only;cases decide (w=0)with
    |false=>exact h2 _ _ ⟨rfl,d,hd,rfl⟩
    |true=>
     refine znG (i:=8) (zlA (S:=e27 q m pool (.val x) (.val (.int way)) y7 (.val (yD d))) (zac (ev_v (i:=1) rfl) (zac (ev_v (i:=3) rfl) (zac (ev_v (i:=4) rfl) (zac (ev_v (i:=8) rfl) zaj)))) (zpU ok hd z.m pl16 pok)) ?_;rintro _ ⟨d',rfl,h'⟩;exact h2 _ _ ⟨rfl,d',h',rfl⟩
   rintro qh S ⟨rfl,d,hd,rfl⟩;refine zha (λqj S=>∃s' m',Yat A qj q m' s' (n+1)/\S=e27 q m' pool (.val x) (.val (.int way)) y7 (.val (yD d))) (λE2 h2 _=>?_) ?_
   .refine z.judged (by omega) hd rfl rfl rfl λv qi s' z'=>?_;unfold gD;exact h2 _ _ ⟨s',v,z',rfl⟩
   rintro S4 S ⟨s',m',z',rfl⟩;refine zn3 (zuJ z' rfl rfl) ?_;exact hnx _ _ ⟨s',m',n+1,_,_,_,_,rfl,z',by omega⟩
  .intro qj S _;exact h2 _ _ trivial
 .intro qj S _;rfl
end Fd
namespace Fen
open PySem L2
def top(i:Nat):Stmt:=PySem.Challenge.pw_fenlevel_k27_set_aside_and_heeded.main.body.getD i (.Pass ⟨0,0,0,0⟩)
abbrev zq8:Stmt:=top 0
abbrev zd4:Stmt:=top 24
abbrev zgu:Stmt:=top 25
abbrev zfh:Stmt:=top 27
abbrev ze0:Stmt:=top 28
abbrev zdk:Stmt:=top 29
abbrev zdo:Stmt:=top 30
abbrev zdd:Stmt:=top 37
abbrev zdi:Stmt:=top 38
abbrev zbN:Stmt:=top 39
abbrev zdQ:Stmt:=top 40
abbrev zdT:Stmt:=top 41
abbrev ziv:Stmt:=top 42
abbrev zcf:Stmt:=top 43
abbrev zcg:Stmt:=top 44
abbrev zcE:Stmt:=top 45
abbrev zfH:Stmt:=top 46
abbrev zfD:Stmt:=top 47
abbrev zdZ:Stmt:=top 48
abbrev zbQ:Stmt:=top 49
abbrev zcF:Stmt:=top 50
abbrev zby:Stmt:=top 51
abbrev zcO:Stmt:=top 53
abbrev zbx:Stmt:=top 55
abbrev sBox:Stmt:=top 58
abbrev zkF:Stmt:=top 59
abbrev zow:Stmt:=top 60
abbrev zi7:Stmt:=top 61
abbrev ziO:Stmt:=top 62
abbrev zi6:Stmt:=top 63
abbrev zi9:Stmt:=top 64
abbrev ziI:Stmt:=top 65
abbrev zeW:Stmt:=top 66
abbrev znQ:Stmt:=top 67
abbrev zfi:Stmt:=top 68
abbrev zol:Stmt:=top 69
abbrev znm:Stmt:=top 70
abbrev sDue:Stmt:=top 71
abbrev zi2:Stmt:=top 72
abbrev zjn:Stmt:=top 73
abbrev zeM:Stmt:=top 74
abbrev ziW:Stmt:=top 75
abbrev zi3:Stmt:=top 76
abbrev zjP:Stmt:=top 77
abbrev zjc:Stmt:=top 78
abbrev zff:Stmt:=top 79
abbrev zfg:Stmt:=top 80
abbrev zoa:Stmt:=top 81
abbrev zgG:Stmt:=top 82
abbrev zdW:Stmt:=top 83
abbrev sLaw:Stmt:=top 84
def clB:Stmt->Nat->Stmt
 |.ClassDef _ _ _ b _ _ _ _ _ _ _,j=>b.getD j (.Pass ⟨0,0,0,0⟩)
 |_,_=>.Pass ⟨0,0,0,0⟩
abbrev zcp:Stmt:=clB (top 20) 0
abbrev zbP:Stmt:=clB (top 56) 0
abbrev zeZ:Stmt:=clB (top 56) 1
abbrev zgt:Stmt:=clB (top 56) 2
abbrev zgC:Stmt:=clB (top 56) 3
abbrev ziA:Stmt:=clB (top 56) 4
abbrev zeF:Stmt:=clB (top 56) 5
abbrev zgP:Stmt:=clB (top 56) 6
abbrev zeA:Stmt:=clB (top 56) 7
abbrev zfq:Stmt:=clB (top 56) 8
abbrev zgQ:Stmt:=clB (top 56) 9
abbrev zfG:Stmt:=clB (top 56) 10
abbrev zdL:Stmt:=clB (top 56) 11
abbrev zgI:Stmt:=clB (top 56) 12
abbrev zfx:Stmt:=clB (top 56) 13
abbrev zde:Stmt:=clB (top 56) 14
abbrev zgD:Stmt:=clB (top 56) 15
abbrev zdl:Stmt:=clB (top 56) 16
abbrev zdg:Stmt:=clB (top 56) 17
abbrev zcA:Stmt:=clB (top 56) 18
abbrev zcG:Stmt:=clB (top 56) 19
abbrev zch:Stmt:=clB (top 56) 20
abbrev zdR:Stmt:=clB (top 56) 21
abbrev zbR:Stmt:=clB (top 56) 22
abbrev zeE:Stmt:=clB (top 56) 23
abbrev zft:Stmt:=clB (top 56) 24
abbrev zdy:Stmt:=clB (top 56) 25
abbrev zg0:Stmt:=clB (top 56) 26
abbrev zcK:Stmt:=clB (top 56) 27
abbrev zfs:Stmt:=clB (top 56) 28
abbrev zeD:Stmt:=clB (top 56) 29
abbrev zdJ:Stmt:=clB (top 56) 30
abbrev zit:Stmt:=clB (top 56) 31
section
variable{P:Program}{w:PySem.World}{K:qk}{mg:Str->Option Value}{base:Heap}
def zvC:FnScope ["_law_script"] ["_law_script"] (zao sBox):=⟨rfl,rfl,rfl,by decide +kernel,rfl,by decide +kernel,by decide +kernel⟩
def zt7{f:Addr}{fd:FuncData}(F:Fun K "_law_box" "_law_box" sBox f fd)(T:Txt K mg):FnOk P w K mg base CX0 1 f fd ["_law_script"] (zsp K):=by
 refine F.ok zvC (λvs H Q E h=>?_) (λcdv A outer s H vs Q E hr h=>?_)
 .obtain⟨a,ns,rfl,_⟩:=h;rfl
 .obtain⟨a,ns,rfl,hS,hl,k⟩:=h;refine⟨_,zd1 (zfM (zqz (zaC (zck zdV rfl T.list YBt (zaC (zlq sl_list (pv 0) zoF (znq za5)) zbf)) (zaC za5 (zaC za5 (zaC za5 zbf)))))),?_⟩;refine⟨_,rfl,_,rfl,a,_,rfl,hS,λp hp=>?_⟩;rw[zv1 hl];refine⟨p,_,rfl,.inl (SqL.of zah),λc hc=>⟨by show 4<=sizeLine;decide,λb hb=>?_⟩⟩;have hcp:c≠p:=λz=>by rw[z,zah]at hc;cases hc
  have hbc:b≠c:=λz=>by rw[z,zah]at hb;cases hb
  have hb1:upd H p (.lst (ns.map V.int)) b=none:=by rw[upd_ne hbc]at hb;exact hb
  have hbp:b≠p:=λz=>by rw[z,zah]at hb1;cases hb1
  have hc0:H c=none:=by rw[upd_ne hcp]at hc;exact hc
  have hb0:H b=none:=by rw[upd_ne hbp]at hb1;exact hb1
  refine k b c _ hb0 ⟨⟨0,0,17,zah,by decide,by decide,by decide,by decide⟩,by rw[upd_ne hbc.symm,zah],hl⟩ λx o e=>?_;rw[upd_ne (zau e hb0),upd_ne (zau e hc0),upd_ne (zau e hp)];exact e
def scTake:FnScope ["_law_box_here","_law_many","_law_rest","_law_cell","_law_seed"] ["_law_box_here","_law_many"] (zao zkF):=⟨rfl,rfl,rfl,by decide +kernel,rfl,by decide +kernel,by decide +kernel⟩
def zkQ{f:Addr}{fd:FuncData}(F:Fun K "_law_take" "_law_take" zkF f fd)(T:Txt K mg):FnOk P w K mg base CX0 1 f fd ["_law_box_here","_law_many"] ztF:=by
 refine F.ok scTake (λvs H Q E h=>?_) (λcdv A outer s H vs Q E hr h=>?_)
 .obtain⟨b,c,ns,m,rfl,_⟩:=h;rfl
 .obtain⟨b,c,ns,m,rfl,B,m0,m1,k⟩:=h;refine⟨_,zaY (zmI (ziC zsO (zgo ix_list (pv 0) za5 (λ_ _=>rfl)) za5 (zev _))
    (zaY (zdG (i:=2) scTake.nd rfl (Or.inl rfl) (zgo ix_list (pv 0) za5 (λ_ _=>rfl)))
    (zaY (zhl (zdO zll (pv 2) (pv 1)) (zlc (pv 0) za5 zfa))
    (zd1 (zfM (zdO zhf (pv 2) (pv 1)))))) zgL)
   (zaY (zdG (i:=3) scTake.nd rfl (Or.inl rfl) za5)
   (zaY (zmI (ziC zs2 (zgo ix_list (pv 0) za5 (λ_ _=>rfl)) (zeX call_len_seq rfl T.len YDe (zaC (zgo ix_list (pv 0) za5 (λ_ _=>rfl)) zbf)) (zev _))
    (zaY (zdG (i:=3) scTake.nd rfl (Or.inl rfl) (zgo ix_list (zgo ix_list (pv 0) za5 (λ_ _=>rfl)) (zgo ix_list (pv 0) za5 (λ_ _=>rfl)) (λ_ _=>rfl)))
    (zd1 (zrG (pv 0) za5 zo6 za5 zsV zfa))) zgL)
   (zaY (zmI (ziC zth (pv 3) (zdO znL za5 za5) (zev _))
    (zaY (zhl (zdO zll (pv 3) (pv 1)) (zlc (pv 0) za5 zfa))
    (zd1 (zfM (zdO zhf (pv 3) (pv 1))))) zgL)
   (zaY (zdG (i:=4) scTake.nd rfl (Or.inl rfl) (zgo ix_list (pv 0) za5 (λ_ _=>rfl)))
   (zaY (zdG (i:=4) scTake.nd rfl (Or.inl rfl) (zdO op_add (zdO op_add (zdO znL (pv 4) za5) (zdO op_mul za5 (pv 4))) (zdO op_mul za5 (zdO zhf (pv 3) za5))))
   (zaY (zhl (zdO zhf (zdO op_add (pv 4) za5) za5) (zlc (pv 0) za5 zfa))
   (zd1 (zfM (zdO zhf (zdO zr9 (zgo ix_list (pv 0) za5 (λ_ _=>rfl)) za5) (pv 1)))))))))),?_⟩
  obtain⟨p,r,d,e,hp0,hr0,hd0,hd1⟩:=B.ex;refine⟨_,rfl,b,_,_,.int r,rfl,rfl,SqL.of e,rfl,_,_,rfl,rfl,_,rfl,?_⟩;refine ite2 (λh0=>?_) (λh0=>?_)
  .refine⟨_,rfl,b,_,_,.int r,rfl,rfl,SqL.of e,rfl,?_⟩;refine⟨_,rfl,_,rfl,_,_,rfl,rfl,⟨m0,m1⟩,_,rfl,b,_,_,2,rfl,rfl,e,rfl,?_⟩;refine⟨_,rfl,_,rfl,_,_,rfl,rfl,m0,?_⟩;exact k _ _ (YBj _ (by omega)) (YA5 _ m0) (B.put hp0 (YDb hr0 (by omega)) hd0 hd1) Ext.upd
  refine⟨_,rfl,b,_,_,.int p,rfl,rfl,SqL.of e,rfl,_,rfl,b,_,_,.ref c,rfl,rfl,SqL.of e,rfl,c,_,rfl,.inl (SqL.of B.cells),_,_,rfl,rfl,_,rfl,?_⟩;refine ite2 (λh1=>?_) (λh1=>?_)
  .have hlt:=YAD h1;rw[YAb]at hlt;obtain⟨z,hz⟩:∃z,ns[p.toNat]?=some z:=⟨_,YAf (by omega)⟩;have hat:atI (ns.map V.int) p=some (.int z):=by
    have q:=zaH (xs:=ns.map V.int) (j:=p.toNat) (v:=.int z) (by rw[YAu,hz];rfl)
    rwa[Int.toNat_of_nonneg hp0]at q
   refine⟨_,rfl,b,_,_,.ref c,rfl,rfl,SqL.of e,rfl,_,rfl,b,_,_,.int p,rfl,rfl,SqL.of e,rfl,c,_,_,.int z,rfl,rfl,SqL.of B.cells,hat,?_⟩;refine⟨_,rfl,b,_,1,.int p,rfl,rfl,SqL.of e,rfl,_,_,rfl,rfl,b,_,_,1,rfl,rfl,e,rfl,?_⟩;have e1:upd H b (boxV c (p+1) r d) b=some (boxV c (p+1) r d):=zah;have hp1:0<=p+1:=by omega
   have B1:=B.put hp1 hr0 hd0 hd1;have X1:Ext b H (upd H b (boxV c (p+1) r d)):=Ext.upd;refine⟨_,rfl,_,_,rfl,rfl,⟨by decide,by decide,by decide⟩,_,_,rfl,rfl,_,rfl,?_⟩;refine ite2 (λh2=>?_) (λh2=>?_)
   .refine⟨_,rfl,_,rfl,_,_,rfl,rfl,⟨m0,m1⟩,_,rfl,b,_,_,2,rfl,rfl,e1,rfl,_,rfl,_,rfl,_,_,rfl,rfl,m0,?_⟩;have hz0:(0:Int)<=z:=by
     have:=YAD h2
     exact Int.le_trans (by decide) this
    exact k _ _ (YBj _ (by omega)) (YA5 _ m0) (B1.put hp1 (YDb hz0 (by omega)) hd0 hd1) (X1.trans Ext.upd)
   .refine⟨_,rfl,b,_,_,.int d,rfl,rfl,SqL.of e1,rfl,?_⟩;refine⟨_,rfl,_,_,rfl,rfl,⟨by decide,by decide,by omega⟩,_,rfl,_,_,rfl,rfl,.inl ⟨by decide,by decide⟩,_,_,rfl,rfl,_,rfl,_,_,rfl,rfl,(by show(0:Int)<2147483629;decide),_,_,rfl,rfl,.inl ⟨by decide,by decide⟩,_,_,rfl,rfl,?_⟩;refine⟨_,rfl,_,_,rfl,rfl,_,_,rfl,rfl,(by show(0:Int)<2147483629;decide),_,rfl,b,_,_,3,rfl,rfl,e1,rfl,?_⟩;refine⟨_,rfl,b,_,_,_,rfl,rfl,SqL.of zah,rfl,_,_,rfl,rfl,⟨by decide,by decide⟩,_,rfl,_,_,rfl,rfl,m0,?_⟩;exact k _ _ (YBj _ (by omega)) (YA5 _ m0) (B1.put hp1 hr0 (YBj _ (by decide)) (YA5 _ (by decide))) (X1.trans Ext.upd)
  .have e1:=e;have hp1:=hp0;have B1:=B;have X1:Ext b H H:=Ext.refl _ _;refine⟨_,rfl,_,_,rfl,rfl,⟨by decide,by decide,by decide⟩,_,_,rfl,rfl,_,rfl,?_⟩;refine ite2 (λh2=>?_) (λh2=>?_)
   .refine⟨_,rfl,_,rfl,_,_,rfl,rfl,⟨m0,m1⟩,_,rfl,b,_,_,2,rfl,rfl,e1,rfl,_,rfl,_,rfl,_,_,rfl,rfl,m0,?_⟩;have hz0:(0:Int)<=0:=Int.le_refl _;exact k _ _ (YBj _ (by omega)) (YA5 _ m0) (B1.put hp1 (YDb hz0 (by omega)) hd0 hd1) (X1.trans Ext.upd)
   .refine⟨_,rfl,b,_,_,.int d,rfl,rfl,SqL.of e1,rfl,?_⟩;refine⟨_,rfl,_,_,rfl,rfl,⟨by decide,by decide,by omega⟩,_,rfl,_,_,rfl,rfl,.inl ⟨by decide,by decide⟩,_,_,rfl,rfl,_,rfl,_,_,rfl,rfl,(by show(0:Int)<2147483629;decide),_,_,rfl,rfl,.inl ⟨by decide,by decide⟩,_,_,rfl,rfl,?_⟩;refine⟨_,rfl,_,_,rfl,rfl,_,_,rfl,rfl,(by show(0:Int)<2147483629;decide),_,rfl,b,_,_,3,rfl,rfl,e1,rfl,?_⟩;refine⟨_,rfl,b,_,_,_,rfl,rfl,SqL.of zah,rfl,_,_,rfl,rfl,⟨by decide,by decide⟩,_,rfl,_,_,rfl,rfl,m0,?_⟩;exact k _ _ (YBj _ (by omega)) (YA5 _ m0) (B1.put hp1 hr0 (YBj _ (by decide)) (YA5 _ (by decide))) (X1.trans Ext.upd)
end
end Fen
namespace Fd
open PySem L2
section
variable{P:Program}{w:World}{K:qk}{mg:Str->Option Value}{base:Heap}
theorem zkQ{f:Addr}{fd:FuncData}(F:Fun K "_law_take" "_law_take" Fen.zkF f fd)(T:Bt mg):FnOk P w K mg base CX0 1 f fd ["_law_box_here","_law_many"] (spD K 2 zaf):=by
 refine(Fen.zkQ F ⟨T.list,T.len,T.range⟩).imp λvs H Q E ⟨β,G,ds,gh,bx,hv,hl,P',q,hP⟩=>?_;unfold zaf at q;split at q
 .rename_i m
  obtain⟨v1,v2,rfl,e1,e2⟩:=zv6 hv;cases e1;cases e2;obtain⟨cc,p,r,d,ns,hb,p0,r0,d0,d1,hc,hn⟩:=bx.ex;refine⟨β,cc,ns,m,rfl,⟨⟨p,r,d,hb,p0,r0,d0,d1⟩,gh _ _ hc,hn⟩,q.1.1,q.1.2,λx H' x0 x1 B X=>?_⟩;refine hP _ (q.2 x x0 x1) _ H' G ⟨Same.refl _,λa o e=>?_,λa o n e=>X a o n e,λa e=>.inl e,⟨?_,bx.still⟩,λz=>by(rw[hb]at z;cases z),λcc2 p2 r2 d2 h2=>by
   rw[hb]at h2;cases h2;obtain⟨p',r',d',e',_⟩:=B.ex;exact⟨p',r',d',e'⟩⟩ rfl
  .have na:a≠β:=λz=>by rw[z,bx.still]at e;cases e
   exact X a o na (gh a o e)
  .obtain⟨p',r',d',e',q'⟩:=B.ex;exact⟨cc,p',r',d',ns,e',q'.1,q'.2.1,q'.2.2.1,q'.2.2.2,hc,hn⟩
 .exact q.elim
def zoz(K:qk):Sp:=λvs H Q _=>∃(a:Addr)(ns:List Int),vs=[.ref a]/\SqL K H a (ns.map V.int)/\ns.length<=63/\∀H',Q (.bl true) H'
def zso{f:Addr}{fd:FuncData}{st:Stmt}{rest:List Stmt}{N:List Str}{n k:Nat}{B:WF}{p1 p2 p3 p4 p5:Pos}(F:Fun K "law" "law" st f fd)
  (hbd:zbe st=.Assign [.Name "_law_box_here" p1] (.Call (.Name "_law_box" p2) [.Name "_law_script" p3] [] p4) p5::rest)
  (cB:Cal P w K mg base "_law_box" 1 ["_law_script"] (Fen.zsp K))
  (hB:∀{cdv:Value}{A:Around}{outer:List PySem.Env}{s:Shared}{H:Hp}{E:XK}{β:Addr}{H1 G1:Hp},(("_law_script"::"_law_box_here"::N:List Str)).Nodup->Room k (A.deeper (PyProof.Rows.envOfC "law" (zao st) s.heap.objs.size f cdv)) ->
   OSs (cxOf CX0 P w K mg base ("_law_script"::"_law_box_here"::N) "law" (zao st) f cdv A outer s H E).nox ⟨K,β,H1,G1,λ_=>none⟩ rest B)
  (h:lawF n B) (hN:N.length=n:=by rfl) (qj:FnScope ("_law_script"::"_law_box_here"::N) ["_law_script"] (zao st):=by exact⟨rfl,rfl,rfl,by decide +kernel,rfl,by decide +kernel,by decide +kernel⟩)
  (hgl:(zao st).names.lookup ("_law_box":Str)=some .globalImplicit:=by decide +kernel) (hs0:(zao st).names.lookup ("_law_script":Str)=some .local:=by decide +kernel) (hs1:(zao st).names.lookup ("_law_box_here":Str)=some .local\/(zao st).names.lookup ("_law_box_here":Str)=some .cell:=by decide +kernel) (hk:1<=k:=by decide):FnOk P w K mg base CX0 (k+1) f fd ["_law_script"] (zoz K):=by
 refine F.ok qj (λvs H Q E ⟨a,ns,e,_⟩=>by rw[e];rfl) (λcdv A outer s H vs Q E hr ⟨a,ns,e,hS,hl,q⟩=>?_);subst e;have hrest:PSs (cxOf CX0 P w K mg base ("_law_script"::"_law_box_here"::N) "law" (zao st) f cdv A outer s H E).nox rest (λD Z H'=>∃ β H1 G1,tOS ⟨K,β,H1,G1,λ_=>none⟩ B D Z H'):=λpins s' Z H' D I ⟨β,H1,G1,z⟩=>(@hB cdv A outer s H E β H1 G1 qj.nd hr).pss pins s' Z H' D I z;rw[hbd];obtain⟨fB,fdB,FB,mB,kB,bB⟩:=cB.ex;refine⟨_,zaY (zdG (i:=1) qj.nd rfl hs1 (zdU FB (hr.mono hk) hgl mB kB bB .nil zko (zaC (zbw (i:=0) rfl (.inl hs0)) zbf)) rfl (.inl rfl)) hrest,?_⟩;refine⟨.ref a,rfl,a,ns,rfl,hS,hl,λb cc H1 hb Bx Sm=>?_⟩;obtain⟨p,r,d,e,p0,r0,d0,d1⟩:=Bx.ex;have hcc:=Bx.cells;have nb:b≠cc:=Bx.ne
 let G1:Hp:=λx=>if x=cc then some (.lst (ns.map V.int))else none
 have gcc:G1 cc=some (.lst (ns.map V.int)):=by show(if cc=cc then _ else _)=_;rw[if_pos rfl]
 have gb:G1 b=none:=by show(if b=cc then _ else _)=_;rw[if_neg nb]
 have gh:Same G1 H1:=λx o ex=>by
  have ex':(if x=cc then some (HO.lst (ns.map V.int))else none)=some o:=ex;split at ex'
  .rename_i z;rw[z,hcc];exact ex'
  .cases ex'
 have bx:BoxD b H1 G1:=⟨⟨cc,p,r,d,ns,e,p0,r0,d0,d1,gcc,Bx.few⟩,gb⟩;have kn:∃ad,Kn K b G1 (λ_=>none) (λ_=>none) ad:=⟨λ_=>[],λp o z=>(by cases z),λp o i a x z=>(by cases z),λp q i j a z=>absurd rfl z,λa o z=>(by cases z),λa z=>absurd rfl z⟩;have ou:Out ⟨K,b,H1,G1,λ_=>none⟩ (λ_=>none) G1:=⟨λa z=>absurd rfl z,Same.refl _,λa z=>.inl z,gh,Dm.refl _⟩;refine⟨b,H1,G1,.un::.val .box::List.replicate n .un,G1,λ_=>none,λ_=>none,⟨G1,ou,⟨?_,Stp.refl gh bx,λi sl ei=>?_,λi j x xs ys ei=>?_,kn⟩⟩,(@hB cdv A outer s H E b H1 G1 qj.nd hr).mono {nx:=λ_ _=>False,rt:=λ_ d=>d=.bl true,bk:=λ_ _=>False,ct:=λ_ _=>False} _ _ _ ⟨λ_ S z=>z.elim,λ_ d z v H' G' M' G2 _ _ t _ ev=>?_,λ_ S z=>z.elim,λ_ S z=>z.elim⟩ h⟩
 .simp[L2.zdq,hN]
 .match i with
  |0=>cases ei;trivial
  |1=>cases ei;exact⟨.ref b,rfl,rfl⟩
  |i+2=>
   rw[YAz,YAz,YBp]at ei;split at ei<;>cases ei
   trivial
 .match i with
  |0=>cases ei
  |1=>cases ei
  |i+2=>
   rw[YAz,YAz,YBp]at ei;split at ei<;>cases ei
 .subst z;cases ev;exact q H'
end
end Fd
namespace Fd
open PySem L2 Fen
section
variable{P:Program}{w:World}{K:qk}{mg:Str->Option Value}{base:Heap}
local macro_rules|`(tactic| decreasing_trivial)=>`(tactic| first|assumption|exact Bt.len ‹_›|exact Bd.dict ‹_›|exact Bd.abs ‹_›|exact zur ‹_›|exact Bt.range ‹_›|exact Bt.list ‹_›|exact Bt.isinstance ‹_›|exact Bt.all ‹_›|exact Bt.tuple ‹_›|exact Bt.sorted ‹_›|exact Bt.set ‹_›|exact Bt.zip ‹_›|exact Bt.enumerate ‹_›|exact Bt.any ‹_›|exact Bt.min ‹_›|exact Bt.max ‹_›|exact Bt.int ‹_›|exact Bt.bool ‹_›|exact Bt.str ‹_›|exact Room.mono ‹_› (by first|decide|omega)|exact Room.units ‹_›|exact YBt|exact PyProof.Rows.boot_tuple|exact PyProof.Rows.boot_int|exact PyProof.Rows.boot_bool|exact PyProof.Rows.boot_str|decide|exact ndB_of (by kernel_rfl))
structure Xa where
 (aBadName aTaken aFull aNoMark aNoHand aSame aBadRise aAside aNotAside aBadNumber:Addr)
structure Xh(K:qk)(mg:Str->Option Value)(a:Xa):Prop where
 m_BadName:mg "BadName"=some (.ref a.aBadName)
 m_Taken:mg "Taken"=some (.ref a.aTaken)
 m_Full:mg "Full"=some (.ref a.aFull)
 m_NoMark:mg "NoMark"=some (.ref a.aNoMark)
 m_NoHand:mg "NoHand"=some (.ref a.aNoHand)
 m_Same:mg "Same"=some (.ref a.aSame)
 m_BadRise:mg "BadRise"=some (.ref a.aBadRise)
 m_Aside:mg "Aside"=some (.ref a.aAside)
 m_NotAside:mg "NotAside"=some (.ref a.aNotAside)
 m_BadNumber:mg "BadNumber"=some (.ref a.aBadNumber)
 o_BadName:PySem.W.excIn K a.aBadName zfY "ValueError.__new__"=true
 o_Taken:PySem.W.excIn K a.aTaken zfY "ValueError.__new__"=true
 o_Full:PySem.W.excIn K a.aFull zfY "ValueError.__new__"=true
 o_NoMark:PySem.W.excIn K a.aNoMark zfY "ValueError.__new__"=true
 o_NoHand:PySem.W.excIn K a.aNoHand zfY "ValueError.__new__"=true
 o_Same:PySem.W.excIn K a.aSame zfY "ValueError.__new__"=true
 o_BadRise:PySem.W.excIn K a.aBadRise zfY "ValueError.__new__"=true
 o_Aside:PySem.W.excIn K a.aAside zfY "ValueError.__new__"=true
 o_NotAside:PySem.W.excIn K a.aNotAside zfY "ValueError.__new__"=true
 o_BadNumber:PySem.W.excIn K a.aBadNumber zfY "ValueError.__new__"=true
structure Fc(K:qk)(mg:Str->Option Value)(A:Ads):Prop where
 cls:Cls K A.fen
 n_kept:NoAttr K A.fen "kept"
 n_books:NoAttr K A.fen "books"
 n_undone:NoAttr K A.fen "undone"
 m_Fen:mg "Fen"=some (.ref A.fen)
theorem zfL(F:Fun K "_law_same" "_law_same" zow f fd)(hm:mg "_law_same"=some (.ref f))(hb:Binds K fd ["_law_found","_law_due_here"] [])(T:Bt mg) :∀n,FnOk P w K mg base CX0 (1+n) f fd ["_law_found","_law_due_here"] (spD K 2 (zbb n))
 |0=>⟨λvs H Q E ⟨β,G,ds,_,_,_,h,_⟩=>h,λA outer s H args us vs Q E _ _ _ _ ⟨β,G,ds,_,_,_,_,P,z,_⟩=>z.elim⟩
 |n+1=>by
  have cSelf:Cal P w K mg base "_law_same" (1+n) ["_law_found","_law_due_here"] (spD K 2 (zbb n)):=Cal.of F (zfL F hm hb T n) hm hb;exact zcr (N:=["_law_found","_law_due_here"]) (k:=1+n) F λ_ _=>
   (zai (s_if (DW.dt (w_or (zfU (zfI (dv 1))) (zh7 (zfU (zfI (dv 1)))))) (zai (s_if (DW.dt (w_or (t_ne (zfI (dv 0)) (zfI (dv 1))) (zh7 (t_ne (zfI (dv 0)) (zfI (dv 1)))))) (zam (zat zoJ)) za4)
  (zam (zat (zmO (d_eq (zbh (zab (dv 0) zag)) (zbh (zab (dv 1) zag))) (zkY (zrL (zab (DF.de (zbk (Nc:=["_law_one","_law_other"]) (.tp 2 (.cons (.nm 0) (.cons (.nm 1) .nil))) (zuj (dv 0) (dv 1)) (zcU (n:=2) rfl (zaq (gn 0) (zaq (gn 1) zbU))) zcs (zan cSelf (zab (dv 0) (zab (dv 1) zag))))) zag))))))) za4)
  (zai (s_if (DW.dt (w_or (zqi (dv 0)) (zh7 (zqi (dv 1))))) (zam (zat (zmO (ztY (dv 0)) (zkY (ztY (dv 1)))))) za4)
  (zai (s_if (DW.dt (w_or (t_ne (zfI (dv 0)) (zfI (dv 1))) (zh7 (t_ne (zfI (dv 0)) (zfI (dv 1)))))) (zam (zat zoJ)) za4)
  (zam (zat (zmO (d_eq (zfI (dv 0)) (zfI (dv 1))) (zkY (d_eq (dv 0) (dv 1)))))))))
variable{f:Addr}{fd:FuncData}
variable(A:Ads)(T:Bt mg)(T2:Bd mg)(fc:Fc K mg A)(xk:ErrF K mg "FenError" NTx NSx)(xv:mg "ValueError"=none)(gA:GDict P w K mg "ACTIONS" (kvA A))(tb:TabP P w K mg base 4 2 (tabA A)){fI:Addr}{fdI:FuncData}(mkI:Mk K A.fen fI)(okI:FnOk P w K mg base (CXN P w) 2 fI fdI ["self"] (spO K mg 1 (zcb A)))(bI:Binds K fdI ["self"] []){t_HIGHEST_RISE:Tok}{t_LETTERS:Tok}{t_LONGEST_NAME:Tok}{t_MOST_FALSE:Tok}{t_MOST_HANDS:Tok}{t_MOST_RUNS:Tok}{t_MOST_STANDS:Tok}(g_HIGHEST_RISE:mg "HIGHEST_RISE"=some (.int 1000000000 t_HIGHEST_RISE))(g_LETTERS:mg "LETTERS"=some (.str "abcdefghijklmnopqrstuvwxyz" t_LETTERS))(g_LONGEST_NAME:mg "LONGEST_NAME"=some (.int 8 t_LONGEST_NAME))(g_MOST_FALSE:mg "MOST_FALSE"=some (.int 3 t_MOST_FALSE))(g_MOST_HANDS:mg "MOST_HANDS"=some (.int 10 t_MOST_HANDS))(g_MOST_RUNS:mg "MOST_RUNS"=some (.int 40 t_MOST_RUNS))(g_MOST_STANDS:mg "MOST_STANDS"=some (.int 12 t_MOST_STANDS)){xa:Xa}(xh:Xh K mg xa)(og:Cal P w K mg base "_law_take" 1 ["_law_box_here","_law_many"] (spD K 2 zaf))(oO:Cal P w K mg base "_law_names" 2 ["_law_box_here","_law_many"] (spD K 2 zci))(oP:Cal P w K mg base "empty_book" 1 [] (spD K 0 zbH))(oQ:Cal P w K mg base "_law_model" 1 [] (spD K 0 zcZ))(oi:Cal P w K mg base "_law_turns" 1 ["_law_model_here","_law_name"] (spD K 2 zaG))(oj:Cal P w K mg base "_law_place" 2 ["_law_model_here","_law_name"] (spD K 2 zaP))(oZ:Cal P w K mg base "_law_done" 3 ["_law_model_here","_law_deed"] (spD K 2 zcH))(o6:Cal P w K mg base "_law_same" (1+6) ["_law_found","_law_due_here"] (spD K 2 (zbb 6)))(oh:Cal P w K mg base "with_entry" 1 ["book","word","value"] (spD K 3 zaB))(ow:Cal P w K mg base "turns_of" 1 ["stands","name"] (spD K 2 zb6))(oR:Cal P w K mg base "next_stand" 2 ["stands","name"] (spD K 2 zcV))(oA:CalX P w K mg base "with_new_stand" 3 ["book","name"] (spDX K mg 2 zbp))(oS:Cal P w K mg base "is_made_of" 1 ["text","signs","longest"] (spD K 3 zcm))(oK:Cal P w K mg base "is_name" 2 ["text"] (spD K 1 zcy))(oE:CalX P w K mg base "last_stand" 2 ["stands","name"] (spDX K mg 2 zbK))(oq:CalX P w K mg base "need_hand" 1 ["book","name"] (spDX K mg 2 zbG))(o7:CalX P w K mg base "need_rise" 1 ["rise"] (spDX K mg 1 zcX))(oM:CalX P w K mg base "book_behind" 5 ["book","row"] (spDX K mg 2 (zbz A)))(m_now:Met P w K mg base CX0 A.fen "now" 1 ["self"] (spR K 1 (za3 A)))(m_deed:Met P w K mg base (CXN P w) A.fen "deed" 6 ["self","row"] (spO K mg 2 (zb7 A)))(oF:Cal P w K mg base "_law_due_told" 1 ["_law_model_here","_law_deed"] (spD K 2 zbn))(oy:CalX P w K mg base "_law_step" 8 ["_law_fen","_law_model_here","_law_deed"] (spO K mg 3 (za6 A)))(om:Cal P w K mg base "_law_marks" 1 ["_law_model_here"] (spD K 1 zbE))(oG:Cal P w K mg base "_law_truth" 1 ["_law_place_here"] (spD K 1 zcl))(oo:Cal P w K mg base "_law_run_deed" 3 ["_law_box_here","_law_model_here"] (spD K 2 za8))(oU:CalX P w K mg base "_law_begun" 9 ["_law_box_here","_law_most_marks","_law_most_hands","_law_most_runs"] (spO K mg 4 (zc0 A)))(oH:Cal P w K mg base "_law_run_word" 2 ["_law_model_here","_law_deed"] (spD K 2 zbM))(oV:Cal P w K mg base "_law_named" 1 ["_law_word_here"] (spD K 1 zcn))(oI:Cal P w K mg base "_law_new_word" 2 ["_law_model_here","_law_deed"] (spD K 2 zbm))(o8:Cal P w K mg base "_law_word" 3 ["_law_model_here","_law_deed"] (spD K 2 zcI))(oW:InOk P w K mg base 1 "_law_kinds" NSx zc4)(oX:CalX P w K mg base "_law_tried" 7 ["_law_fen","_law_deed"] (spO K mg 2 (zco A)))(oN:CalX P w K mg base "_law_judged" 9 ["_law_fen","_law_model_here","_law_deed"] (spO K mg 3 (zbL A)))(oC:Cal P w K mg base "_law_bent_deed" 2 ["_law_box_here","_law_model_here","_law_pool","_law_deed"] (spD K 4 zbA))(qc:Cal P w K mg base "marks_of" 1 ["stands"] (spD K 1 zeo))(m_marks:Met P w K mg base CX0 A.fen "marks" 2 ["self"] (spR K 1 (zdC A)))(m_hands:Met P w K mg base CX0 A.fen "hands" 2 ["self"] (spR K 1 (zdp A)))(m_asides:Met P w K mg base CX0 A.fen "asides" 2 ["self"] (spR K 1 (zc1 A)))(m_stands:Met P w K mg base CX0 A.fen "stands" 2 ["self"] (spR K 1 (zcT A)))(m_allowed:Met P w K mg base CX0 A.fen "allowed" 2 ["self"] (spR K 1 (zcv A)))(m_runs:Met P w K mg base CX0 A.fen "runs" 2 ["self"] (spR K 1 (zek A)))(oz:Cal P w K mg base "rows_that_count" 1 ["book"] (spD K 1 zbr))(m_counting:Met P w K mg base CX0 A.fen "counting" 2 ["self"] (spR K 1 (zce A)))(m_deeds:Met P w K mg base CX0 A.fen "deeds" 1 ["self"] (spR K 1 (zdz A)))(o9:Cal P w K mg base "_law_seen" 3 ["_law_fen"] (spR K 1 (zds A)))(oJ:Cal P w K mg base "_law_counted" 1 ["_law_model_here"] (spD K 1 zcc))(qd:Cal P w K mg base "_law_due" 2 ["_law_model_here"] (spD K 1 zej))(oY:Cal P w K mg base "_law_right" 8 ["_law_fen","_law_model_here"] (spR K 2 (zbI A)))
noncomputable def zh4(F:Fun K "_law_names" "_law_names" zi7 f fd):FnOk P w K mg base CX0 2 f fd ["_law_box_here","_law_many"] (spD K 2 zci):=
 zcr (N:=["_law_box_here","_law_many","_law_letters","_law_size","_law_place_here","_law_like","_law_first","_law_rows","_law_k","_law_row"]) F λ_ _=>
 (zai (zaZ 2 zad)
  (zai (zaZ 3 (zaU zae (zan og (zab (dv 0) (zab zae zag)))))
  (zai (zaZ 4 (zan og (zab (dv 0) (zab (dv 3) zag))))
  (zai (zaZ 5 (d_eq (zan og (zab (dv 0) (zab zae zag))) zae))
  (zai (zne 6 (Nc:=["_law_k","_law_box_here"]) (.nm 0) (zgU (dv 3)) (gn 0) zcs (zan og (zab (dv 1) (zab zae zag))))
  (zai (zp6 7 (zba zag))
  (zai (ztM (.nm 8) (zgU (dv 1)) (gn 8) (zai (zp6 9 (zlM (dv 6)))
  (zai (s_if (ziY (zfU (dv 5))) (zam (zqs 9 (Nc:=["_law_step_here","_law_box_here"]) (.nm 0) (zgU (zaU (zaU (dv 4) zae) (zan og (zab (dv 0) (zab (zj6 (dv 3) (dv 4)) zag))))) (gn 0) zcs (zan og (zab (dv 1) (zab zae zag))))) za4)
  (zai (zvM 9 (zp4 (zaU (zaw (dv 6) (dv 4)) (zr5 zae (dv 8))) zae) (dv 4))
  (zam (zo9 9 (zrc 7 (zs3 zad (DF.de (zbk (Nc:=["_law_one","_law_letters"]) (.nm 0) (zbZ (dv 9)) (gn 0) zcs (zaw (dv 1) (dv 0))))))))))))
  (zam (zo9 7 (zat (dv 7)))))))))))
def ziD(F:Fun K "empty_book" "empty_book" zdd f fd):FnOk P w K mg base CX0 1 f fd [] (spD K 0 zbH):=
 zcr (N:=[]) F λ_ _=>
 (zam (zat (zqV (zcq (zbX zag) (zcq (zbX zag) (zcq (zbX zag) (zcq (zbX zag) (zcq zae (zcq zae zq2)))))))))
noncomputable def zgi(F:Fun K "__init__" "Fen.__init__" zbP f fd):FnOk P w K mg base (CXN P w) 2 f fd ["self"] (spO K mg 1 (zcb A)):=
 zhs (N:=["self"]) F λY hY _ _=>
 (zaA (zij 0 (λqj M G1=>(zba zag)) fc.cls fc.n_kept)
  (zaA (zij 0 (λqj M G1=>(zba (zab (zoE oP) zag))) fc.cls fc.n_books)
  (zct (zij 0 (λqj M G1=>(zba zag)) fc.cls fc.n_undone))))
def zhO(F:Fun K "_law_model" "_law_model" ziO f fd):FnOk P w K mg base CX0 1 f fd [] (spD K 0 zcZ):=
 zcr (N:=[]) F λ_ _=>
 (zam (zat (zqV (zcq (DF.de (zba zag)) (zcq zr3 (zcq (DF.de (zba zag)) (zcq zae (zcq zae (zcq (DF.de (zba zag)) zq2)))))))))
noncomputable def zhE(F:Fun K "_law_turns" "_law_turns" zi6 f fd):FnOk P w K mg base CX0 1 f fd ["_law_model_here","_law_name"] (spD K 2 zaG):=
 zcr (N:=["_law_model_here","_law_name"]) F λ_ _=>
 (zam (zat (zbh (zab (DF.de (zbk (Nc:=["_law_place_here","_law_name"]) (.nm 0) (zbZ (zar (dv 0) zad)) (gn 0) (zec (t_eq (zaw (dv 0) zae) (dv 1))) (dv 0))) zag))))
def zib(F:Fun K "_law_place" "_law_place" zi9 f fd):FnOk P w K mg base CX0 2 f fd ["_law_model_here","_law_name"] (spD K 2 zaP):=
 zcr (N:=["_law_model_here","_law_name"]) F λ_ _=>
 (zam (zat (ztE (zar (dv 0) zad) (zbX (zab (dv 1) (zab (zan oi (zab (dv 0) (zab (dv 1) zag))) zag))))))
noncomputable def zjy(F:Fun K "_law_done" "_law_done" znQ f fd):FnOk P w K mg base CX0 3 f fd ["_law_model_here","_law_deed"] (spD K 2 zcH):=
 zcr (N:=["_law_model_here","_law_deed","_law_word_here","_law_heeded","_law_row","_law_rows"]) F λ_ _=>
 (zai (zvn 0 (dv 0))
  (zai (zkg 0 (zaU (d_og 0 zad) (DF.de (zba (zab (dv 1) zag)))) zad)
  (zai (zaZ 2 (zaw (dv 1) zae))
  (zai (s_if (DW.dt (w_or (t_eq (dv 2) zad) (zh7 (t_eq (dv 2) zad)))) (zam (zkg 0 (zaU (d_og 0 zad) (DF.de (zba (zab (zbX (zab (zaw (dv 1) zae) (zab (zaU (zom 0 oi (zab (zaw (dv 1) zae) zag)) zae) zag))) zag)))) zad)) (zam (s_if (zml (dv 2) (zbX (zab zad (zab zad (zab zad zag))))) (zu6 3 (d_og 0 zad) (d_ne (dv 2) zad) (zaw (dv 1) zae)
  (zam (zkg 0 (dv 3) zad))) (zam (s_if (t_eq (dv 2) zad) (zai (ztK 0 zad zae)
  (zai (zaZ 4 (zaU (zbX (zab (d_og 0 zad) (zab (zom 0 oj (zab (zaw (dv 1) zae) zag)) (zab (zom 0 oj (zab (zaw (dv 1) zae) zag)) zag)))) (zhy (dv 1) (zfd zae) ze7)))
  (zam (zkg 0 (zaU (d_og 0 zad) (DF.de (zba (zab (dv 4) zag)))) zad)))) (zam (s_if (t_eq (dv 2) zad) (zam (zkg 0 (DF.de (zbk (Nc:=["_law_row","_law_deed"]) (.nm 0) (zbZ (d_og 0 zad)) (gn 0) (zec (t_ne (zaw (dv 0) zae) (zaw (dv 1) zae))) (dv 0))) zad)) (zam (s_if (t_eq (dv 2) zad) (zai (zp6 5 (zba zag))
  (zai (ztM (.nm 4) (zbZ (d_og 0 zad)) (gn 4) (zam (zrc 5 (zaw (DF.de (zba (zab (dv 4) (zab (zaU (zhy (dv 4) ze7 (zfd zae)) (zbX (zab (zaw (dv 1) zae) (zab (zaw (dv 4) zae) zag)))) zag)))) (zes (zab (d_eq (zaw (dv 4) zae) (zaw (dv 1) zae)) zag))))))
  (zam (zo9 5 (zkg 0 (dv 5) zad))))) (zam (zkg 0 (zaw (dv 1) zae) zad)))))))))))
  (zam (zty 0))))))
noncomputable def zhS(F:Fun K "with_entry" "with_entry" zdi f fd):FnOk P w K mg base CX0 1 f fd ["book","word","value"] (spD K 3 zaB):=
 zcr (N:=["book","word","value","fresh"]) F λ_ _=>
 (ztl 0 1 2 3 (x:="fresh") (nb:="book") (nw:="word") (nv:="value") (hb:=(zbw (i:=0) (x:="book") rfl (.inl rfl))) (hw:=(zbw (i:=1) (x:="word") rfl (.inl rfl))) (hv:=(zbw (i:=2) (x:="value") rfl (.inl rfl))))
noncomputable def zkS(F:Fun K "turns_of" "turns_of" ze0 f fd):FnOk P w K mg base CX0 1 f fd ["stands","name"] (spD K 2 zb6):=
 zcr (N:=["stands","name"]) F λ_ _=>
 (zam (zat (zbh (zab (DF.de (zbk (Nc:=["each","turn","name"]) (.tp 2 (.cons (.nm 0) (.cons (.nm 1) .nil))) (zbZ (dv 0)) (zcU (n:=2) rfl (zaq (gn 0) (zaq (gn 1) zbU))) (zec (t_eq (dv 0) (dv 2))) (dv 1))) zag))))
def zil(F:Fun K "next_stand" "next_stand" zdk f fd):FnOk P w K mg base CX0 2 f fd ["stands","name"] (spD K 2 zcV):=
 zcr (N:=["stands","name"]) F λ_ _=>
 (zam (zat (zbX (zab (dv 1) (zab (zaU (zan ow (zab (dv 0) (zab (dv 1) zag))) zae) zag)))))
noncomputable def zfE(F:Fun K "with_new_stand" "with_new_stand" zbN f fd):FnOk P w K mg base (CXN P w) 3 f fd ["book","name"] (spDX K mg 2 zbp):=
 zed (N:=["book","name","stands"]) F λY hY _ _=>
 (zai (DS.nox (zaZ 2 (zar (dv 0) zad)))
  (zai (s_if (DT.nox (t_ge (zbh (zab (dv 2) zag)) (zhj g_MOST_STANDS))) (zam (zbW (zab zad zag) (λ_ _ _ _ _ _ _ _ I t m y=>zc2 I m (hY _ _ _ _ y xh.m_Full t)) xh.o_Full xh.m_Full)) za4)
  (zam (DS.nox (zat (zan oh (zab (dv 0) (zab zad (zab (zaU (dv 2) (zbX (zab (zan oR (zab (dv 2) (zab (dv 1) zag))) zag))) zag)))))))))
noncomputable def zhZ(F:Fun K "is_made_of" "is_made_of" zd4 f fd):FnOk P w K mg base CX0 1 f fd ["text","signs","longest"] (spD K 3 zcm):=
 zcr (N:=["text","signs","longest"]) F λ_ _=>
 (zam (zat (zmO (zlo zae (zbh (zab (dv 0) zag)) (dv 2)) (zkY (zrL (zab (DF.de (zbk (Nc:=["sign","signs"]) (.nm 0) (zbZ (dv 0)) (gn 0) zcs (zuR (dv 0) (dv 1)))) zag))))))
def zmE(F:Fun K "is_name" "is_name" zgu f fd):FnOk P w K mg base CX0 2 f fd ["text"] (spD K 1 zcy):=
 zcr (N:=["text"]) F λ_ _=>
 (zam (zat (zan oS (zab (dv 0) (zab (zs1 g_LETTERS) (zab (zhj g_LONGEST_NAME) zag))))))
noncomputable def zgV(F:Fun K "mark_entered" "mark_entered" zcf f fd):FnOk P w K mg base (CXN P w) 4 f fd ["book","row"] (spDX K mg 2 zcD):=
 zed (N:=["book","row","word","name"]) F λY hY _ _=>
 (zai (DS.nox (zhz (.tp 2 (.cons (.nm 2) (.cons (.nm 3) .nil))) (dv 1) (zcU (n:=2) rfl (zaq (gn 2) (zaq (gn 3) zbU)))))
  (zai (s_if (DT.nox (ziY (zfU (zan oK (zab (dv 3) zag))))) (zam (zbW (zab zad zag) (λ_ _ _ _ _ _ _ _ I t m y=>zc2 I m (hY _ _ _ _ y xh.m_BadName t)) xh.o_BadName xh.m_BadName)) za4)
  (zai (s_if (DT.nox (t_gt (zan ow (zab (zar (dv 0) zad) (zab (dv 3) zag))) zae)) (zam (zbW (zab zad zag) (λ_ _ _ _ _ _ _ _ I t m y=>zc2 I m (hY _ _ _ _ y xh.m_Taken t)) xh.o_Taken xh.m_Taken)) za4)
  (zam (zat (zey oA (DA.nox (zab (dv 0) (zab (dv 3) zag))) (ziV hY)))))))
noncomputable def zgO(F:Fun K "hand_entered" "hand_entered" zcg f fd):FnOk P w K mg base (CXN P w) 3 f fd ["book","row"] (spDX K mg 2 zcJ):=
 zed (N:=["book","row","word","name","hands"]) F λY hY _ _=>
 (zai (DS.nox (zhz (.tp 2 (.cons (.nm 2) (.cons (.nm 3) .nil))) (dv 1) (zcU (n:=2) rfl (zaq (gn 2) (zaq (gn 3) zbU)))))
  (zai (DS.nox (zaZ 4 (zar (dv 0) zad)))
  (zai (s_if (DT.nox (ziY (zfU (zan oK (zab (dv 3) zag))))) (zam (zbW (zab zad zag) (λ_ _ _ _ _ _ _ _ I t m y=>zc2 I m (hY _ _ _ _ y xh.m_BadName t)) xh.o_BadName xh.m_BadName)) za4)
  (zai (s_if (DT.nox (zml (dv 3) (dv 4))) (zam (zbW (zab zad zag) (λ_ _ _ _ _ _ _ _ I t m y=>zc2 I m (hY _ _ _ _ y xh.m_Taken t)) xh.o_Taken xh.m_Taken)) za4)
  (zai (s_if (DT.nox (t_ge (zbh (zab (dv 4) zag)) (zhj g_MOST_HANDS))) (zam (zbW (zab zad zag) (λ_ _ _ _ _ _ _ _ I t m y=>zc2 I m (hY _ _ _ _ y xh.m_Full t)) xh.o_Full xh.m_Full)) za4)
  (zam (DS.nox (zat (zan oh (zab (dv 0) (zab zad (zab (zaU (dv 4) (zbX (zab (dv 3) zag))) zag))))))))))))
noncomputable def zhY(F:Fun K "last_stand" "last_stand" zdo f fd):FnOk P w K mg base (CXN P w) 2 f fd ["stands","name"] (spDX K mg 2 zbK):=
 zed (N:=["stands","name","turns"]) F λY hY _ _=>
 (zai (DS.nox (zaZ 2 (zan ow (zab (dv 0) (zab (dv 1) zag)))))
  (zai (s_if (DT.nox (t_eq (dv 2) zae)) (zam (zbW (zab zad zag) (λ_ _ _ _ _ _ _ _ I t m y=>zc2 I m (hY _ _ _ _ y xh.m_NoMark t)) xh.o_NoMark xh.m_NoMark)) za4)
  (zam (DS.nox (zat (zbX (zab (dv 1) (zab (dv 2) zag))))))))
noncomputable def zj4(F:Fun K "need_hand" "need_hand" zdQ f fd):FnOk P w K mg base (CXN P w) 1 f fd ["book","name"] (spDX K mg 2 zbG):=
 zed (N:=["book","name"]) F λY hY _ _=>
 (zam (s_if (DT.nox (zir (dv 1) (zar (dv 0) zad))) (zam (zbW (zab zad zag) (λ_ _ _ _ _ _ _ _ I t m y=>zc2 I m (hY _ _ _ _ y xh.m_NoHand t)) xh.o_NoHand xh.m_NoHand)) za4))
noncomputable def zjd(F:Fun K "need_rise" "need_rise" zdT f fd):FnOk P w K mg base (CXN P w) 1 f fd ["rise"] (spDX K mg 1 zcX):=
 zed (N:=["rise"]) F λY hY _ _=>
 (zam (s_if (DT.nox (t_gt (zvc (zab (dv 0) zag)) (zhj g_HIGHEST_RISE))) (zam (zbW (zab zad zag) (λ_ _ _ _ _ _ _ _ I t m y=>zc2 I m (hY _ _ _ _ y xh.m_BadRise t)) xh.o_BadRise xh.m_BadRise)) za4))
noncomputable def zg6(F:Fun K "run_entered" "run_entered" zcE f fd):FnOk P w K mg base (CXN P w) 3 f fd ["book","row"] (spDX K mg 2 zc6):=
 zed (N:=["book","row","word","one","other","rise","hand","start","start_turn","end","end_turn","number","run"]) F λY hY _ _=>
 (zai (DS.nox (zhz (.tp 5 (.cons (.nm 2) (.cons (.nm 3) (.cons (.nm 4) (.cons (.nm 5) (.cons (.nm 6) .nil)))))) (dv 1) (zcU (n:=5) rfl (zaq (gn 2) (zaq (gn 3) (zaq (gn 4) (zaq (gn 5) (zaq (gn 6) zbU))))))))
  (zai (zhz (.tp 2 (.cons (.nm 7) (.cons (.nm 8) .nil))) (zey oE (DA.nox (zab (zar (dv 0) zad) (zab (dv 3) zag))) (ziV hY)) (zcU (n:=2) rfl (zaq (gn 7) (zaq (gn 8) zbU))))
  (zai (zhz (.tp 2 (.cons (.nm 9) (.cons (.nm 10) .nil))) (zey oE (DA.nox (zab (zar (dv 0) zad) (zab (dv 4) zag))) (ziV hY)) (zcU (n:=2) rfl (zaq (gn 9) (zaq (gn 10) zbU))))
  (zai (s_if (DT.nox (t_eq (dv 3) (dv 4))) (zam (zbW (zab zad zag) (λ_ _ _ _ _ _ _ _ I t m y=>zc2 I m (hY _ _ _ _ y xh.m_Same t)) xh.o_Same xh.m_Same)) za4)
  (zai (zl9 (zey oq (DA.nox (zab (dv 0) (zab (dv 6) zag))) (ziV hY)))
  (zai (zl9 (zey o7 (DA.nox (zab (dv 5) zag)) (ziV hY)))
  (zai (s_if (DT.nox (t_ge (zbh (zab (zar (dv 0) zad) zag)) (zhj g_MOST_RUNS))) (zam (zbW (zab zad zag) (λ_ _ _ _ _ _ _ _ I t m y=>zc2 I m (hY _ _ _ _ y xh.m_Full t)) xh.o_Full xh.m_Full)) za4)
  (zai (DS.nox (zaZ 11 (zaU (zar (dv 0) zad) zae)))
  (zai (DS.nox (zaZ 12 (zbX (zab (dv 11) (zab (dv 7) (zab (dv 8) (zab (dv 9) (zab (dv 10) (zab (dv 5) (zab (dv 6) zag))))))))))
  (zam (DS.nox (zat (zan oh (zab (zan oh (zab (dv 0) (zab zad (zab (dv 11) zag)))) (zab zad (zab (zaU (zar (dv 0) zad) (zbX (zab (dv 12) zag))) zag))))))))))))))))
noncomputable def zfA(F:Fun K "hand_set_aside" "hand_set_aside" zbQ f fd):FnOk P w K mg base (CXN P w) 2 f fd ["book","row"] (spDX K mg 2 zb5):=
 zed (N:=["book","row","word","hand"]) F λY hY _ _=>
 (zai (DS.nox (zhz (.tp 2 (.cons (.nm 2) (.cons (.nm 3) .nil))) (dv 1) (zcU (n:=2) rfl (zaq (gn 2) (zaq (gn 3) zbU)))))
  (zai (zl9 (zey oq (DA.nox (zab (dv 0) (zab (dv 3) zag))) (ziV hY)))
  (zai (s_if (DT.nox (zml (dv 3) (zar (dv 0) zad))) (zam (zbW (zab zad zag) (λ_ _ _ _ _ _ _ _ I t m y=>zc2 I m (hY _ _ _ _ y xh.m_Aside t)) xh.o_Aside xh.m_Aside)) za4)
  (zam (DS.nox (zat (zan oh (zab (dv 0) (zab zad (zab (zaU (zar (dv 0) zad) (zbX (zab (dv 3) zag))) zag))))))))))
noncomputable def zg7(F:Fun K "hand_heeded" "hand_heeded" zcF f fd):FnOk P w K mg base (CXN P w) 2 f fd ["book","row"] (spDX K mg 2 zdb):=
 zed (N:=["book","row","word","hand"]) F λY hY _ _=>
 (zai (DS.nox (zhz (.tp 2 (.cons (.nm 2) (.cons (.nm 3) .nil))) (dv 1) (zcU (n:=2) rfl (zaq (gn 2) (zaq (gn 3) zbU)))))
  (zai (zl9 (zey oq (DA.nox (zab (dv 0) (zab (dv 3) zag))) (ziV hY)))
  (zai (s_if (DT.nox (zir (dv 3) (zar (dv 0) zad))) (zam (zbW (zab zad zag) (λ_ _ _ _ _ _ _ _ I t m y=>zc2 I m (hY _ _ _ _ y xh.m_NotAside t)) xh.o_NotAside xh.m_NotAside)) za4)
  (zam (DS.nox (zat (zan oh (zab (dv 0) (zab zad (zab (zry (zab (DF.de (zbk (Nc:=["each","hand"]) (.nm 0) (zbZ (zar (dv 0) zad)) (gn 0) (zec (t_ne (dv 0) (dv 1))) (dv 0))) zag)) zag))))))))))
noncomputable def zfl(F:Fun K "number_allowed" "number_allowed" zby f fd):FnOk P w K mg base (CXN P w) 2 f fd ["book","row"] (spDX K mg 2 zbq):=
 zed (N:=["book","row","word","many"]) F λY hY _ _=>
 (zai (DS.nox (zhz (.tp 2 (.cons (.nm 2) (.cons (.nm 3) .nil))) (dv 1) (zcU (n:=2) rfl (zaq (gn 2) (zaq (gn 3) zbU)))))
  (zai (s_if (DT.nox (DW.dt (w_or (t_lt (dv 3) zae) (zh7 (t_gt (dv 3) (zhj g_MOST_FALSE)))))) (zam (zbW (zab zad zag) (λ_ _ _ _ _ _ _ _ I t m y=>zc2 I m (hY _ _ _ _ y xh.m_BadNumber t)) xh.o_BadNumber xh.m_BadNumber)) za4)
  (zam (DS.nox (zat (zan oh (zab (dv 0) (zab zad (zab (dv 3) zag)))))))))
noncomputable def zg5(F:Fun K "book_behind" "book_behind" zcO f fd):FnOk P w K mg base (CXN P w) 5 f fd ["book","row"] (spDX K mg 2 (zbz A)):=
 zed (N:=["book","row","action"]) F λY hY _ _=>
 (zai (DS.nox (zaZ 2 (zvt gA (zaw (dv 1) zae))))
  (zam (zat (zru (tb.at ‹_›) (DA.nox (zab (dv 0) (zab (dv 1) zag))) (ziV hY)))))
def zmm(F:Fun K "now" "Fen.now" zeZ f fd):FnOk P w K mg base CX0 1 f fd ["self"] (spR K 1 (za3 A)):=
 zdS (N:=["self"]) F λqj _ _=>
 (zam (zat (zu1 0 (zjM zae) zb2 fc.cls fc.n_books)))
noncomputable def zkV(F:Fun K "deed" "Fen.deed" zdL f fd):FnOk P w K mg base (CXN P w) 6 f fd ["self","row"] (spO K mg 2 (zb7 A)):=
 zhs (N:=["self","row","book"]) F λY hY _ _=>
 (zaA (zjA 2 (zsx oM (zaN (oe_l λqj M G1=>(DE.nox (zbt m_now zqU))) (zaN (oe_l λqj M G1=>(DE.nox (dv 1))) zd5)) (zvo hY)))
  (zaA (zqC 0 (λqj M G1=>(dv 1)) fc.cls fc.n_kept)
  (zaA (zqC 0 (λqj M G1=>(dv 2)) fc.cls fc.n_books)
  (zaA (zij 0 (λqj M G1=>(zba zag)) fc.cls fc.n_undone)
  (zaA (zaQ λqj M G1=>(DS.nox (s_if (t_eq (zaw (dv 1) zae) zad) (zam (zat (zar (dv 2) zad))) za4)))
  (zct (zaQ λqj M G1=>(DS.nox (zat zgK)))))))))
noncomputable def zf2(F:Fun K "_law_due_told" "_law_due_told" zfi f fd):FnOk P w K mg base CX0 1 f fd ["_law_model_here","_law_deed"] (spD K 2 zbn):=
 zcr (N:=["_law_model_here","_law_deed"]) F λ_ _=>
 (zam (zat (zaw (DF.de (zba (zab zgK (zab (zaU (zar (dv 0) zad) zae) zag)))) (zes (zab (d_eq (zaw (dv 1) zae) zad) zag)))))
noncomputable def ziM(F:Fun K "_law_step" "_law_step" zol f fd):FnOk P w K mg base (CXN P w) 8 f fd ["_law_fen","_law_model_here","_law_deed"] (spO K mg 3 (za6 A)):=
 zhs (N:=["_law_fen","_law_model_here","_law_deed"]) F λY hY _ _=>
 (OSs.nox (zaA (zqR (zqP o6 (zaN (ztG m_deed (λqj M G1=>dv 0) (zaN (oe_l λqj M G1=>(dv 2)) zd5) zjE) (zaN (oe_l λqj M G1=>(zan oF (zab (dv 1) (zab (dv 2) zag)))) zd5))) (zct (zaQ λqj M G1=>(zat zgK))) zhv)
  (zct (zaQ λqj M G1=>(zat (zan oZ (zab (dv 1) (zab (dv 2) zag))))))))
noncomputable def zid(F:Fun K "_law_marks" "_law_marks" ziI f fd):FnOk P w K mg base CX0 1 f fd ["_law_model_here"] (spD K 1 zbE):=
 zcr (N:=["_law_model_here"]) F λ_ _=>
 (zam (zat (DF.de (zbk (Nc:=["_law_name","_law_turn"]) (.tp 2 (.cons (.nm 0) (.cons (.nm 1) .nil))) (zbZ (zar (dv 0) zad)) (zcU (n:=2) rfl (zaq (gn 0) (zaq (gn 1) zbU))) (zec (t_eq (dv 1) zae)) (dv 0)))))
def zhK(F:Fun K "_law_truth" "_law_truth" zjn f fd):FnOk P w K mg base CX0 1 f fd ["_law_place_here"] (spD K 1 zcl):=
 zcr (N:=["_law_place_here"]) F λ_ _=>
 (zam (zat (zj6 (zp4 (zr5 (zr5 (dv 0) (dv 0)) zae) zae) (dv 0))))
noncomputable def zfX(F:Fun K "_law_run_deed" "_law_run_deed" zeM f fd):FnOk P w K mg base CX0 3 f fd ["_law_box_here","_law_model_here"] (spD K 2 za8):=
 zcr (N:=["_law_box_here","_law_model_here","_law_marks_here","_law_hands","_law_at","_law_one","_law_other","_law_rise"]) F λ_ _=>
 (zai (zaZ 2 (zan om (zab (dv 1) zag)))
  (zai (zaZ 3 (DF.de (zly (zar (dv 1) zad))))
  (zai (s_if (DW.dt (w_or (t_lt (zbh (zab (dv 2) zag)) zae) (w_or (t_eq (dv 3) (DF.de (zba zag))) (zh7 (t_ge (zbh (zab (zar (dv 1) zad) zag)) zae))))) (zam (zat zgK)) za4)
  (zai (zaZ 4 (zan og (zab (dv 0) (zab (zbh (zab (dv 2) zag)) zag))))
  (zai (zu9 5 6 (zaw (dv 2) (dv 4)) (zaw (dv 2) (zp4 (zaU (zaU (dv 4) zae) (zan og (zab (dv 0) (zab (zj6 (zbh (zab (dv 2) zag)) zae) zag)))) (zbh (zab (dv 2) zag)))))
  (zai (zaZ 7 (zj6 (zan oG (zab (zan oj (zab (dv 1) (zab (dv 6) zag))) zag)) (zan oG (zab (zan oj (zab (dv 1) (zab (dv 5) zag))) zag))))
  (zai (s_if (t_eq (zan og (zab (dv 0) (zab zae zag))) zae) (zam (zaZ 7 (zaw (DF.de (zba (zab (zaU (dv 7) zae) (zab (zj6 (dv 7) zae) (zab (zan og (zab (dv 0) (zab zae zag))) (zab (zjM zae) zag)))))) (zan og (zab (dv 0) (zab zae zag)))))) za4)
  (zam (zat (zbX (zab zad (zab (dv 5) (zab (dv 6) (zab (dv 7) (zab (zaw (dv 3) (zan og (zab (dv 0) (zab (zbh (zab (dv 3) zag)) zag)))) zag)))))))))))))))
noncomputable def zhQ(F:Fun K "_law_begun" "_law_begun" ziW f fd):FnOk P w K mg base (CXN P w) 9 f fd ["_law_box_here","_law_most_marks","_law_most_hands","_law_most_runs"] (spO K mg 4 (zc0 A)):=
 zhs (N:=["_law_box_here","_law_most_marks","_law_most_hands","_law_most_runs","_law_pool","_law_fen","_law_model_here","_law_deeds","_law_deed","_law_k"]) F λY hY _ _=>
 (OSs.nox (zaA (zaQ λqj M G1=>(zaZ 4 (zan oO (zab (dv 0) (zab zae zag)))))
  (zaA (zjA 5 (zsT mkI okI fc.m_Fen bI zjE))
  (zaA (zaQ λqj M G1=>(zaZ 6 (zoE oQ)))
  (zaA (zaQ λqj M G1=>(zqs 7 (Nc:=["_law_k","_law_pool"]) (.nm 0) (zgU (zaU zae (zan og (zab (dv 0) (zab (dv 1) zag))))) (gn 0) zcs (zbX (zab zad (zab (zaw (dv 1) (dv 0)) zag)))))
  (zaA (zaQ λqj M G1=>(zo9 7 (zp6 7 (zvb (dv 7) (DF.de (zbk (Nc:=["_law_k","_law_pool"]) (.nm 0) (zgU (zaU zae (zan og (zab (dv 0) (zab (dv 2) zag))))) (gn 0) zcs (zbX (zab zad (zab (zaw (dv 1) (zj6 zae (dv 0))) zag)))))))))
  (zaA (zaQ λqj M G1=>(zrc 7 (zbX (zab zad (zab (zan og (zab (dv 0) (zab zae zag))) zag)))))
  (zaA (zs4 7 (zov (.nm 8) (λqj M G1=>(zbZ (dv 7))) (gn 8) (zct (zqg (λqj M G1=>(znr (dv 6))) (zct (zjA 6 (zfC oy (zaN (oe_l λqj M G1=>(dv 5)) (zaN (oe_l λqj M G1=>(dv 6)) (zaN (oe_l λqj M G1=>(dv 8)) zd5))) zjE))) zhv))))
  (zaA (zov (.nm 9) (λqj M G1=>(zgU (zan og (zab (dv 0) (zab (zaU (dv 3) zae) zag))))) (gn 9) (zct (zqg (λqj M G1=>(znr (dv 6))) (zaA (zaQ λqj M G1=>(zaZ 8 (zan oo (zab (dv 0) (zab (dv 6) zag)))))
  (zct (zqg (λqj M G1=>(znr (dv 8))) (zct (zjA 6 (zfC oy (zaN (oe_l λqj M G1=>(dv 5)) (zaN (oe_l λqj M G1=>(dv 6)) (zaN (oe_l λqj M G1=>(dv 8)) zd5))) zjE))) zhv))) zhv)))
  (zct (zaQ λqj M G1=>(zat (zbX (zab (dv 5) (zab (dv 6) (zab (dv 4) zag))))))))))))))))
noncomputable def zfT(F:Fun K "_law_run_word" "_law_run_word" zfg f fd):FnOk P w K mg base CX0 2 f fd ["_law_model_here","_law_deed"] (spD K 2 zbM):=
 zcr (N:=["_law_model_here","_law_deed","_law_word_here","_law_one","_law_other","_law_rise","_law_hand"]) F λ_ _=>
 (zai (zhz (.tp 5 (.cons (.nm 2) (.cons (.nm 3) (.cons (.nm 4) (.cons (.nm 5) (.cons (.nm 6) .nil)))))) (dv 1) (zcU (n:=5) rfl (zaq (gn 2) (zaq (gn 3) (zaq (gn 4) (zaq (gn 5) (zaq (gn 6) zbU)))))))
  (zai (s_if (DW.dt (w_or (t_eq (zan oi (zab (dv 0) (zab (dv 3) zag))) zae) (zh7 (t_eq (zan oi (zab (dv 0) (zab (dv 4) zag))) zae)))) (zam (zat zad)) za4)
  (zai (s_if (t_eq (dv 3) (dv 4)) (zam (zat zad)) za4)
  (zai (s_if (zl5 (dv 6) (zar (dv 0) zad)) (zam (zat zad)) za4)
  (zai (s_if (ziY (zta (zjM zae) (dv 5) zae)) (zam (zat zad)) za4)
  (zam (zat (zaw (DF.de (zba (zab zad (zab zad zag)))) (zes (zab (d_eq (zbh (zab (zar (dv 0) zad) zag)) zae) zag))))))))))
noncomputable def zhN(F:Fun K "_law_named" "_law_named" zjc f fd):FnOk P w K mg base CX0 1 f fd ["_law_word_here"] (spD K 1 zcn):=
 zcr (N:=["_law_word_here"]) F λ_ _=>
 (zam (zat (zmO (zlo zae (zbh (zab (dv 0) zag)) zae) (zkY (zrL (zab (DF.de (zbk (Nc:=["_law_sign"]) (.nm 0) (zbZ (dv 0)) (gn 0) zcs (zuR (dv 0) zad))) zag))))))
noncomputable def zfS(F:Fun K "_law_new_word" "_law_new_word" zff f fd):FnOk P w K mg base CX0 2 f fd ["_law_model_here","_law_deed"] (spD K 2 zbm):=
 zcr (N:=["_law_model_here","_law_deed"]) F λ_ _=>
 (zai (s_if (ziY (zfU (zan oV (zab (zaw (dv 1) zae) zag)))) (zam (zat zad)) za4)
  (zai (s_if (t_eq (zaw (dv 1) zae) zad) (zai (s_if (zvP (zaw (dv 1) zae) (zar (dv 0) zad)) (zam (zat zad)) za4)
  (zam (zat (zaw (DF.de (zba (zab zad (zab zad zag)))) (zes (zab (d_eq (ztN (zar (dv 0) zad)) zae) zag)))))) za4)
  (zai (s_if (t_gt (zan oi (zab (dv 0) (zab (zaw (dv 1) zae) zag))) zae) (zam (zat zad)) za4)
  (zam (zat (zaw (DF.de (zba (zab zad (zab zad zag)))) (zes (zab (d_eq (zbh (zab (zar (dv 0) zad) zag)) zae) zag))))))))
noncomputable def zjY(F:Fun K "_law_word" "_law_word" zoa f fd):FnOk P w K mg base CX0 3 f fd ["_law_model_here","_law_deed"] (spD K 2 zcI):=
 zcr (N:=["_law_model_here","_law_deed"]) F λ_ _=>
 (zai (s_if (t_eq (zaw (dv 1) zae) zad) (zam (zat (zan oH (zab (dv 0) (zab (dv 1) zag))))) za4)
  (zai (s_if (zml (zaw (dv 1) zae) (zbX (zab zad (zab zad zag)))) (zam (zat (zan oI (zab (dv 0) (zab (dv 1) zag))))) za4)
  (zai (s_if (t_eq (zaw (dv 1) zae) zad) (zai (s_if (t_eq (zan oi (zab (dv 0) (zab (zaw (dv 1) zae) zag))) zae) (zam (zat zad)) za4)
  (zam (zat (zaw (DF.de (zba (zab zad (zab zad zag)))) (zes (zab (d_eq (zbh (zab (zar (dv 0) zad) zag)) zae) zag)))))) za4)
  (zai (s_if (zml (zaw (dv 1) zae) (zbX (zab zad (zab zad zag)))) (zai (s_if (ziY (zfU (zvu (zab (DF.de (zbk (Nc:=["_law_row","_law_deed"]) (.nm 0) (zbZ (zar (dv 0) zad)) (gn 0) zcs (d_eq (zaw (dv 0) zae) (zaw (dv 1) zae)))) zag)))) (zam (zat zad)) za4)
  (zam (zat (zaw (DF.de (zba (zab zad (zab zad zag)))) (zes (zab (zmO (d_eq (zaw (dv 1) zae) zad) (zkY (zuk (zlo (zjM zae) (zaw (dv 1) zae) zae)))) zag)))))) za4)
  (zai (s_if (t_eq (zaw (dv 1) zae) zad) (zam (zat (zaw (DF.de (zba (zab zad (zab zad zag)))) (zes (zab (zlo zae (zaw (dv 1) zae) zae) zag))))) za4)
  (zai (s_if (zl5 (zaw (dv 1) zae) (zar (dv 0) zad)) (zam (zat zad)) za4)
  (zai (s_if (t_eq (zaw (dv 1) zae) zad) (zam (zat (zaw (DF.de (zba (zab zad (zab zad zag)))) (zes (zab (zar (zar (dv 0) zad) (zaw (dv 1) zae)) zag))))) za4)
  (zam (zat (zaw (DF.de (zba (zab zad (zab zad zag)))) (zes (zab (zar (zar (dv 0) zad) (zaw (dv 1) zae)) zag))))))))))))
noncomputable def zhC(F:Fun K "_law_kinds" "_law_kinds" zi3 f fd)(hm:mg "_law_kinds"=some (.ref f))(hb:Binds K fd ["_law_e"] []):InOk P w K mg base 1 "_law_kinds" NSx zc4:=
 zv2 (N:=["_law_e","_law_h","_law_w"]) F hm hb λnm ea C oe _ hn hmn hoc h=>
 (zai (zaZ 1 (DF.de (zba (zab (zdH xk (dv 0) YAg hoc hn hmn) (zab (zdH xk (dv 0) YAg hoc hn hmn) (zab (zdH xk (dv 0) YAg hoc hn hmn) (zab (zdH xk (dv 0) YAg hoc hn hmn) zag)))))))
  (zai (zaZ 1 (zaU (dv 1) (DF.de (zba (zab (zdH xk (dv 0) YAg hoc hn hmn) (zab (zdH xk (dv 0) YAg hoc hn hmn) (zab (zdH xk (dv 0) YAg hoc hn hmn) (zab (zdH xk (dv 0) YAg hoc hn hmn) zag))))))))
  (zai (zaZ 1 (zaU (dv 1) (DF.de (zba (zab (zdH xk (dv 0) YAg hoc hn hmn) (zab (zdH xk (dv 0) YAg hoc hn hmn) (zab (zdH xk (dv 0) YAg hoc hn hmn) (zab (zdH xk (dv 0) YAg hoc hn hmn) zag))))))))
  (zai (zaZ 1 (zaU (dv 1) (DF.de (zba (zab (zdH xk (dv 0) YAg hoc hn hmn) (zab (zdH xk (dv 0) YAg hoc hn hmn) (zab (zdH xk (dv 0) YAg hoc hn hmn) (zab (zdH xk (dv 0) YAg hoc hn hmn) zag))))))))
  (zai (zaZ 1 (zaU (dv 1) (DF.de (zba (zab (zdH xk (dv 0) YAg hoc hn hmn) (zab (zdH xk (dv 0) YAg hoc hn hmn) (zab (zuk (zvZ xk (dv 0) YAg hoc hn hmn xv)) zag)))))))
  (zai (zaZ 2 zad)
  (zai (zaZ 2 (zsa (zaU (dv 2) zad) zad))
  (zam (zat (DF.de (znP (Nc:=["_law_at","_law_w","_law_h"]) (.nm 0) h (zbh (zab (dv 2) zag)) (gn 0) (zec (zfU (zaw (dv 2) (dv 0)))) (zaw (dv 1) (dv 0)) T.range)))))))))))
noncomputable def ziw(F:Fun K "_law_tried" "_law_tried" zjP f fd):FnOk P w K mg base (CXN P w) 7 f fd ["_law_fen","_law_deed"] (spO K mg 2 (zco A)):=
 zhs (N:=["_law_fen","_law_deed","_law_found","_law_kinds_here","_law_e"]) F λY hY _ _=>
 (OSs.nox (zaA (zaQ λqj M G1=>(zaZ 2 zgK))
  (zaA (zaQ λqj M G1=>(zaZ 3 (DF.de (zba zag))))
  (zaA (zsu 2 4 3 m_deed oW xk zqm (λqj M G1=>dv 0) (zaN (oe_l λqj M G1=>(dv 1)) zd5))
  (zct (zaQ λqj M G1=>(zat (zbX (zab (dv 2) (zab (dv 3) zag))))))))))
noncomputable def zg4(F:Fun K "_law_judged" "_law_judged" zgG f fd):FnOk P w K mg base (CXN P w) 9 f fd ["_law_fen","_law_model_here","_law_deed"] (spO K mg 3 (zbL A)):=
 zhs (N:=["_law_fen","_law_model_here","_law_deed","_law_word_here"]) F λY hY _ _=>
 (OSs.nox (zaA (zaQ λqj M G1=>(zaZ 3 (zan o8 (zab (dv 1) (zab (dv 2) zag)))))
  (zaA (zqg (λqj M G1=>(t_eq (dv 3) zad)) (zct (zuA (zfC oy (zaN (oe_l λqj M G1=>(dv 0)) (zaN (oe_l λqj M G1=>(dv 1)) (zaN (oe_l λqj M G1=>(dv 2)) zd5))) zjE))) zhv)
  (zaA (zqR (zqP o6 (zaN (zfC oX (zaN (oe_l λqj M G1=>(dv 0)) (zaN (oe_l λqj M G1=>(dv 2)) zd5)) zjE) (zaN (oe_l λqj M G1=>(zbX (zab zgK (zab (DF.de (zba (zab (dv 3) zag))) zag)))) zd5))) (zct (zaQ λqj M G1=>(zat zgK))) zhv)
  (zct (zaQ λqj M G1=>(zat (dv 1))))))))
noncomputable def zfF(F:Fun K "_law_bent_deed" "_law_bent_deed" zdW f fd):FnOk P w K mg base CX0 2 f fd ["_law_box_here","_law_model_here","_law_pool","_law_deed"] (spD K 4 zbA):=
 zcr (N:=["_law_box_here","_law_model_here","_law_pool","_law_deed","_law_at","_law_bad","_law_some","_law_thing"]) F λ_ _=>
 (zai (zaZ 4 (zaU zae (zan og (zab (dv 0) (zab (zj6 (zbh (zab (dv 3) zag)) zae) zag)))))
  (zai (s_if (zfU (zfI (zaw (dv 3) (dv 4)))) (zai (zaZ 5 (DF.de (zba (zab zad (zab (zaU (zaw (dv 2) zae) (zui (zhy (zaw (dv 2) zae) ze7 (zfd zae)) zae)) (zab (zaU (zhy (zaw (dv 2) zae) ze7 (zfd zae)) zad) (zab (zaU (zhy (zaw (dv 2) zae) ze7 (zfd zae)) zad) (zab zad zag))))))))
  (zai (zaZ 6 (zaU (zaU (zaU (dv 2) (zan om (zab (dv 1) zag))) (DF.de (zly (zar (dv 1) zad)))) (dv 5)))
  (zam (zaZ 7 (zaw (dv 6) (zan og (zab (dv 0) (zab (zbh (zab (dv 6) zag)) zag)))))))) (zai (zaZ 6 (DF.de (zba (zab zae (zab (zjM zae) (zab zae (zab zae (zab zae (zab zae (zab zae (zab (zjM zae) (zab (zjM zae) (zab (zuv zae zae) (zab (zjM (zuv zae zae)) zag))))))))))))))
  (zam (zaZ 7 (zaw (zaU (dv 6) (DF.de (zba (zab (zar (dv 1) zad) (zab (zaU (zar (dv 1) zad) zae) zag))))) (zan og (zab (dv 0) (zab (zaU (zbh (zab (dv 6) zag)) zae) zag))))))))
  (zam (zat (zaU (zaU (zhy (dv 3) ze7 (zfd (dv 4))) (zbX (zab (dv 7) zag))) (zhy (dv 3) (zfd (zaU (dv 4) zae)) ze7))))))
noncomputable def zkE(F:Fun K "marks_of" "marks_of" zfh f fd):FnOk P w K mg base CX0 1 f fd ["stands"] (spD K 1 zeo):=
 zcr (N:=["stands"]) F λ_ _=>
 (zam (zat (DF.de (zbk (Nc:=["name","turn"]) (.tp 2 (.cons (.nm 0) (.cons (.nm 1) .nil))) (zbZ (dv 0)) (zcU (n:=2) rfl (zaq (gn 0) (zaq (gn 1) zbU))) (zec (t_eq (dv 1) zae)) (dv 0)))))
def zjK(F:Fun K "marks" "Fen.marks" zdl f fd):FnOk P w K mg base CX0 2 f fd ["self"] (spR K 1 (zdC A)):=
 zdS (N:=["self"]) F λqj _ _=>
 (zam (zat (zan qc (zab (zar (zbt m_now zb2) zad) zag))))
def zjw(F:Fun K "hands" "Fen.hands" zdg f fd):FnOk P w K mg base CX0 2 f fd ["self"] (spR K 1 (zdp A)):=
 zdS (N:=["self"]) F λqj _ _=>
 (zam (zat (DF.de (zlM (zar (zbt m_now zb2) zad)))))
noncomputable def zhW(F:Fun K "asides" "Fen.asides" zcA f fd):FnOk P w K mg base CX0 2 f fd ["self"] (spR K 1 (zc1 A)):=
 zdS (N:=["self","book"]) F λqj _ _=>
 (zai (zaZ 1 (zbt m_now zb2))
  (zam (zat (DF.de (zbk (Nc:=["hand","book"]) (.nm 0) (zbZ (zar (dv 1) zad)) (gn 0) (zec (zml (dv 0) (zar (dv 1) zad))) (dv 0))))))
def ziy(F:Fun K "stands" "Fen.stands" zcG f fd):FnOk P w K mg base CX0 2 f fd ["self"] (spR K 1 (zcT A)):=
 zdS (N:=["self"]) F λqj _ _=>
 (zam (zat (DF.de (zlM (zar (zbt m_now zb2) zad)))))
def zg9(F:Fun K "allowed" "Fen.allowed" zch f fd):FnOk P w K mg base CX0 2 f fd ["self"] (spR K 1 (zcv A)):=
 zdS (N:=["self"]) F λqj _ _=>
 (zam (zat (zar (zbt m_now zb2) zad)))
def zkm(F:Fun K "runs" "Fen.runs" zdR f fd):FnOk P w K mg base CX0 2 f fd ["self"] (spR K 1 (zek A)):=
 zdS (N:=["self"]) F λqj _ _=>
 (zam (zat (DF.de (zlM (zar (zbt m_now zb2) zad)))))
def zeP(F:Fun K "rows_that_count" "rows_that_count" zbx f fd):FnOk P w K mg base CX0 1 f fd ["book"] (spD K 1 zbr):=
 zcr (N:=["book"]) F λ_ _=>
 (zam (zat (DF.de (zbk (Nc:=["run","book"]) (.nm 0) (zbZ (zar (dv 0) zad)) (gn 0) (zec (zir (zaw (dv 0) zae) (zar (dv 1) zad))) (dv 0)))))
def zgH(F:Fun K "counting" "Fen.counting" zbR f fd):FnOk P w K mg base CX0 2 f fd ["self"] (spR K 1 (zce A)):=
 zdS (N:=["self"]) F λqj _ _=>
 (zam (zat (DF.de (zbk (Nc:=["run"]) (.nm 0) (zbZ (zan oz (zab (zbt m_now zb2) zag))) (gn 0) zcs (zaw (dv 0) zae)))))
def zjX(F:Fun K "deeds" "Fen.deeds" zde f fd):FnOk P w K mg base CX0 1 f fd ["self"] (spR K 1 (zdz A)):=
 zdS (N:=["self"]) F λqj _ _=>
 (zam (zat (DF.de (zv4 0 zb2 fc.cls fc.n_kept))))
noncomputable def ziP(F:Fun K "_law_seen" "_law_seen" znm f fd):FnOk P w K mg base CX0 3 f fd ["_law_fen"] (spR K 1 (zds A)):=
 zdS (N:=["_law_fen","_law_found"]) F λqj _ _=>
 (zai (zaZ 1 (DF.de (zba (zab (zbt m_marks zb2) (zab (zbt m_hands zb2) (zab (zbt m_asides zb2) (zab (zbt m_stands zb2) (zab (zbt m_allowed zb2) (zab (zbt m_runs zb2) (zab (zbt m_counting zb2) zag))))))))))
  (zam (zat (zaU (dv 1) (DF.de (zba (zab (zbt m_deeds zb2) zag)))))))
noncomputable def zgs(F:Fun K "_law_counted" "_law_counted" zeW f fd):FnOk P w K mg base CX0 1 f fd ["_law_model_here"] (spD K 1 zcc):=
 zcr (N:=["_law_model_here"]) F λ_ _=>
 (zam (zat (DF.de (zbk (Nc:=["_law_row","_law_model_here"]) (.nm 0) (zbZ (zar (dv 0) zad)) (gn 0) (zec (zfU (zar (zar (dv 1) zad) (zaw (dv 0) zae)))) (dv 0)))))
noncomputable def zkA(F:Fun K "_law_due" "_law_due" sDue f fd):FnOk P w K mg base CX0 2 f fd ["_law_model_here"] (spD K 1 zej):=
 zcr (N:=["_law_model_here","_law_places","_law_rows","_law_asides","_law_found"]) F λ_ _=>
 (zai (zaZ 1 (zar (dv 0) zad))
  (zai (zne 2 (Nc:=["_law_row","_law_places"]) (.nm 0) (zbZ (zar (dv 0) zad)) (gn 0) zcs (zaU (zaU (zaU (zbX (zab (zaw (dv 0) zae) zag)) (zaw (dv 1) (zaw (dv 0) zae))) (zaw (dv 1) (zaw (dv 0) zae))) (zhy (dv 0) (zfd zae) ze7)))
  (zai (zne 3 (Nc:=["_law_hand","_law_model_here"]) (.nm 0) (zsP (zar (dv 0) zad)) (gn 0) (zec (ziY (zfU (zar (zar (dv 1) zad) (dv 0))))) (dv 0))
  (zai (zaZ 4 (DF.de (zba (zab (zan om (zab (dv 0) zag)) (zab (DF.de (zly (zar (dv 0) zad))) (zab (dv 3) (zab (dv 1) (zab (zar (dv 0) zad) (zab (dv 2) zag)))))))))
  (zam (zat (zaU (dv 4) (DF.de (zba (zab (DF.de (zbk (Nc:=["_law_row"]) (.nm 0) (zbZ (zan oJ (zab (dv 0) zag))) (gn 0) zcs (zaw (dv 0) zae))) (zab (zar (dv 0) zad) zag)))))))))))
noncomputable def zii(F:Fun K "_law_right" "_law_right" zi2 f fd):FnOk P w K mg base CX0 8 f fd ["_law_fen","_law_model_here"] (spR K 2 (zbI A)):=
 zdS (N:=["_law_fen","_law_model_here"]) F λqj _ _=>
 (zam (zat (zan o6 (zab (zod o9 (zab (dv 0) zag) zb2) (zab (zan qd (zab (dv 1) zag)) zag)))))
noncomputable def zsR(F:Fun K "law" "law" sLaw f fd)(cB:Cal P w K mg base "_law_box" 1 ["_law_script"] (Fen.zsp K))(hw:lawF 7 (zdY A)):FnOk P w K mg base CX0 10 f fd ["_law_script"] (zoz K):=by
 refine zso (N:=["_law_fen","_law_model_here","_law_pool","_law_k","_law_way","_law_hands","_law_deed"]) (k:=9) F rfl cB (λ_ _=>?_) hw;unfold zdY;exact(zaA (ztL (.tp 3 (.cons (.nm 2) (.cons (.nm 3) (.cons (.nm 4) .nil)))) (zfC oU (zaN (oe_l λqj M G1=>(dv 1)) (zaN (oe_l λqj M G1=>zae) (zaN (oe_l λqj M G1=>zae) (zaN (oe_l λqj M G1=>zae) zd5)))) zjE) (zcU (n:=3) rfl (zaq (gn 2) (zaq (gn 3) (zaq (gn 4) zbU)))))
  (zaA (zaQ λqj M G1=>(s_if (zqi (dv 3)) (zam (zat zoJ)) za4))
  (zaA (zov (.nm 5) (λqj M G1=>(zgU (zaU zae (zan og (zab (dv 1) (zab zae zag)))))) (gn 5) (zaA (zaQ λqj M G1=>(zaZ 6 (zan og (zab (dv 1) (zab zae zag)))))
  (zaA (zaQ λqj M G1=>(zaZ 7 (zaU (DF.de (zly (zar (dv 3) zad))) (zhy (dv 4) ze7 (zfd zae)))))
  (zaA (zaQ λqj M G1=>(zaZ 8 (zbX (zab (zaw (DF.de (zba (zab zad (zab zad zag)))) (zp4 (dv 6) zae)) (zab (zaw (dv 7) (zan og (zab (dv 1) (zab (zbh (zab (dv 7) zag)) zag)))) zag)))))
  (zaA (zaQ λqj M G1=>(s_if (t_eq (dv 6) zae) (zam (zaZ 8 (zbX (zab zad (zab (zj6 (zan og (zab (dv 1) (zab zae zag))) zae) zag))))) za4))
  (zaA (zaQ λqj M G1=>(s_if (t_eq (dv 6) zae) (zam (zaZ 8 (zv5 (zan oo (zab (dv 1) (zab (dv 3) zag))) (zkY (dv 8))))) za4))
  (zaA (zaQ λqj M G1=>(s_if (t_eq (zan og (zab (dv 1) (zab zae zag))) zae) (zam (zaZ 8 (zan oC (zab (dv 1) (zab (dv 3) (zab (dv 4) (zab (dv 8) zag))))))) za4))
  (zaA (zjA 3 (zfC oN (zaN (oe_l λqj M G1=>(dv 2)) (zaN (oe_l λqj M G1=>(dv 3)) (zaN (oe_l λqj M G1=>(dv 8)) zd5))) zjE))
  (zct (zaQ λqj M G1=>(s_if (DW.dt (w_or (zqi (dv 3)) (zh7 (ziY (zfU (zod oY (zab (dv 2) (zab (dv 3) zag)) zqU)))))) (zam (zat zoJ)) za4)))))))))))
  (zct (zaQ λqj M G1=>(zat zoJ))))))
end
end Fd
namespace Hd
open PySem L2 Fen PySem.W PySem.Calls PyProof.Rows
noncomputable section
noncomputable abbrev dE(P:Params)(k:Str)(n:Nat)(v:Value):DictEntry:=⟨PyData.keyHash P k,.str k n,v⟩
noncomputable def dN:Stmt->Str
 |.FunctionDef x ..=>x
 |_ => ""
noncomputable abbrev cO(s:Stmt)(a:Nat)(l:Int)(lt:Nat)(n:Int)(v:Addr)(g h:Value)(q:Addr)(d:Nat):Obj:=⟨.type "code",none,.fields #[.str (dN s) a,.str (dN s) (a+1),.str "/claim/cut.py" (a+2),.int l lt,.int n 0,.int 0 0,.int 0 0,.int 3 0,.ref v,.bool true,.int 181 0,.ref (v+1),.none,g,h,.ref q,.int (d-1) 0,.int l lt,.str "/claim/cut.py" d],#[]⟩
noncomputable abbrev cQ(s:Stmt)(u:Str)(a:Nat)(l:Int)(lt:Nat)(n:Int)(v:Addr)(g h:Value)(q:Addr)(d:Nat):Obj:=⟨.type "code",none,.fields #[.str (dN s) a,.str u (a+1),.str "/claim/cut.py" (a+2),.int l lt,.int n 0,.int 0 0,.int 0 0,.int 3 0,.ref v,.bool true,.int 181 0,.ref (v+1),.none,g,h,.ref q,.int (d-1) 0,.int l lt,.str "/claim/cut.py" d],#[]⟩
noncomputable abbrev cP(s:Stmt)(a:Nat)(l:Int)(lt:Nat)(n:Int)(v:Addr)(d:Nat):Obj:=cO s a l lt n v .none .none (v+2) d
noncomputable abbrev fD(x:Str)(s:Stmt)(m:Str)(t:Nat)(c:Addr):FuncData:=PySem.W.fnOf x x (zcM s) (zbe s) (zao s) .none .none .none (.str m t) none (.ref c) .none
noncomputable abbrev fO(s:Stmt)(m:Str)(t:Nat)(c:Addr):Obj:=⟨.type "function",none,.func (fD (dN s) s m t c),#[]⟩
noncomputable abbrev fI(s:Stmt):Obj:=⟨.none,none,.func ⟨dN s,dN s,zcM s,.stmts (zbe s),zao s,0,[],.none,.none,.none,.none,none,.none,.none,0⟩,#[]⟩
noncomputable abbrev fQ(s:Stmt)(u m:Str)(t:Nat)(c:Addr):Obj:=⟨.type "function",none,.func (PySem.W.fnOf (dN s) u (zcM s) (zbe s) (zao s) .none .none .none (.str m t) none (.ref c) .none),#[]⟩
noncomputable abbrev fJ(s:Stmt)(u:Str):Obj:=⟨.none,none,.func ⟨dN s,u,zcM s,.stmts (zbe s),zao s,0,[],.none,.none,.none,.none,none,.none,.none,0⟩,#[]⟩
noncomputable abbrev cT:Obj:=⟨.type "tuple",none,.seq #[] 0,#[]⟩
noncomputable abbrev cF:Obj:=⟨.none,none,.fields #[],#[]⟩
noncomputable def tS:Nat->List Str->List Value
 |_,[]=>[]
 |n,x::l=>.str x n::tS (n+1) l
noncomputable abbrev cN(n:Nat)(l:List Str):Obj:=⟨.type "tuple",none,.seq (tS n l).toArray 0,#[]⟩
noncomputable def cV:List (Int×Nat×Nat)->List Value
 |[]=>[]
 | (l,t,c)::r=>.int l t::.int 0 0::.ref c::cV r
noncomputable def bT(f:Nat->Obj)(n:Nat):Nat->Nat->Nat->BT
 |0,_,_=>.nil
 |k+1,a,b=>match Nat.blt b n with
  |true=>.node (f b) (bT f n k (Nat.mul 2 a) (Nat.add a b)) (bT f n k (Nat.mul 2 a) (Nat.add (Nat.mul 2 a) b))
  |false=>.nil
noncomputable abbrev kP:Obj:=⟨.type "builtin_function_or_method",none,.fields #[.builtin "type.__prepare__",.type "type"],#[]⟩
noncomputable abbrev kD(P:Params)(m:Str)(n:Nat)(x:Str)(l:Int)(t:Nat)(r:Addr):Obj:=⟨.type "dict",none,.dict #[dE P "__module__" t (.str m n),dE P "__qualname__" (t+2) (.str x (t+1)),dE P "__firstlineno__" (t+4) (.int l (t+3)),dE P "__static_attributes__" (t+5) (.ref r)] 4,#[]⟩
noncomputable abbrev kE(P:Params)(m:Str)(n:Nat)(l:Int)(t:Nat)(r:Addr):Obj:=⟨.type "dict",none,.dict #[dE P "__module__" t (.str m n),dE P "__firstlineno__" (t+4) (.int l (t+3)),dE P "__static_attributes__" (t+5) (.ref r),dE P "__doc__" (t+6) (.none)] 2,#[]⟩
noncomputable abbrev kC(x:Str)(l:Int)(t:Nat)(v:Addr):Obj:=⟨.type "code",none,.fields #[.str x t,.str x (t+1),.str "/claim/cut.py" (t+2),.int l 0,.int 0 0,.int 0 0,.int 0 0,.int 0 0,.ref v,.bool false,.int 181 0,.ref (v+1),.none,.none,.none,.none,.int (t+3:Nat) 0,.int l 0,.str "/claim/cut.py" (t+4)],#[]⟩
noncomputable abbrev kF(a b:Addr)(m:Str)(n:Nat):Obj:=⟨.type "frame",none,.plain,#[some (.ref a),some (.ref 3),some (.ref b),none,some (.str m n),none,some (.ref 0)]⟩
noncomputable abbrev kT(x:Str)(b s d q:Addr)(u v:Nat):Obj:=⟨.type "type",none,.cls ⟨x,[.ref b],[.ref s,.ref b,.type "ValueError",.type "Exception",.type "BaseException",.type "object"],d,x,true,[],[],false,none,false⟩,#[some (.ref q),none,some (.str x u),some (.str x v),some (.builtin "ValueError.__new__"),some (.bool true)]⟩
noncomputable abbrev kS(s:Addr):Obj:=⟨.type "super",none,.fields #[.ref s,.ref s,.ref s],#[]⟩
noncomputable abbrev kI(s:Addr):Obj:=⟨.type "builtin_function_or_method",none,.fields #[.builtin "object.__init_subclass__",.ref s],#[]⟩
noncomputable abbrev kQ(s:Addr):Obj:=⟨.type "tuple",none,.seq #[.ref s] 0,#[]⟩
noncomputable abbrev u0:Str:="__main__"
noncomputable abbrev u1:Str:="fenlevel.errors"
noncomputable abbrev u2:Str:="fenlevel.names"
noncomputable abbrev u3:Str:="fenlevel.stand"
noncomputable abbrev u4:Str:="fenlevel.deeds"
noncomputable abbrev u5:Str:="fenlevel.fen"
noncomputable abbrev u6:Str:="law_fenlevel_k27_set_aside_and_heeded"
noncomputable def c0(P:Params)(d c:Obj):List Obj:=[PySem.W.boot_o_0 P,PySem.W.boot_o_1 P,PySem.W.boot_o_2 P,d,PySem.W.boot_o_4 P,PySem.W.boot_o_5 P,PySem.W.boot_o_6 P,PySem.W.boot_o_7 P,PySem.W.boot_o_8 P,PySem.W.boot_o_9 P,PySem.W.boot_o_10 P,cT,c,kC "<module>" 1 182 11,kF 13 3 u0 164,cT,cF,cN 190 ["k"],cT,fI zq8,cO zq8 187 1 0 1 15 (.ref 17) (.ref 18) 19 192,fO zq8 u0 164 20,⟨.type "tuple",none,.seq #[.type "ValueError"] 0,#[]⟩,kP]
noncomputable def c1(P:Params):List Obj:=[kD P u1 194 "FenError" 5 203 29,cT,cF,kC "FenError" 5 198 25,kF 27 24 u1 194,cT,⟨.type "dict",none,.dict #[dE P "__module__" 203 (.str "fenlevel.errors" 194),dE P "__firstlineno__" 207 (.int 5 206),dE P "__static_attributes__" 208 (.ref 29),dE P "__weakref__" 210 (.ref 32),dE P "__doc__" 211 (.none)] 3,#[]⟩,⟨.type "type",none,.cls ⟨"FenError",[.type "ValueError"],[.ref 31,.type "ValueError",.type "Exception",.type "BaseException",.type "object"],30,"FenError",true,[],[.ref 44,.ref 56,.ref 68,.ref 80,.ref 92,.ref 104,.ref 116,.ref 128,.ref 140,.ref 152,.ref 164,.ref 176,.ref 188,.ref 200,.ref 212,.ref 224,.ref 236,.ref 255],false,none,false⟩,#[some (.ref 22),none,some (.str "FenError" 196),some (.str "FenError" 204),some (.builtin "ValueError.__new__"),some (.bool true)]⟩,⟨.type "getset_descriptor",none,.fields #[.str "__weakref__" 209,.ref 31,.builtin "ExceptionGroup.__weakref__",.none],#[]⟩,kS 31,kI 31,kQ 31,kP,kD P u1 194 "BadName" 7 221 42,cT,cF,kC "BadName" 7 216 38,kF 40 37 u1 194,cT,kE P u1 194 7 221 42,kT "BadName" 31 44 43 35 214 222,kS 44,kI 44,kQ 31]
noncomputable def c2(P:Params):List Obj:=[kP,kD P u1 194 "Taken" 9 237 54,cT,cF,kC "Taken" 9 232 50,kF 52 49 u1 194,cT,kE P u1 194 9 237 54,kT "Taken" 31 56 55 47 230 238,kS 56,kI 56,kQ 31,kP,kD P u1 194 "Full" 11 253 66,cT,cF,kC "Full" 11 248 62,kF 64 61 u1 194,cT,kE P u1 194 11 253 66,kT "Full" 31 68 67 59 246 254,kS 68,kI 68,kQ 31]
noncomputable def c3(P:Params):List Obj:=[kP,kD P u1 194 "NoMark" 13 269 78,cT,cF,kC "NoMark" 13 264 74,kF 76 73 u1 194,cT,kE P u1 194 13 269 78,kT "NoMark" 31 80 79 71 262 270,kS 80,kI 80,kQ 31,kP,kD P u1 194 "NoHand" 15 285 90,cT,cF,kC "NoHand" 15 280 86,kF 88 85 u1 194,cT,kE P u1 194 15 285 90,kT "NoHand" 31 92 91 83 278 286,kS 92,kI 92,kQ 31]
noncomputable def c4(P:Params):List Obj:=[kP,kD P u1 194 "Same" 17 301 102,cT,cF,kC "Same" 17 296 98,kF 100 97 u1 194,cT,kE P u1 194 17 301 102,kT "Same" 31 104 103 95 294 302,kS 104,kI 104,kQ 31,kP,kD P u1 194 "BadRise" 19 317 114,cT,cF,kC "BadRise" 19 312 110,kF 112 109 u1 194,cT,kE P u1 194 19 317 114,kT "BadRise" 31 116 115 107 310 318,kS 116,kI 116,kQ 31]
noncomputable def c5(P:Params):List Obj:=[kP,kD P u1 194 "NoRun" 21 333 126,cT,cF,kC "NoRun" 21 328 122,kF 124 121 u1 194,cT,kE P u1 194 21 333 126,kT "NoRun" 31 128 127 119 326 334,kS 128,kI 128,kQ 31,kP,kD P u1 194 "Aside" 23 349 138,cT,cF,kC "Aside" 23 344 134,kF 136 133 u1 194,cT,kE P u1 194 23 349 138,kT "Aside" 31 140 139 131 342 350,kS 140,kI 140,kQ 31]
noncomputable def c6(P:Params):List Obj:=[kP,kD P u1 194 "NotAside" 25 365 150,cT,cF,kC "NotAside" 25 360 146,kF 148 145 u1 194,cT,kE P u1 194 25 365 150,kT "NotAside" 31 152 151 143 358 366,kS 152,kI 152,kQ 31,kP,kD P u1 194 "BadNumber" 27 381 162,cT,cF,kC "BadNumber" 27 376 158,kF 160 157 u1 194,cT,kE P u1 194 27 381 162,kT "BadNumber" 31 164 163 155 374 382,kS 164,kI 164,kQ 31]
noncomputable def c7(P:Params):List Obj:=[kP,kD P u1 194 "NothingLeft" 29 397 174,cT,cF,kC "NothingLeft" 29 392 170,kF 172 169 u1 194,cT,kE P u1 194 29 397 174,kT "NothingLeft" 31 176 175 167 390 398,kS 176,kI 176,kQ 31,kP,kD P u1 194 "Steady" 31 413 186,cT,cF,kC "Steady" 31 408 182,kF 184 181 u1 194,cT,kE P u1 194 31 413 186,kT "Steady" 31 188 187 179 406 414,kS 188,kI 188,kQ 31]
noncomputable def c8(P:Params):List Obj:=[kP,kD P u1 194 "NoDeed" 33 429 198,cT,cF,kC "NoDeed" 33 424 194,kF 196 193 u1 194,cT,kE P u1 194 33 429 198,kT "NoDeed" 31 200 199 191 422 430,kS 200,kI 200,kQ 31,kP,kD P u1 194 "Known" 35 445 210,cT,cF,kC "Known" 35 440 206,kF 208 205 u1 194,cT,kE P u1 194 35 445 210,kT "Known" 31 212 211 203 438 446,kS 212,kI 212,kQ 31]
noncomputable def c9(P:Params):List Obj:=[kP,kD P u1 194 "NoFen" 37 461 222,cT,cF,kC "NoFen" 37 456 218,kF 220 217 u1 194,cT,kE P u1 194 37 461 222,kT "NoFen" 31 224 223 215 454 462,kS 224,kI 224,kQ 31,kP,kD P u1 194 "Settled" 39 477 234,cT,cF,kC "Settled" 39 472 230,kF 232 229 u1 194,cT,kE P u1 194 39 477 234,kT "Settled" 31 236 235 227 470 478,kS 236,kI 236,kQ 31]
noncomputable def c10(P:Params):List Obj:=[kP,⟨.type "dict",none,.dict #[dE P "__module__" 493 (.str "fenlevel.errors" 194),dE P "__qualname__" 495 (.str "NoPage" 494),dE P "__firstlineno__" 497 (.int 41 496),dE P "__init__" 505 (.ref 252),dE P "__static_attributes__" 507 (.ref 253)] 5,#[]⟩,cT,⟨.none,none,.fields #[.int 43 0,.int 4 0,.ref 251],#[]⟩,kC "NoPage" 41 488 242,kF 244 241 u1 194,cT,cF,cN 501 ["self","row"],cT,fJ zcp "NoPage.__init__",cQ zcp "NoPage.__init__" 498 43 0 2 246 (.ref 248) (.ref 249) 250 504,fQ zcp "NoPage.__init__" u1 194 251,cN 506 ["row"],⟨.type "dict",none,.dict #[dE P "__module__" 493 (.str "fenlevel.errors" 194),dE P "__firstlineno__" 497 (.int 41 496),dE P "__init__" 505 (.ref 252),dE P "__static_attributes__" 507 (.ref 253),dE P "__doc__" 508 (.none)] 2,#[]⟩,kT "NoPage" 31 255 254 239 486 494,kS 255,kI 255,cT,cF,fI zd4,cP zd4 517 48 0 3 258 521,fO zd4 u2 511 261,cT]
noncomputable def c11(P:Params):List Obj:=[cF,cN 526 ["text"],cT,fI zgu,cO zgu 523 50 0 1 263 (.ref 265) (.ref 266) 267 528,fO zgu u2 511 268,cT,cF,fI zfh,cP zfh 532 53 0 1 270 536,fO zfh u3 530 273,cT,cF,fI ze0,cP ze0 538 55 0 2 275 542,fO ze0 u3 530 278,cT,cF,cN 547 ["stands","name"],cT,fI zdk,cO zdk 544 57 0 2 280 (.ref 282) (.ref 283) 284 550,fO zdk u3 530 285,cT]
noncomputable def c12(P:Params):List Obj:=[cF,cN 555 ["stands","name","turns"],cT,fI zdo,cO zdo 552 59 0 2 287 (.ref 289) (.ref 290) 291 559,fO zdo u3 530 292,cT,cF,cT,cT,fI zdd,cO zdd 573 70 0 0 294 (.ref 296) (.ref 297) 298 577,fO zdd u4 561 299,cT,cF,cN 582 ["book","word","value","fresh"],cT,fI zdi,cO zdi 579 72 0 3 301 (.ref 303) (.ref 304) 305 587,fO zdi u4 561 306,cT,cF,cN 592 ["book","name","stands"],cT]
noncomputable def c13(P:Params):List Obj:=[fI zbN,cO zbN 589 76 0 2 308 (.ref 310) (.ref 311) 312 596,fO zbN u4 561 313,cT,cF,cN 601 ["book","name"],cT,fI zdQ,cO zdQ 598 81 0 2 315 (.ref 317) (.ref 318) 319 604,fO zdQ u4 561 320,cT,cF,cN 609 ["rise"],cT,fI zdT,cO zdT 606 84 0 1 322 (.ref 324) (.ref 325) 326 611,fO zdT u4 561 327,cT,cF,fI ziv,cP ziv 613 87 0 2 329 617,fO ziv u4 561 332,cT,cF]
noncomputable def c14(P:Params):List Obj:=[cN 622 ["book","row","word","name"],cT,fI zcf,cO zcf 619 90 0 2 334 (.ref 336) (.ref 337) 338 627,fO zcf u4 561 339,cT,cF,cN 632 ["book","row","word","name","hands"],cT,fI zcg,cO zcg 629 97 0 2 341 (.ref 343) (.ref 344) 345 638,fO zcg u4 561 346,cT,cF,cN 643 ["book","row","word","one","other","rise","hand","start","start_turn","end","end_turn","number","run"],cT,fI zcE,cO zcE 640 107 0 2 348 (.ref 350) (.ref 351) 352 657,fO zcE u4 561 353,cT,cF,fI zfH,cP zfH 659 120 0 2 355 663,fO zfH u4 561 358]
noncomputable def c15(P:Params):List Obj:=[cT,cF,fI zfD,cP zfD 665 124 0 2 360 669,fO zfD u4 561 363,cT,cF,cN 674 ["book","row","word","name","settling","turn"],cT,fI zdZ,cO zdZ 671 130 0 2 365 (.ref 367) (.ref 368) 369 681,fO zdZ u4 561 370,cT,cF,cN 686 ["book","row","word","hand"],cT,fI zbQ,cO zbQ 683 134 0 2 372 (.ref 374) (.ref 375) 376 691,fO zbQ u4 561 377,cT,cF,fI zcF,cP zcF 693 140 0 2 379 697,fO zcF u4 561 382]
noncomputable def c16(P:Params):List Obj:=[cT,cF,cN 702 ["book","row","word","many"],cT,fI zby,cO zby 699 146 0 2 384 (.ref 386) (.ref 387) 388 707,fO zby u4 561 389,⟨.type "dict",none,.dict #[dE P "mark" 709 (.ref 340),dE P "hand" 710 (.ref 347),dE P "run" 711 (.ref 354),dE P "strike" 712 (.ref 359),dE P "mend" 713 (.ref 364),dE P "settle" 714 (.ref 371),dE P "aside" 715 (.ref 378),dE P "heed" 716 (.ref 383),dE P "allow" 717 (.ref 390)] 9,#[]⟩,cT,cF,cN 731 ["book","row","action"],cT,fI zcO,cO zcO 728 152 0 2 392 (.ref 394) (.ref 395) 396 735,fO zcO u4 561 397,cT,cF,fI zbx,cP zbx 739 156 0 1 399 743,fO zbx u5 737 402,cT,kP,⟨.type "dict",none,.dict #[dE P "__module__" 752 (.str "fenlevel.fen" 737),dE P "__qualname__" 754 (.str "Fen" 753),dE P "__firstlineno__" 756 (.int 158 755),dE P "__init__" 763 (.ref 417),dE P "now" 770 (.ref 424),dE P "mark" 778 (.ref 431),dE P "hand" 786 (.ref 438),dE P "run" 797 (.ref 445),dE P "strike" 805 (.ref 452),dE P "mend" 814 (.ref 459),dE P "settle" 822 (.ref 466),dE P "aside" 830 (.ref 473),dE P "heed" 838 (.ref 480),dE P "allow" 846 (.ref 487),dE P "deed" 855 (.ref 494),dE P "back" 862 (.ref 501),dE P "again" 871 (.ref 508),dE P "deeds" 878 (.ref 515),dE P "twin" 885 (.ref 522),dE P "marks" 892 (.ref 529),dE P "hands" 899 (.ref 536),dE P "asides" 905 (.ref 541),dE P "stands" 912 (.ref 548),dE P "allowed" 919 (.ref 555),dE P "runs" 926 (.ref 562),dE P "counting" 932 (.ref 567),dE P "height" 941 (.ref 574),dE P "paper" 950 (.ref 581),dE P "readings" 959 (.ref 588),dE P "sank" 967 (.ref 595),dE P "false_sets" 974 (.ref 602),dE P "least" 981 (.ref 609),dE P "groups" 988 (.ref 616),dE P "parting" 997 (.ref 623),dE P "foe" 1006 (.ref 630),dE P "__static_attributes__" 1010 (.ref 631)] 36,#[]⟩,cT]
noncomputable def c17(P:Params):List Obj:=[⟨.none,none,.fields #[.int 160 0,.int 4 0,.ref 416,.int 165 0,.int 4 0,.ref 423,.int 168 0,.int 4 0,.ref 430,.int 171 0,.int 4 0,.ref 437,.int 174 0,.int 4 0,.ref 444,.int 177 0,.int 4 0,.ref 451,.int 180 0,.int 4 0,.ref 458,.int 183 0,.int 4 0,.ref 465,.int 186 0,.int 4 0,.ref 472,.int 189 0,.int 4 0,.ref 479,.int 192 0,.int 4 0,.ref 486,.int 195 0,.int 4 0,.ref 493,.int 204 0,.int 4 0,.ref 500,.int 209 0,.int 4 0,.ref 507,.int 216 0,.int 4 0,.ref 514,.int 219 0,.int 4 0,.ref 521,.int 222 0,.int 4 0,.ref 528,.int 225 0,.int 4 0,.ref 535,.int 228 0,.int 4 0,.ref 540,.int 232 0,.int 4 0,.ref 547,.int 235 0,.int 4 0,.ref 554,.int 238 0,.int 4 0,.ref 561,.int 241 0,.int 4 0,.ref 566,.int 244 0,.int 4 0,.ref 573,.int 247 0,.int 4 0,.ref 580,.int 250 0,.int 4 0,.ref 587,.int 253 0,.int 4 0,.ref 594,.int 256 0,.int 4 0,.ref 601,.int 259 0,.int 4 0,.ref 608,.int 262 0,.int 4 0,.ref 615,.int 265 0,.int 4 0,.ref 622,.int 268 0,.int 4 0,.ref 629],#[]⟩,kC "Fen" 158 747 407,kF 409 406 u5 737,cT,cF,cN 760 ["self"],cT,fJ zbP "Fen.__init__",cQ zbP "Fen.__init__" 757 160 0 1 411 (.ref 413) (.ref 414) 415 762,fQ zbP "Fen.__init__" u5 737 416,cT,cF,cN 767 ["self"],cT,fJ zeZ "Fen.now",cQ zeZ "Fen.now" 764 165 0 1 418 (.ref 420) (.ref 421) 422 769,fQ zeZ "Fen.now" u5 737 423,cT,cF,cN 774 ["self","name"],cT,fJ zgt "Fen.mark",cQ zgt "Fen.mark" 771 168 0 2 425 (.ref 427) (.ref 428) 429 777,fQ zgt "Fen.mark" u5 737 430]
noncomputable def c18(P:Params):List Obj:=[cT,cF,cN 782 ["self","name"],cT,fJ zgC "Fen.hand",cQ zgC "Fen.hand" 779 171 0 2 432 (.ref 434) (.ref 435) 436 785,fQ zgC "Fen.hand" u5 737 437,cT,cF,cN 790 ["self","one","other","rise","hand"],cT,fJ ziA "Fen.run",cQ ziA "Fen.run" 787 174 0 5 439 (.ref 441) (.ref 442) 443 796,fQ ziA "Fen.run" u5 737 444,cT,cF,cN 801 ["self","number"],cT,fJ zeF "Fen.strike",cQ zeF "Fen.strike" 798 177 0 2 446 (.ref 448) (.ref 449) 450 804,fQ zeF "Fen.strike" u5 737 451,cT,cF,cN 809 ["self","number","rise"]]
noncomputable def c19(P:Params):List Obj:=[cT,fJ zgP "Fen.mend",cQ zgP "Fen.mend" 806 180 0 3 453 (.ref 455) (.ref 456) 457 813,fQ zgP "Fen.mend" u5 737 458,cT,cF,cN 818 ["self","name"],cT,fJ zeA "Fen.settle",cQ zeA "Fen.settle" 815 183 0 2 460 (.ref 462) (.ref 463) 464 821,fQ zeA "Fen.settle" u5 737 465,cT,cF,cN 826 ["self","hand"],cT,fJ zfq "Fen.aside",cQ zfq "Fen.aside" 823 186 0 2 467 (.ref 469) (.ref 470) 471 829,fQ zfq "Fen.aside" u5 737 472,cT,cF,cN 834 ["self","hand"],cT,fJ zgQ "Fen.heed",cQ zgQ "Fen.heed" 831 189 0 2 474 (.ref 476) (.ref 477) 478 837]
noncomputable def c20(P:Params):List Obj:=[fQ zgQ "Fen.heed" u5 737 479,cT,cF,cN 842 ["self","many"],cT,fJ zfG "Fen.allow",cQ zfG "Fen.allow" 839 192 0 2 481 (.ref 483) (.ref 484) 485 845,fQ zfG "Fen.allow" u5 737 486,cT,cF,cN 850 ["self","row","book"],cT,fJ zdL "Fen.deed",cQ zdL "Fen.deed" 847 195 0 2 488 (.ref 490) (.ref 491) 492 854,fQ zdL "Fen.deed" u5 737 493,cT,cF,cN 859 ["self"],cT,fJ zgI "Fen.back",cQ zgI "Fen.back" 856 204 0 1 495 (.ref 497) (.ref 498) 499 861,fQ zgI "Fen.back" u5 737 500,cT,cF]
noncomputable def c21(P:Params):List Obj:=[cN 866 ["self","row","book"],cT,fJ zfx "Fen.again",cQ zfx "Fen.again" 863 209 0 1 502 (.ref 504) (.ref 505) 506 870,fQ zfx "Fen.again" u5 737 507,cT,cF,cN 875 ["self"],cT,fJ zde "Fen.deeds",cQ zde "Fen.deeds" 872 216 0 1 509 (.ref 511) (.ref 512) 513 877,fQ zde "Fen.deeds" u5 737 514,cT,cF,cN 882 ["self"],cT,fJ zgD "Fen.twin",cQ zgD "Fen.twin" 879 219 0 1 516 (.ref 518) (.ref 519) 520 884,fQ zgD "Fen.twin" u5 737 521,cT,cF,cN 889 ["self"],cT,fJ zdl "Fen.marks"]
noncomputable def c22(P:Params):List Obj:=[cQ zdl "Fen.marks" 886 222 0 1 523 (.ref 525) (.ref 526) 527 891,fQ zdl "Fen.marks" u5 737 528,cT,cF,cN 896 ["self"],cT,fJ zdg "Fen.hands",cQ zdg "Fen.hands" 893 225 0 1 530 (.ref 532) (.ref 533) 534 898,fQ zdg "Fen.hands" u5 737 535,cT,cF,fJ zcA "Fen.asides",cQ zcA "Fen.asides" 900 228 0 1 537 (.none) (.none) 539 904,fQ zcA "Fen.asides" u5 737 540,cT,cF,cN 909 ["self"],cT,fJ zcG "Fen.stands",cQ zcG "Fen.stands" 906 232 0 1 542 (.ref 544) (.ref 545) 546 911,fQ zcG "Fen.stands" u5 737 547,cT,cF,cN 916 ["self"]]
noncomputable def c23(P:Params):List Obj:=[cT,fJ zch "Fen.allowed",cQ zch "Fen.allowed" 913 235 0 1 549 (.ref 551) (.ref 552) 553 918,fQ zch "Fen.allowed" u5 737 554,cT,cF,cN 923 ["self"],cT,fJ zdR "Fen.runs",cQ zdR "Fen.runs" 920 238 0 1 556 (.ref 558) (.ref 559) 560 925,fQ zdR "Fen.runs" u5 737 561,cT,cF,fJ zbR "Fen.counting",cQ zbR "Fen.counting" 927 241 0 1 563 (.none) (.none) 565 931,fQ zbR "Fen.counting" u5 737 566,cT,cF,cN 936 ["self","one","other"],cT,fJ zeE "Fen.height",cQ zeE "Fen.height" 933 244 0 3 568 (.ref 570) (.ref 571) 572 940,fQ zeE "Fen.height" u5 737 573,cT]
noncomputable def c24(P:Params):List Obj:=[cF,cN 945 ["self","one","other"],cT,fJ zft "Fen.paper",cQ zft "Fen.paper" 942 247 0 3 575 (.ref 577) (.ref 578) 579 949,fQ zft "Fen.paper" u5 737 580,cT,cF,cN 954 ["self","one","other"],cT,fJ zdy "Fen.readings",cQ zdy "Fen.readings" 951 250 0 3 582 (.ref 584) (.ref 585) 586 958,fQ zdy "Fen.readings" u5 737 587,cT,cF,cN 963 ["self","name"],cT,fJ zg0 "Fen.sank",cQ zg0 "Fen.sank" 960 253 0 2 589 (.ref 591) (.ref 592) 593 966,fQ zg0 "Fen.sank" u5 737 594,cT,cF,cN 971 ["self"],cT]
noncomputable def c25(P:Params):List Obj:=[fJ zcK "Fen.false_sets",cQ zcK "Fen.false_sets" 968 256 0 1 596 (.ref 598) (.ref 599) 600 973,fQ zcK "Fen.false_sets" u5 737 601,cT,cF,cN 978 ["self"],cT,fJ zfs "Fen.least",cQ zfs "Fen.least" 975 259 0 1 603 (.ref 605) (.ref 606) 607 980,fQ zfs "Fen.least" u5 737 608,cT,cF,cN 985 ["self"],cT,fJ zeD "Fen.groups",cQ zeD "Fen.groups" 982 262 0 1 610 (.ref 612) (.ref 613) 614 987,fQ zeD "Fen.groups" u5 737 615,cT,cF,cN 992 ["self","one","other"],cT,fJ zdJ "Fen.parting",cQ zdJ "Fen.parting" 989 265 0 3 617 (.ref 619) (.ref 620) 621 996,fQ zdJ "Fen.parting" u5 737 622]
noncomputable def c26(P:Params):List Obj:=[cT,cF,cN 1001 ["self","one","other"],cT,fJ zit "Fen.foe",cQ zit "Fen.foe" 998 268 0 3 624 (.ref 626) (.ref 627) 628 1005,fQ zit "Fen.foe" u5 737 629,cN 1007 ["books","kept","undone"],⟨.type "dict",none,.dict #[dE P "__module__" 752 (.str "fenlevel.fen" 737),dE P "__firstlineno__" 756 (.int 158 755),dE P "__init__" 763 (.ref 417),dE P "now" 770 (.ref 424),dE P "mark" 778 (.ref 431),dE P "hand" 786 (.ref 438),dE P "run" 797 (.ref 445),dE P "strike" 805 (.ref 452),dE P "mend" 814 (.ref 459),dE P "settle" 822 (.ref 466),dE P "aside" 830 (.ref 473),dE P "heed" 838 (.ref 480),dE P "allow" 846 (.ref 487),dE P "deed" 855 (.ref 494),dE P "back" 862 (.ref 501),dE P "again" 871 (.ref 508),dE P "deeds" 878 (.ref 515),dE P "twin" 885 (.ref 522),dE P "marks" 892 (.ref 529),dE P "hands" 899 (.ref 536),dE P "asides" 905 (.ref 541),dE P "stands" 912 (.ref 548),dE P "allowed" 919 (.ref 555),dE P "runs" 926 (.ref 562),dE P "counting" 932 (.ref 567),dE P "height" 941 (.ref 574),dE P "paper" 950 (.ref 581),dE P "readings" 959 (.ref 588),dE P "sank" 967 (.ref 595),dE P "false_sets" 974 (.ref 602),dE P "least" 981 (.ref 609),dE P "groups" 988 (.ref 616),dE P "parting" 997 (.ref 623),dE P "foe" 1006 (.ref 630),dE P "__static_attributes__" 1010 (.ref 631),dE P "__dict__" 1012 (.ref 634),dE P "__weakref__" 1014 (.ref 635),dE P "__doc__" 1015 (.none)] 4,#[]⟩,⟨.type "type",none,.cls ⟨"Fen",[.type "object"],[.ref 633,.type "object"],632,"Fen",true,[],[],false,none,false⟩,#[none,none,some (.str "Fen" 745),some (.str "Fen" 753),some (.builtin "object.__new__"),some (.bool true)]⟩,⟨.type "getset_descriptor",none,.fields #[.str "__dict__" 1011,.ref 633,.builtin "function.__dict__",.builtin "function.__dict__#set"],#[]⟩,⟨.type "getset_descriptor",none,.fields #[.str "__weakref__" 1013,.ref 633,.builtin "ExceptionGroup.__weakref__",.none],#[]⟩,kS 633,kI 633,cT,cF,cN 1023 ["_law_script"],cT,fI sBox,cO sBox 1020 271 0 1 638 (.ref 640) (.ref 641) 642 1025,fO sBox u6 1018 643,cT,cF,cN 1030 ["_law_box_here","_law_many","_law_rest","_law_cell","_law_seed"]]
noncomputable def c27(P:Params):List Obj:=[cT,fI zkF,cO zkF 1027 273 0 2 645 (.ref 647) (.ref 648) 649 1036,fO zkF u6 1018 650,cT,cF,fI zow,cP zow 1038 289 0 2 652 1042,fO zow u6 1018 655,cT,cF,fI zi7,cP zi7 1044 299 0 2 657 1048,fO zi7 u6 1018 660,cT,cF,cT,cT,fI ziO,cO ziO 1050 313 0 0 662 (.ref 664) (.ref 665) 666 1054,fO ziO u6 1018 667,cT,cF,fI zi6]
noncomputable def c28(P:Params):List Obj:=[cP zi6 1056 315 0 2 669 1060,fO zi6 u6 1018 672,cT,cF,cN 1065 ["_law_model_here","_law_name"],cT,fI zi9,cO zi9 1062 317 0 2 674 (.ref 676) (.ref 677) 678 1068,fO zi9 u6 1018 679,cT,cF,fI ziI,cP ziI 1070 319 0 1 681 1074,fO ziI u6 1018 684,cT,cF,fI zeW,cP zeW 1076 321 0 1 686 1080,fO zeW u6 1018 689,cT,cF,fI znQ,cP znQ 1082 323 0 2 691 1086,fO znQ u6 1018 694]
noncomputable def c29(P:Params):List Obj:=[cT,cF,cN 1091 ["_law_model_here","_law_deed"],cT,fI zfi,cO zfi 1088 347 0 2 696 (.ref 698) (.ref 699) 700 1094,fO zfi u6 1018 701,cT,cF,cN 1099 ["_law_fen","_law_model_here","_law_deed"],cT,fI zol,cO zol 1096 349 0 3 703 (.ref 705) (.ref 706) 707 1103,fO zol u6 1018 708,cT,cF,cN 1108 ["_law_fen","_law_found"],cT,fI znm,cO znm 1105 353 0 1 710 (.ref 712) (.ref 713) 714 1111,fO znm u6 1018 715,cT,cF,fI sDue]
noncomputable def c30(P:Params):List Obj:=[cP sDue 1113 356 0 1 717 1117,fO sDue u6 1018 720,cT,cF,cN 1122 ["_law_fen","_law_model_here"],cT,fI zi2,cO zi2 1119 362 0 2 722 (.ref 724) (.ref 725) 726 1125,fO zi2 u6 1018 727,cT,cF,cN 1130 ["_law_place_here"],cT,fI zjn,cO zjn 1127 364 0 1 729 (.ref 731) (.ref 732) 733 1132,fO zjn u6 1018 734,cT,cF,cN 1137 ["_law_box_here","_law_model_here","_law_marks_here","_law_hands","_law_at","_law_one","_law_other","_law_rise"],cT,fI zeM,cO zeM 1134 366 0 2 736 (.ref 738) (.ref 739) 740 1146,fO zeM u6 1018 741,cT]
noncomputable def c31(P:Params):List Obj:=[cF,fI ziW,cP ziW 1148 377 0 4 743 1152,fO ziW u6 1018 746,cT,cF,fI zi3,cP zi3 1154 393 0 1 748 1158,fO zi3 u6 1018 751,cT,cF,cN 1163 ["_law_fen","_law_deed","_law_found","_law_kinds_here","_law_e"],cT,fI zjP,cO zjP 1160 402 0 2 753 (.ref 755) (.ref 756) 757 1169,fO zjP u6 1018 758,cT,cF,fI zjc,cP zjc 1171 410 0 1 760 1175,fO zjc u6 1018 763,cT,cF,cN 1180 ["_law_model_here","_law_deed"]]
noncomputable def c32(P:Params):List Obj:=[cT,fI zff,cO zff 1177 412 0 2 765 (.ref 767) (.ref 768) 769 1183,fO zff u6 1018 770,cT,cF,cN 1188 ["_law_model_here","_law_deed","_law_word_here","_law_one","_law_other","_law_rise","_law_hand"],cT,fI zfg,cO zfg 1185 422 0 2 772 (.ref 774) (.ref 775) 776 1196,fO zfg u6 1018 777,cT,cF,fI zoa,cP zoa 1198 433 0 2 779 1202,fO zoa u6 1018 782,cT,cF,cN 1207 ["_law_fen","_law_model_here","_law_deed","_law_word_here"],cT,fI zgG,cO zgG 1204 453 0 3 784 (.ref 786) (.ref 787) 788 1212,fO zgG u6 1018 789,cT]
noncomputable def c33(P:Params):List Obj:=[cF,cN 1217 ["_law_box_here","_law_model_here","_law_pool","_law_deed","_law_at","_law_bad","_law_some","_law_thing"],cT,fI zdW,cO zdW 1214 460 0 4 791 (.ref 793) (.ref 794) 795 1226,fO zdW u6 1018 796,cT,cF,cN 1231 ["_law_script","_law_box_here","_law_fen","_law_model_here","_law_pool","_law_k","_law_way","_law_hands","_law_deed"],cT,fI sLaw,cO sLaw 1228 470 0 1 798 (.ref 800) (.ref 801) 802 1241,fO sLaw u6 1018 803]
noncomputable def oB(P:Params)(d c:Obj):List Obj:=c0 P d c++(c1 P++(c2 P++(c3 P++(c4 P++(c5 P++(c6 P++(c7 P++(c8 P++(c9 P++(c10 P++(c11 P++(c12 P++(c13 P++(c14 P++(c15 P++(c16 P++(c17 P++(c18 P++(c19 P++(c20 P++(c21 P++(c22 P++(c23 P++(c24 P++(c25 P++(c26 P++(c27 P++(c28 P++(c29 P++(c30 P++(c31 P++(c32 P++(c33 P)))))))))))))))))))))))))))))))))
noncomputable def e3(P:Params):List DictEntry:=[dE P "__doc__" 166 (.none),dE P "__package__" 167 (.none),dE P "__loader__" 168 (.builtin "__main__.__loader__#opaque"),dE P "__spec__" 169 (.none),dE P "__annotations__" 170 (.ref 6),dE P "__builtins__" 171 (.ref 4),dE P "__file__" 173 (.str "/claim/cut.py" 172),dE P "__cached__" 174 (.none),dE P "_wall" 193 (.ref 21),dE P "FenError" 213 (.ref 31),dE P "BadName" 229 (.ref 44),dE P "Taken" 245 (.ref 56),dE P "Full" 261 (.ref 68),dE P "NoMark" 277 (.ref 80),dE P "NoHand" 293 (.ref 92),dE P "Same" 309 (.ref 104),dE P "BadRise" 325 (.ref 116),dE P "NoRun" 341 (.ref 128),dE P "Aside" 357 (.ref 140),dE P "NotAside" 373 (.ref 152),dE P "BadNumber" 389 (.ref 164),dE P "NothingLeft" 405 (.ref 176),dE P "Steady" 421 (.ref 188),dE P "NoDeed" 437 (.ref 200),dE P "Known" 453 (.ref 212),dE P "NoFen" 469 (.ref 224),dE P "Settled" 485 (.ref 236),dE P "NoPage" 510 (.ref 255),dE P "LETTERS" 514 (.str "abcdefghijklmnopqrstuvwxyz" 513),dE P "LONGEST_NAME" 516 (.int 8 515),dE P "is_made_of" 522 (.ref 262),dE P "is_name" 529 (.ref 269),dE P "marks_of" 537 (.ref 274),dE P "turns_of" 543 (.ref 279),dE P "next_stand" 551 (.ref 286),dE P "last_stand" 560 (.ref 293),dE P "MOST_STANDS" 564 (.int 12 563),dE P "MOST_HANDS" 566 (.int 10 565),dE P "MOST_RUNS" 568 (.int 40 567),dE P "MOST_FALSE" 570 (.int 3 569),dE P "HIGHEST_RISE" 572 (.int 1000000000 571),dE P "empty_book" 578 (.ref 300),dE P "with_entry" 588 (.ref 307),dE P "with_new_stand" 597 (.ref 314),dE P "need_hand" 605 (.ref 321),dE P "need_rise" 612 (.ref 328),dE P "need_run" 618 (.ref 333),dE P "mark_entered" 628 (.ref 340),dE P "hand_entered" 639 (.ref 347),dE P "run_entered" 658 (.ref 354),dE P "run_struck" 664 (.ref 359),dE P "run_mended" 670 (.ref 364),dE P "mark_settled" 682 (.ref 371),dE P "hand_set_aside" 692 (.ref 378),dE P "hand_heeded" 698 (.ref 383),dE P "number_allowed" 708 (.ref 390),dE P "ACTIONS" 727 (.ref 391),dE P "book_behind" 736 (.ref 398),dE P "rows_that_count" 744 (.ref 403),dE P "Fen" 1017 (.ref 633),dE P "_law_box" 1026 (.ref 644),dE P "_law_take" 1037 (.ref 651),dE P "_law_same" 1043 (.ref 656),dE P "_law_names" 1049 (.ref 661),dE P "_law_model" 1055 (.ref 668),dE P "_law_turns" 1061 (.ref 673),dE P "_law_place" 1069 (.ref 680),dE P "_law_marks" 1075 (.ref 685),dE P "_law_counted" 1081 (.ref 690),dE P "_law_done" 1087 (.ref 695),dE P "_law_due_told" 1095 (.ref 702),dE P "_law_step" 1104 (.ref 709),dE P "_law_seen" 1112 (.ref 716),dE P "_law_due" 1118 (.ref 721),dE P "_law_right" 1126 (.ref 728),dE P "_law_truth" 1133 (.ref 735),dE P "_law_run_deed" 1147 (.ref 742),dE P "_law_begun" 1153 (.ref 747),dE P "_law_kinds" 1159 (.ref 752),dE P "_law_tried" 1170 (.ref 759),dE P "_law_named" 1176 (.ref 764),dE P "_law_new_word" 1184 (.ref 771),dE P "_law_run_word" 1197 (.ref 778),dE P "_law_word" 1203 (.ref 783),dE P "_law_judged" 1213 (.ref 790),dE P "_law_bent_deed" 1227 (.ref 797),dE P "law" 1242 (.ref 804)]
noncomputable def d3(P:Params)(x:Str)(t k:Nat):Obj:=⟨.type "dict",none,.dict (dE P "__name__" 165 (.str x t)::(e3 P).take k).toArray (k+1),#[]⟩
noncomputable def v4:List Value:=cV [(1,0,20),(5,0,27),(7,0,40),(9,0,52),(11,0,64),(13,0,76),(15,0,88),(17,0,100),(19,0,112),(21,0,124),(23,0,136),(25,0,148),(27,0,160),(29,0,172),(31,0,184),(33,0,196),(35,0,208),(37,0,220),(39,0,232),(41,0,244),(48,0,261),(50,0,268),(53,0,273),(55,0,278),(57,0,285),(59,0,292),(70,0,299),(72,0,306),(76,0,313),(81,0,320),(84,0,327),(87,0,332),(90,0,339),(97,0,346),(107,0,353),(120,0,358),(124,0,363),(130,0,370),(134,0,377),(140,0,382),(146,0,389),(152,0,397),(156,0,402),(158,0,409),(271,0,643),(273,0,650),(289,0,655),(299,0,660),(313,0,667),(315,0,672),(317,0,679),(319,0,684),(321,0,689),(323,0,694),(347,0,701),(349,0,708),(353,0,715),(356,0,720),(362,0,727),(364,0,734),(366,0,741),(377,0,746),(393,0,751),(402,0,758),(410,0,763),(412,0,770),(422,0,777),(433,0,782),(453,0,789),(460,0,796),(470,0,803)]
noncomputable def d4(k:Nat):Obj:=⟨.none,none,.fields (v4.take k).toArray,#[]⟩
noncomputable def bE:List Stmt:=PySem.W.behindTheImports PySem.Challenge.pw_fenlevel_k27_set_aside_and_heeded
noncomputable def eN:PySem.Env:={scope:=(PySem.Challenge.pw_fenlevel_k27_set_aside_and_heeded).main.scope,locals:=mainNs,globals:=mainNs,cells:=[],code:=.ref 13,frame:=some 14}
noncomputable def cB:Code:=.body bE eN
noncomputable def fB:List Frame:=[topFrame ⟨0,0,0,0⟩]
noncomputable def sA(w:PySem.World)(os:OsState):Shared:=⟨⟨⟨(oB w.params (d3 w.params "__main__" 164 8) (d4 0)).take 15⟩,{}⟩,#[],{},187,os⟩
noncomputable abbrev sX(x:Str)(a b c n k t:Nat)(w:PySem.World)(os:OsState):SharedT:=⟨bT (λi=>(oB w.params (d3 w.params x a b) (d4 c)).getD i cT) n k 1 0,n,{},#[],{},t,os⟩
noncomputable def sB0:=sX u0 164 8 0 15 12 187
noncomputable def x31(n:Nat):Obj:=⟨.type "type",none,.cls ⟨"FenError",[.type "ValueError"],[.ref 31,.type "ValueError",.type "Exception",.type "BaseException",.type "object"],30,"FenError",true,[],(([.ref 44,.ref 56,.ref 68,.ref 80,.ref 92,.ref 104,.ref 116,.ref 128,.ref 140,.ref 152,.ref 164,.ref 176,.ref 188,.ref 200,.ref 212,.ref 224,.ref 236,.ref 255]:List Value).take n),false,none,false⟩,#[some (.ref 22),none,some (.str "FenError" 196),some (.str "FenError" 204),some (.builtin "ValueError.__new__"),some (.bool true)]⟩
noncomputable abbrev sY(j:Nat)(x:Str)(a b c n k t:Nat)(w:PySem.World)(os:OsState):SharedT:=⟨bT (λi=>bif Nat.beq i 31 then x31 j else(oB w.params (d3 w.params x a b) (d4 c)).getD i cT) n k 1 0,n,{},#[],{},t,os⟩
noncomputable def sB1:=sY 0 u1 194 10 6 35 12 214
noncomputable def sB2:=sY 1 u1 194 11 9 47 12 230
noncomputable def sB3:=sY 2 u1 194 12 12 59 12 246
noncomputable def sB4:=sY 3 u1 194 13 15 71 12 262
noncomputable def sB5:=sY 4 u1 194 14 18 83 12 278
noncomputable def sB6:=sY 5 u1 194 15 21 95 12 294
noncomputable def sB7:=sY 6 u1 194 16 24 107 12 310
noncomputable def sB8:=sY 7 u1 194 17 27 119 12 326
noncomputable def sB9:=sY 8 u1 194 18 30 131 12 342
noncomputable def sB10:=sY 9 u1 194 19 33 143 12 358
noncomputable def sB11:=sY 10 u1 194 20 36 155 12 374
noncomputable def sB12:=sY 11 u1 194 21 39 167 12 390
noncomputable def sB13:=sY 12 u1 194 22 42 179 12 406
noncomputable def sB14:=sY 13 u1 194 23 45 191 12 422
noncomputable def sB15:=sY 14 u1 194 24 48 203 12 438
noncomputable def sB16:=sY 15 u1 194 25 51 215 12 454
noncomputable def sB17:=sY 16 u1 194 26 54 227 12 470
noncomputable def sB18:=sY 17 u1 194 27 57 239 12 486
noncomputable def sB19:=sX u3 530 34 72 280 12 544
noncomputable def sB20:=sX u4 561 50 105 355 12 659
noncomputable def sB21:=sX u4 561 56 123 391 12 709
noncomputable def sB22:=sX u4 561 57 123 392 12 728
noncomputable def sB23:=sX u5 737 59 129 404 12 745
noncomputable def sB24:=sX u5 737 60 132 638 12 1018
noncomputable def sB25:=sX u6 1018 73 171 717 12 1113
noncomputable def sB26:=sX u6 1018 86 210 798 12 1228
noncomputable def sB27:=sX u6 1018 87 213 805 12 1243
noncomputable def hE(P:Params):Heap:=⟨⟨oB P (d3 P "law_fenlevel_k27_set_aside_and_heeded" 1018 87) (d4 213)⟩,{}⟩
noncomputable def St0:Prop:=∀(w:PySem.World)(os:OsState),topGo treeTable PySem.Challenge.pw_fenlevel_k27_set_aside_and_heeded w 11 (some (.ref 6)) 12 ⟨PySem.W.boot_heap w.params,Array.mk [],PySem.W.boot_drawn,PySem.W.boot_toks,os⟩ (topStub PySem.Challenge.pw_fenlevel_k27_set_aside_and_heeded)=some (sA w os,⟨denote treeTable cB,cB,⟨0,0,0,0⟩,fB⟩)
noncomputable def St1:Prop:=∀(w:PySem.World)(os:OsState),segRun treeTable PySem.Challenge.pw_fenlevel_k27_set_aside_and_heeded w 11 (some (.ref 6)) 1 1 (sA w os) (blockOf bE eN cB ⟨0,0,0,0⟩ fB)=some (.next,(sB0 w os).abs,cB,⟨0,0,0,0⟩)
noncomputable abbrev Sg(n a k:Nat)(s s':PySem.World->OsState->SharedT)(p q:Pos):Prop:=∀(w:PySem.World)(os:OsState),segRunT treeTable PySem.Challenge.pw_fenlevel_k27_set_aside_and_heeded w 11 (some (.ref 6)) 1 n (s w os) (piecesOf ((bE.drop a).take k) eN cB p fB)=some (.next,s' w os,cB,q)
noncomputable def St2:Prop:=Sg 225 0 3 sB0 sB1 ⟨0,0,0,0⟩ ⟨5,0,6,8⟩
noncomputable def St3:Prop:=Sg 214 3 1 sB1 sB2 ⟨5,0,6,8⟩ ⟨7,0,8,8⟩
noncomputable def St4:Prop:=Sg 214 4 1 sB2 sB3 ⟨7,0,8,8⟩ ⟨9,0,10,8⟩
noncomputable def St5:Prop:=Sg 214 5 1 sB3 sB4 ⟨9,0,10,8⟩ ⟨11,0,12,8⟩
noncomputable def St6:Prop:=Sg 214 6 1 sB4 sB5 ⟨11,0,12,8⟩ ⟨13,0,14,8⟩
noncomputable def St7:Prop:=Sg 214 7 1 sB5 sB6 ⟨13,0,14,8⟩ ⟨15,0,16,8⟩
noncomputable def St8:Prop:=Sg 214 8 1 sB6 sB7 ⟨15,0,16,8⟩ ⟨17,0,18,8⟩
noncomputable def St9:Prop:=Sg 214 9 1 sB7 sB8 ⟨17,0,18,8⟩ ⟨19,0,20,8⟩
noncomputable def St10:Prop:=Sg 214 10 1 sB8 sB9 ⟨19,0,20,8⟩ ⟨21,0,22,8⟩
noncomputable def St11:Prop:=Sg 214 11 1 sB9 sB10 ⟨21,0,22,8⟩ ⟨23,0,24,8⟩
noncomputable def St12:Prop:=Sg 214 12 1 sB10 sB11 ⟨23,0,24,8⟩ ⟨25,0,26,8⟩
noncomputable def St13:Prop:=Sg 214 13 1 sB11 sB12 ⟨25,0,26,8⟩ ⟨27,0,28,8⟩
noncomputable def St14:Prop:=Sg 214 14 1 sB12 sB13 ⟨27,0,28,8⟩ ⟨29,0,30,8⟩
noncomputable def St15:Prop:=Sg 214 15 1 sB13 sB14 ⟨29,0,30,8⟩ ⟨31,0,32,8⟩
noncomputable def St16:Prop:=Sg 214 16 1 sB14 sB15 ⟨31,0,32,8⟩ ⟨33,0,34,8⟩
noncomputable def St17:Prop:=Sg 214 17 1 sB15 sB16 ⟨33,0,34,8⟩ ⟨35,0,36,8⟩
noncomputable def St18:Prop:=Sg 214 18 1 sB16 sB17 ⟨35,0,36,8⟩ ⟨37,0,38,8⟩
noncomputable def St19:Prop:=Sg 214 19 1 sB17 sB18 ⟨37,0,38,8⟩ ⟨39,0,40,8⟩
noncomputable def St20:Prop:=Sg 389 20 9 sB18 sB19 ⟨39,0,40,8⟩ ⟨55,0,56,63⟩
noncomputable def St21:Prop:=Sg 398 29 17 sB19 sB20 ⟨55,0,56,63⟩ ⟨107,0,119,89⟩
noncomputable def St22:Prop:=Sg 177 46 6 sB20 sB21 ⟨107,0,119,89⟩ ⟨146,0,150,44⟩
noncomputable def St23f:Prop:=∀(w:PySem.World)(os:OsState),segRunT treeTable PySem.Challenge.pw_fenlevel_k27_set_aside_and_heeded (w.withFollow "special-get-raises" false) 11 (some (.ref 6)) 1 155 (sB21 (w.withFollow "special-get-raises" false) os) (piecesOf ((bE.drop 52).take 1) eN cB ⟨146,0,150,44⟩ fB)=some (.next,sB22 (w.withFollow "special-get-raises" false) os,cB,⟨151,0,151,7⟩)
noncomputable def St23t:Prop:=∀(w:PySem.World)(os:OsState),segRunT treeTable PySem.Challenge.pw_fenlevel_k27_set_aside_and_heeded (w.withFollow "special-get-raises" true) 11 (some (.ref 6)) 1 155 (sB21 (w.withFollow "special-get-raises" true) os) (piecesOf ((bE.drop 52).take 1) eN cB ⟨146,0,150,44⟩ fB)=some (.next,sB22 (w.withFollow "special-get-raises" true) os,cB,⟨151,0,151,7⟩)
noncomputable def St24:Prop:=Sg 67 53 3 sB22 sB23 ⟨151,0,151,7⟩ ⟨156,0,157,71⟩
noncomputable def St25:Prop:=Sg 1207 56 1 sB23 sB24 ⟨156,0,157,71⟩ ⟨158,0,269,16⟩
noncomputable def St26:Prop:=Sg 377 57 14 sB24 sB25 ⟨158,0,269,16⟩ ⟨353,0,355,42⟩
noncomputable def St27:Prop:=Sg 392 71 13 sB25 sB26 ⟨353,0,355,42⟩ ⟨460,0,469,72⟩
noncomputable def St28:Prop:=Sg 38 84 1 sB26 sB27 ⟨460,0,469,72⟩ ⟨470,0,488,15⟩
noncomputable def St29:Prop:=∀(w:PySem.World)(os:OsState),topRun treeTable PySem.Challenge.pw_fenlevel_k27_set_aside_and_heeded w 11 (some (.ref 6)) 2 (sB27 w os).abs ⟨doneF .next,cB,⟨470,0,488,15⟩,fB⟩=some ⟨hE w.params,#[],{},1243,os⟩
noncomputable def vw:Program:={PySem.Challenge.pw_fenlevel_k27_set_aside_and_heeded with main:={(PySem.Challenge.pw_fenlevel_k27_set_aside_and_heeded).main with body:=[top 0,top 2,top 3,top 4,top 5,top 6,top 7,top 8,top 9,top 10,top 11,top 12,top 13,top 14,top 15,top 16,top 17,top 18,top 19,top 20,top 22,top 23,top 24,top 25,top 27,top 28,top 29,top 30,top 32,top 33,top 34,top 35,top 36,top 37,top 38,top 39,top 40,top 41,top 42,top 43,top 44,top 45,top 46,top 47,top 48,top 49,top 50,top 51,top 52,top 53,top 55,top 56,top 58,top 59,top 60,top 61,top 62,top 63,top 64,top 65,top 66,top 67,top 68,top 69,top 70,top 71,top 72,top 73,top 74,top 75,top 76,top 77,top 78,top 79,top 80,top 81,top 82,top 83,top 84]}}
noncomputable def hA:List Addr:=[3,261,262,268,269,273,274,278,279,285,286,292,293,299,300,306,307,313,314,320,321,327,328,339,340,346,347,353,354,377,378,382,383,389,390,397,398,402,403,643,644,650,651,655,656,660,661,667,668,672,673,679,680,684,685,689,690,694,695,701,702,708,709,715,716,720,721,727,728,734,735,741,742,746,747,751,752,758,759,763,764,770,771,777,778,782,783,789,790,796,797,803,804,416,417,423,424,493,494,514,515,528,529,535,536,540,541,547,548,554,555,561,562,566,567,24,30,31,37,43,44,49,55,56,61,67,68,73,79,80,85,91,92,97,103,104,109,115,116,121,127,128,133,139,140,145,151,152,157,163,164,169,175,176,181,187,188,193,199,200,205,211,212,217,223,224,229,235,236,241,254,255,391,406,632,633]
noncomputable def hK(P:Params):List (Nat×Obj):=hA.map λa=>(a,(oB P (d3 P "law_fenlevel_k27_set_aside_and_heeded" 1018 87) (d4 213)).getD a cT)
noncomputable def hH:PySem.W.Hook:=kHook hK hA (λ_=>by kernel_rfl)
noncomputable def xT(s:Shared):Bool:=xlAt vw [] s&&recOk (RowW.records (PySem.Challenge.rw_fenlevel_k27_set_aside_and_heeded).row.toRowW) s
noncomputable def StZ:Prop:=∀w:PySem.World,((PySem.W.boot_heap w.params).isNs mainGlobals&&(Array.mk []:Array GenState).size==0,(PySem.W.boot_heap w.params).objs.size,(PySem.W.boot_heap w.params).nsMap mainGlobals "__annotations__")=(true,11,some (.ref 6))
noncomputable def StA:Prop:=∀(w:PySem.World)(os:OsState),(staticsOk (importedModules (PySem.Challenge.pw_fenlevel_k27_set_aside_and_heeded).main.body) (PySem.W.boot_heap w.params) (hE w.params)&&namesBound PySem.Challenge.pw_fenlevel_k27_set_aside_and_heeded (hE w.params)&&gensDone ⟨hE w.params,#[],{},1243,os⟩&&laidKept (PySem.W.boot_heap w.params) (hE w.params))=true
noncomputable def StB0:Prop:=∀(w:PySem.World)(os:OsState),seen (List.map (λx=>x.name) (recsOf vw)) (ownsOf vw) [] {heap:=(⟨hE w.params,#[],{},1243,os⟩:Shared).heap,drawn:=(⟨hE w.params,#[],{},1243,os⟩:Shared).drawn,toks:=(⟨hE w.params,#[],{},1243,os⟩:Shared).toks,os:=(⟨hE w.params,#[],{},1243,os⟩:Shared).os}=expectedOf vw
noncomputable def StB1:Prop:=∀(w:PySem.World)(os:OsState),(⟨hE w.params,#[],{},1243,os⟩:Shared).heap.bltView=bltViewBooted
noncomputable def StB2:Prop:=∀(w:PySem.World)(os:OsState),((⟨hE w.params,#[],{},1243,os⟩:Shared).heap.keysOk (looseW vw ["ACTIONS"]) (List.map (λx=>x.name) (recsOf vw)) (List.map (λx=>x.fst) (litsOf vw)) (List.map (λx=>x.name) (clssOf vw (looseW vw ["ACTIONS"])))&&(⟨hE w.params,#[],{},1243,os⟩:Shared).heap.accountedOkI (importedModules (PySem.Challenge.pw_fenlevel_k27_set_aside_and_heeded).main.body)&&(⟨hE w.params,#[],{},1243,os⟩:Shared).heap.isNs mainGlobals&&(⟨hE w.params,#[],{},1243,os⟩:Shared).heap.isNs builtinsNs&&tablesOk vw (⟨hE w.params,#[],{},1243,os⟩:Shared).heap&&xT (⟨hE w.params,#[],{},1243,os⟩:Shared)&&if true=true then(⟨hE w.params,#[],{},1243,os⟩:Shared).gens.size==0 else !leftWithCleanup (⟨hE w.params,#[],{},1243,os⟩:Shared).gens)=true
noncomputable def StB3:Prop:=∀(w:PySem.World)(os:OsState),tabsOk vw (⟨hE w.params,#[],{},1243,os⟩:Shared)=true
noncomputable def StB4:Prop:=∀(w:PySem.World)(os:OsState),pinSeenD vw (drecsOf vw) (⟨hE w.params,#[],{},1243,os⟩:Shared)=pinGoodD (drecsOf vw)
noncomputable def StB5:Prop:=∀(w:PySem.World)(os:OsState),plainSeenE vw (looseW vw ["ACTIONS"]) (⟨hE w.params,#[],{},1243,os⟩:Shared)=plainGoodE vw (looseW vw ["ACTIONS"])
noncomputable def StB6:Prop:=∀(w:PySem.World)(os:OsState),plainSeenD vw ["ACTIONS"] (⟨hE w.params,#[],{},1243,os⟩:Shared)=plainGoodD vw ["ACTIONS"]
noncomputable def StB7:Prop:=∀(w:PySem.World)(os:OsState),wideSeen vw (⟨hE w.params,#[],{},1243,os⟩:Shared)=wideGood vw
noncomputable def StB8:Prop:=∀(w:PySem.World)(os:OsState),clsSeenW vw ["ACTIONS"] (⟨hE w.params,#[],{},1243,os⟩:Shared)=clsGoodW vw ["ACTIONS"]
noncomputable def StC:Prop:=∀(w:PySem.World)(os:OsState),hH.obs ⟨hE w.params,#[],{},1243,os⟩=hH.val w
def pr0:(Function.const Prop true (St0/\St1/\St2/\St3/\St4/\St5/\St6/\St7/\St8/\St9/\St10/\St11/\St12/\St13/\St14/\St15/\St16/\St17/\St18/\St19/\St20/\St21/\St22/\St23f/\St23t/\St24/\St25/\St26/\St27/\St28/\St29/\StZ/\StA/\StC/\StB0/\StB1/\StB2/\StB3/\StB4/\StB5/\StB6/\StB7/\StB8))=true:=by k_qdec
def th0:St0:=PySem.W.Fast.te937873346748051313.mpr (λ_ _=>by kernel_rfl)
def th1:St1:=PySem.W.Fast.te13982121027552719780.mpr (λ_ _=>by kernel_rfl)
def th2:St2:=PySem.W.Fast.te10105581574835445100.mpr (λ_ _=>by kernel_rfl)
def th3:St3:=PySem.W.Fast.te16437609458486848278.mpr (λ_ _=>by kernel_rfl)
def th4:St4:=PySem.W.Fast.te13904560402631476566.mpr (λ_ _=>by kernel_rfl)
def th5:St5:=PySem.W.Fast.te6988618110474044161.mpr (λ_ _=>by kernel_rfl)
def th6:St6:=PySem.W.Fast.te18292254230441717836.mpr (λ_ _=>by kernel_rfl)
def th7:St7:=PySem.W.Fast.te529641759280289813.mpr (λ_ _=>by kernel_rfl)
def th8:St8:=PySem.W.Fast.te7437064661015581292.mpr (λ_ _=>by kernel_rfl)
def th9:St9:=PySem.W.Fast.te4606531515639888929.mpr (λ_ _=>by kernel_rfl)
def th10:St10:=PySem.W.Fast.te15510853610054682074.mpr (λ_ _=>by kernel_rfl)
def th11:St11:=PySem.W.Fast.te5240782450552466234.mpr (λ_ _=>by kernel_rfl)
def th12:St12:=PySem.W.Fast.te7108782601475264861.mpr (λ_ _=>by kernel_rfl)
def th13:St13:=PySem.W.Fast.te17593090959831443907.mpr (λ_ _=>by kernel_rfl)
def th14:St14:=PySem.W.Fast.te17107273594779919526.mpr (λ_ _=>by kernel_rfl)
def th15:St15:=PySem.W.Fast.te17243388535409573341.mpr (λ_ _=>by kernel_rfl)
def th16:St16:=PySem.W.Fast.te14404611098126276643.mpr (λ_ _=>by kernel_rfl)
def th17:St17:=PySem.W.Fast.te5912113124307076037.mpr (λ_ _=>by kernel_rfl)
def th18:St18:=PySem.W.Fast.te9202431027644133851.mpr (λ_ _=>by kernel_rfl)
def th19:St19:=PySem.W.Fast.te1298850943296278361.mpr (λ_ _=>by kernel_rfl)
def th20:St20:=PySem.W.Fast.te423298498317574896.mpr (λ_ _=>by kernel_rfl)
def th21:St21:=PySem.W.Fast.te4749471772407743023.mpr (λ_ _=>by kernel_rfl)
def th22:St22:=PySem.W.Fast.te18414147907704405220.mpr (λ_ _=>by kernel_rfl)
def zvm:St23f:=PySem.W.Fast.te1065193176661006034.mpr (λ_ _=>by kernel_rfl)
def zvJ:St23t:=PySem.W.Fast.te1617264949379656403.mpr (λ_ _=>by kernel_rfl)
def th24:St24:=PySem.W.Fast.te5501303934203520444.mpr (λ_ _=>by kernel_rfl)
def th25:St25:=PySem.W.Fast.te15091059926794672290.mpr (λ_ _=>by kernel_rfl)
def th26:St26:=PySem.W.Fast.te18199379131982608850.mpr (λ_ _=>by kernel_rfl)
def th27:St27:=PySem.W.Fast.te10612502952372261059.mpr (λ_ _=>by kernel_rfl)
def th28:St28:=PySem.W.Fast.te13313099552810353380.mpr (λ_ _=>by kernel_rfl)
def th29:St29:=PySem.W.Fast.te28573087831060645.mpr (λ_ _=>by kernel_rfl)
def thZ:StZ:=PySem.W.Fast.te16988565736444548789.mpr (λ_=>by kernel_rfl)
def thA:StA:=PySem.W.Fast.te17744963595637626835.mpr (λ_ _=>by kernel_rfl)
def thC:StC:=PySem.W.Fast.te1647357278597937641.mpr (λ_ _=>by kernel_rfl)
def thB0:StB0:=PySem.W.Fast.te16712540127745682568.mpr (λ_ _=>by kernel_rfl)
def thB1:StB1:=PySem.W.Fast.te9537947621804818233.mpr (λ_ _=>by kernel_rfl)
def thB2:StB2:=PySem.W.Fast.te6993315812243800469.mpr (λ_ _=>by kernel_rfl)
def thB3:StB3:=PySem.W.Fast.te11528826059950916358.mpr (λ_ _=>by kernel_rfl)
def thB4:StB4:=PySem.W.Fast.te10105630229643876845.mpr (λ_ _=>by kernel_rfl)
def thB5:StB5:=PySem.W.Fast.te14736738506286536821.mpr (λ_ _=>by kernel_rfl)
def thB6:StB6:=PySem.W.Fast.te7690871981798463819.mpr (λ_ _=>by kernel_rfl)
def thB7:StB7:=PySem.W.Fast.te7594569300429222660.mpr (λ_ _=>by kernel_rfl)
def thB8:StB8:=PySem.W.Fast.te15082058975717902005.mpr (λ_ _=>by kernel_rfl)
def th23:∀(w:PySem.World)(os:OsState),segRunT treeTable PySem.Challenge.pw_fenlevel_k27_set_aside_and_heeded w 11 (some (.ref 6)) 1 155 (sB21 w os) (piecesOf ((bE.drop 52).take 1) eN cB ⟨146,0,150,44⟩ fB)=some (.next,sB22 w os,cB,⟨151,0,151,7⟩):=λw=>byRow2 "special-get-raises" (P:=λw=>∀os:OsState,segRunT treeTable PySem.Challenge.pw_fenlevel_k27_set_aside_and_heeded w 11 (some (.ref 6)) 1 155 (sB21 w os) (piecesOf ((bE.drop 52).take 1) eN cB ⟨146,0,150,44⟩ fB)=some (.next,sB22 w os,cB,⟨151,0,151,7⟩)) (λw=>zvm w) (λw=>zvJ w) w
def gr{tb:String->Option Builtin}{p:Program}{w:PySem.World}{n₀:Nat}{ann:Option Value}{env:PySem.Env}{q:Pos}{n N:Nat}{s s' r:Shared}{c:Code}{pos p':Pos}(l:List Stmt)(a k:Nat)(h:segRun tb p w n₀ ann 1 n s (piecesOf ((l.drop a).take k) env c pos [topFrame q])=some (.next,s',c,p'))
  (z:topRun tb p w n₀ ann N s' (restOf (l.drop (a+k)) env c p' [topFrame q])=some r):topRun tb p w n₀ ann (n+N) s (restOf (l.drop a) env c pos [topFrame q])=some r:=by
 have:=piece_app (rest:=(l.drop a).drop k) h (by rw[List.drop_drop];exact z)
 rwa[List.take_append_drop]at this
def zsy:bE.drop 85=[]:=by kernel_rfl
def zro:∀(w:PySem.World)(os:OsState),topRun treeTable PySem.Challenge.pw_fenlevel_k27_set_aside_and_heeded w 11 (some (.ref 6)) (12+(1+(225+(214+(214+(214+(214+(214+(214+(214+(214+(214+(214+(214+(214+(214+(214+(214+(214+(214+(389+(398+(177+(155+(67+(1207+(377+(392+(38+2))))))))))))))))))))))))))))) ⟨PySem.W.boot_heap w.params,Array.mk [],PySem.W.boot_drawn,PySem.W.boot_toks,os⟩ (topStub PySem.Challenge.pw_fenlevel_k27_set_aside_and_heeded)=some ⟨hE w.params,#[],{},1243,os⟩:=λw os=>
 go_top (th0 w os) (piece_block (th1 w os) (gr bE 0 3 (YAS (th2 w os)) (gr bE 3 1 (YAS (th3 w os)) (gr bE 4 1 (YAS (th4 w os)) (gr bE 5 1 (YAS (th5 w os)) (gr bE 6 1 (YAS (th6 w os)) (gr bE 7 1 (YAS (th7 w os)) (gr bE 8 1 (YAS (th8 w os)) (gr bE 9 1 (YAS (th9 w os)) (gr bE 10 1 (YAS (th10 w os)) (gr bE 11 1 (YAS (th11 w os)) (gr bE 12 1 (YAS (th12 w os)) (gr bE 13 1 (YAS (th13 w os)) (gr bE 14 1 (YAS (th14 w os)) (gr bE 15 1 (YAS (th15 w os)) (gr bE 16 1 (YAS (th16 w os)) (gr bE 17 1 (YAS (th17 w os)) (gr bE 18 1 (YAS (th18 w os)) (gr bE 19 1 (YAS (th19 w os)) (gr bE 20 9 (YAS (th20 w os)) (gr bE 29 17 (YAS (th21 w os)) (gr bE 46 6 (YAS (th22 w os)) (gr bE 52 1 (YAS (th23 w os)) (gr bE 53 3 (YAS (th24 w os)) (gr bE 56 1 (YAS (th25 w os)) (gr bE 57 14 (YAS (th26 w os)) (gr bE 71 13 (YAS (th27 w os)) (gr bE 84 1 (YAS (th28 w os)) (by rw[zsy];exact piece_nil (th29 w os))))))))))))))))))))))))))))))
def left_o:LeftO PySem.Challenge.pw_fenlevel_k27_set_aside_and_heeded vw ["ACTIONS"] xT hH.obs hH.val 14198:=
 LeftO.of_pieces (boot_open (by kernel_rfl) (by kernel_rfl) (λ_=>by kernel_rfl)) thZ zro (by kernel_rfl) λw=>funext λos=>looks_pair (thA w os) (looks_pair (show openSeen vw ["ACTIONS"] (importedModules (PySem.Challenge.pw_fenlevel_k27_set_aside_and_heeded).main.body) xT true ⟨hE w.params,#[],{},1243,os⟩=openGood vw ["ACTIONS"]from congr (congrArg Prod.mk (thB0 w os)) (congr (congrArg Prod.mk (thB1 w os)) (congr (congrArg Prod.mk (thB2 w os)) (congr (congrArg Prod.mk (thB3 w os)) (congr (congrArg Prod.mk (thB4 w os)) (congr (congrArg Prod.mk (thB5 w os)) (congr (congrArg Prod.mk (thB6 w os)) (congr (congrArg Prod.mk (thB7 w os)) (thB8 w os))))))))) (thC w os))
end
end Hd
namespace Fd
open PySem L2 Fen Hd
def us0{p:List Value->Prop}(k:p []):∀us:List Value,us.length=0->p us
 |[],_=>k
def usS{p:List Value->Prop}{n:Nat}(k:∀(a:Value) (us:List Value),us.length=n->p (a::us)):∀us:List Value,us.length=n+1->p us
 |a::us,h=>k a us (Nat.succ.inj h)
noncomputable def fdOf(P:Params)(f:Addr):FuncData:=match List.lookup f (hK P)with
 |some ⟨_,_,.func d,_⟩=>d
 |_=>fD "" (.Pass ⟨0,0,0,0⟩) "" 0 0
noncomputable def fcOf(P:Params)(f:Addr):Addr:=match (fdOf P f).code with
 |.ref c=>c
 |_=>0
noncomputable def fmOf(P:Params)(f:Addr):Value:=(fdOf P f).pyModule
noncomputable abbrev fE(P:Params)(x u:Str)(s:Stmt)(f:Addr):FuncData:=PySem.W.fnOf x u (zcM s) (zbe s) (zao s) .none .none .none (fmOf P f) none (.ref (fcOf P f)) .none
def fF{P:Params}(x u:Str)(s:Stmt)(f:Addr)(l:List.lookup f (hK P)=some ⟨.type "function",none,.func (fE P x u s f),#[]⟩:=by kernel_rfl)(y:PySem.W.codeIn (hK P) (.ref (fcOf P f)) u=true:=by kernel_rfl):Fun (hK P) x u s f (fE P x u s f):=⟨⟨_,_,_,_,_,_,_,_,_,rfl,l,y⟩,by simp only[PySem.W.keepIn,l]⟩
def mkB{w:PySem.World}{x u:Str}{s:Stmt}{f:Addr}{ps:List Str}(F:Fun (hK w.params) x u s f (fE w.params x u s f))(b:∀(kV doc pm:Value) (an:Option Addr) (cdv ct:Value) (us:List Value),us.length=ps.length->bindArgs (PySem.W.fnOf x u (zcM s) (zbe s) (zao s) .none kV doc pm an cdv ct) ⟨us,[]⟩=pure (ps.zip us):=by(intro _ _ _ _ _ _;repeat (first|exact us0 rfl|refine usS λ_=>?_))):Binds (hK w.params) (fE w.params x u s f) ps []:=F.binds b
def mkC{P:Program}{w:PySem.World}{base h:Heap}{mg:Str->Option Value}(X:PySem.W.Frag.In (hK w.params) h)(G:h.Ns mainGlobals mg){k:Nat}{ps:List Str}{sp:Sp}(x:Str)(s:Stmt)(f:Addr)(ok:∀{fd:FuncData},Fun (hK w.params) x x s f fd->FnOk P w (hK w.params) mg base CX0 k f fd ps sp)
  (F:Fun (hK w.params) x x s f (fE w.params x x s f):=by exact fF _ _ _ _) (m:PySem.W.nsIn (hK w.params) mainGlobals x=some (some (.ref f)):=by kernel_rfl)
  (b:∀(kV doc pm:Value)(an:Option Addr)(cdv ct:Value)(us:List Value),us.length=ps.length->bindArgs (PySem.W.fnOf x x (zcM s) (zbe s) (zao s) .none kV doc pm an cdv ct) ⟨us,[]⟩=pure (ps.zip us):=by(intro _ _ _ _ _ _;repeat (first|exact us0 rfl|refine usS λ_=>?_))):Cal P w (hK w.params) mg base x k ps sp:=
 Cal.of F (ok F) (YAY X G m) (F.binds b)
def mkX{P:Program}{w:PySem.World}{base h:Heap}{mg:Str->Option Value}(X:PySem.W.Frag.In (hK w.params) h)(G:h.Ns mainGlobals mg){k:Nat}{ps:List Str}{sp:Sp}(x:Str)(s:Stmt)(f:Addr)(ok:∀{fd:FuncData},Fun (hK w.params) x x s f fd->FnOk P w (hK w.params) mg base (CXN P w) k f fd ps sp)
  (F:Fun (hK w.params) x x s f (fE w.params x x s f):=by exact fF _ _ _ _) (m:PySem.W.nsIn (hK w.params) mainGlobals x=some (some (.ref f)):=by kernel_rfl)
  (b:∀(kV doc pm:Value)(an:Option Addr)(cdv ct:Value)(us:List Value),us.length=ps.length->bindArgs (PySem.W.fnOf x x (zcM s) (zbe s) (zao s) .none kV doc pm an cdv ct) ⟨us,[]⟩=pure (ps.zip us):=by(intro _ _ _ _ _ _;repeat (first|exact us0 rfl|refine usS λ_=>?_))):CalX P w (hK w.params) mg base x k ps sp:=
 CalX.of F (ok F) (YAY X G m) (F.binds b)
def mkM{P:Program}{w:PySem.World}{base:Heap}{mg:Str->Option Value}{CX:CXT}{C:Addr}(c:Cls (hK w.params) C){k:Nat}{ps:List Str}{sp:Sp}(x u:Str)(s:Stmt)(f:Addr)(ok:∀{fd:FuncData},Fun (hK w.params) x u s f fd->FnOk P w (hK w.params) mg base CX k f fd ps sp)
  (m:PySem.W.findIn (hK w.params) (.ref C) x=some (some (.ref f)):=by kernel_rfl) (i:PySem.W.isFn (hK w.params) (.ref f)=true:=by kernel_rfl) (F:Fun (hK w.params) x u s f (fE w.params x u s f):=by exact fF _ _ _ _)
  (b:∀(kV doc pm:Value)(an:Option Addr)(cdv ct:Value)(us:List Value),us.length=ps.length->bindArgs (PySem.W.fnOf x u (zcM s) (zbe s) (zao s) .none kV doc pm an cdv ct) ⟨us,[]⟩=pure (ps.zip us):=by(intro _ _ _ _ _ _;repeat (first|exact us0 rfl|refine usS λ_=>?_))):Met P w (hK w.params) mg base CX C x k ps sp:=
 ⟨f,_,ok F,c,⟨m,i,F.kp⟩,F.binds b⟩
abbrev aD:Ads:=⟨633,340,347,354,359,364,371,378,383,390⟩
def all_mk{l:PySem.W.OpenLaw}{w:PySem.World}{h:Heap}{mg:Str->Option Value}{fa:Addr}(X:PySem.W.Frag.In (hK w.params) h)(G:h.Ns mainGlobals mg)(hfa:mg "law"=some (.ref fa)) :
  ∃fd:FuncData,(∀(s:Shared)(v:Value),BindsTo s fd ⟨[v],[]⟩ [("_law_script",v)])/\∀base:Heap,PySem.W.Frag.In (hK w.params) base->base.Ns mainGlobals mg->FnOk l.prog w (hK w.params) mg base CX0 10 fa fd ["_law_script"] (zoz (hK w.params)):=by
 have e:=hfa.symm.trans (YAY X G (v:=.ref 804) (by kernel_rfl));cases e;have qf:∀{x:Str},PySem.W.nsIn (hK w.params) mainGlobals x=some none->mg x=none:=PySem.W.mg_none_of X G;have T:Bt mg:=by constructor<;>exact qf (by kernel_rfl)
 have T2:Bd mg:=by constructor<;>exact qf (by kernel_rfl)
 have cls:Cls (hK w.params) aD.fen:=⟨by kernel_rfl,by kernel_rfl,by kernel_rfl,by kernel_rfl⟩;have fc:Fc (hK w.params) mg aD:=⟨cls,(show PySem.W.findIn (hK w.params) (.ref 633) "kept"=some none by kernel_rfl),(show PySem.W.findIn (hK w.params) (.ref 633) "books"=some none by kernel_rfl),(show PySem.W.findIn (hK w.params) (.ref 633) "undone"=some none by kernel_rfl),YAY X G (by kernel_rfl)⟩;have xh:Xh (hK w.params) mg ⟨44,56,68,80,92,104,116,140,152,164⟩:=by constructor<;>first|exact YAY X G (by kernel_rfl)|kernel_rfl
 have mgo:∀{x:Str}{v:Value},PySem.W.nsIn (hK w.params) mainGlobals x=some (some v)->mg x=some v:=YAY X G;have xv:mg "ValueError"=none:=qf (by kernel_rfl);have xk:ErrF (hK w.params) mg "FenError" NTx NSx:=zua (fe:=31) [("BadName",44),("Taken",56),("Full",68),("NoMark",80),("NoHand",92),("Same",104),("BadRise",116),("NoRun",128),("Aside",140),("NotAside",152),("BadNumber",164),("NothingLeft",176),("Steady",188),("NoDeed",200),("Known",212),("NoFen",224),("Settled",236),("NoPage",255)] [("BadName",44),("Taken",56),("Full",68),("NoMark",80),("NoHand",92),("Same",104),("BadRise",116),("Aside",140),("NotAside",152),("BadNumber",164)] rfl rfl (by simp only[YA0,YAB,YBL,YBS,YCY];and_intros<;>exact mgo (by kernel_rfl)) (by simp only[YA0,YAB,YBL,YBS,YCY];and_intros<;>exact mgo (by kernel_rfl)) (mgo (by kernel_rfl)) (by simp only[YA0,YAB,YBL,YBS,YCY];and_intros<;>kernel_rfl) (by simp only[YA0,YAB,YBL,YBS,YCY];and_intros<;>first|kernel_rfl|(constructor<;>kernel_rfl));have g_MOST_STANDS:mg "MOST_STANDS"=some (.int 12 563):=YAY X G (by kernel_rfl);have g_LONGEST_NAME:mg "LONGEST_NAME"=some (.int 8 515):=YAY X G (by kernel_rfl);have g_LETTERS:mg "LETTERS"=some (.str "abcdefghijklmnopqrstuvwxyz" 513):=YAY X G (by kernel_rfl);have g_MOST_HANDS:mg "MOST_HANDS"=some (.int 10 565):=YAY X G (by kernel_rfl);have g_HIGHEST_RISE:mg "HIGHEST_RISE"=some (.int 1000000000 571):=YAY X G (by kernel_rfl);have g_MOST_RUNS:mg "MOST_RUNS"=some (.int 40 567):=YAY X G (by kernel_rfl);have g_MOST_FALSE:mg "MOST_FALSE"=some (.int 3 569):=YAY X G (by kernel_rfl);have gA:GDict l.prog w (hK w.params) mg "ACTIONS" (kvA aD):=zvg (ps:=[("mark",709,.ref 340),("hand",710,.ref 347),("run",711,.ref 354),("strike",712,.ref 359),("mend",713,.ref 364),("settle",714,.ref 371),("aside",715,.ref 378),("heed",716,.ref 383),("allow",717,.ref 390)]) (a:=391) (n:=9) X G (by kernel_rfl) (show List.lookup 391 (hK w.params)=_ by kernel_rfl) (show GRows (hK w.params) _ (kvA aD) by unfold kvA;exact(.cons zcw (.cons zcw (.cons zcw (.cons zcw (.cons zcw (.cons zcw (.cons zcw (.cons zcw (.cons zcw .nil)))))))))) (by decide) (by simp only[YAm,YBd];decide +kernel);have F:=fF (P:=w.params) "law" "law" sLaw 804;refine⟨fE w.params "law" "law" sLaw 804,λs v=>.of_eq rfl,λbase _ _=>?_⟩;have M:=@mkC l.prog w base h mg X G;have MX:=@mkX l.prog w base h mg X G;have MM:=@mkM l.prog w base mg;have cB:=M "_law_box" sBox 644 λF=>Fen.zt7 F ⟨T.list,T.len,T.range⟩;have og:=M "_law_take" zkF 651 λF=>zkQ F T;have oO:=M "_law_names" zi7 661 λF=>zh4 T og F;have oP:=M "empty_book" zdd 300 λF=>ziD F;have FI:=fF (P:=w.params) "__init__" "Fen.__init__" zbP 417;have okI:=zgi (P:=l.prog) (w:=w) (base:=base) aD fc oP FI;have bI:=mkB (ps:=["self"]) FI;have mkI:Mk (hK w.params) aD.fen 417:=⟨by kernel_rfl,by kernel_rfl,by kernel_rfl,by kernel_rfl⟩;have oQ:=M "_law_model" ziO 668 λF=>zhO F;have oi:=M "_law_turns" zi6 673 λF=>zhE T F;have oj:=M "_law_place" zi9 680 λF=>zib oi F;have oZ:=M "_law_done" znQ 695 λF=>zjy T T2 oi oj F;have F__law_same:=fF (P:=w.params) "_law_same" "_law_same" zow 656;have b__law_same:=mkB (ps:=["_law_found","_law_due_here"]) F__law_same;have m__law_same:mg "_law_same"=_:=YAY X G (v:=.ref 656) (by kernel_rfl);have r__law_same:=zfL (P:=l.prog) (w:=w) (base:=base) F__law_same m__law_same b__law_same T;have oh:=M "with_entry" zdi 307 λF=>zhS T2 F;have ow:=M "turns_of" ze0 279 λF=>zkS T F;have oR:=M "next_stand" zdk 286 λF=>zil ow F;have oA:=MX "with_new_stand" zbN 314 λF=>zfE T g_MOST_STANDS xh oh oR F;have oS:=M "is_made_of" zd4 262 λF=>zhZ T F;have oK:=M "is_name" zgu 269 λF=>zmE g_LETTERS g_LONGEST_NAME oS F;have F_mark_entered:=fF (P:=w.params) "mark_entered" "mark_entered" zcf 340;have o_mark_entered:=zgV (P:=l.prog) (w:=w) (base:=base) xh ow oA oK F_mark_entered;have b_mark_entered:=mkB (ps:=["book","row"]) F_mark_entered;have F_hand_entered:=fF (P:=w.params) "hand_entered" "hand_entered" zcg 347;have o_hand_entered:=zgO (P:=l.prog) (w:=w) (base:=base) T g_MOST_HANDS xh oh oK F_hand_entered;have b_hand_entered:=mkB (ps:=["book","row"]) F_hand_entered;have oE:=MX "last_stand" zdo 293 λF=>zhY xh ow F;have oq:=MX "need_hand" zdQ 321 λF=>zj4 xh F;have o7:=MX "need_rise" zdT 328 λF=>zjd T2 g_HIGHEST_RISE xh F;have F_run_entered:=fF (P:=w.params) "run_entered" "run_entered" zcE 354;have o_run_entered:=zg6 (P:=l.prog) (w:=w) (base:=base) T g_MOST_RUNS xh oh oE oq o7 F_run_entered;have b_run_entered:=mkB (ps:=["book","row"]) F_run_entered;have F_hand_set_aside:=fF (P:=w.params) "hand_set_aside" "hand_set_aside" zbQ 378;have o_hand_set_aside:=zfA (P:=l.prog) (w:=w) (base:=base) xh oh oq F_hand_set_aside;have b_hand_set_aside:=mkB (ps:=["book","row"]) F_hand_set_aside;have F_hand_heeded:=fF (P:=w.params) "hand_heeded" "hand_heeded" zcF 383;have o_hand_heeded:=zg7 (P:=l.prog) (w:=w) (base:=base) T xh oh oq F_hand_heeded;have b_hand_heeded:=mkB (ps:=["book","row"]) F_hand_heeded;have F_number_allowed:=fF (P:=w.params) "number_allowed" "number_allowed" zby 390;have o_number_allowed:=zfl (P:=l.prog) (w:=w) (base:=base) g_MOST_FALSE xh oh F_number_allowed;have b_number_allowed:=mkB (ps:=["book","row"]) F_number_allowed;have tb:TabP l.prog w (hK w.params) mg base 4 2 (tabA aD):=by unfold tabA;exact(TabP.cons F_mark_entered o_mark_entered b_mark_entered (TabP.cons F_hand_entered o_hand_entered b_hand_entered (TabP.cons F_run_entered o_run_entered b_run_entered (TabP.cons F_hand_set_aside o_hand_set_aside b_hand_set_aside (TabP.cons F_hand_heeded o_hand_heeded b_hand_heeded (TabP.cons F_number_allowed o_number_allowed b_number_allowed TabP.nil))))))
 have oM:=MX "book_behind" zcO 398 λF=>zg5 aD gA tb F;have m_now:=MM (C:=aD.fen) cls "now" "Fen.now" zeZ 424 λF=>zmm aD fc F;have m_deed:=MM (C:=aD.fen) cls "deed" "Fen.deed" zdL 494 λF=>zkV aD fc oM m_now F;have oF:=M "_law_due_told" zfi 702 λF=>zf2 T F;have oy:=MX "_law_step" zol 709 λF=>ziM aD oZ (Cal.of F__law_same (r__law_same 6) m__law_same b__law_same) m_deed oF F;have om:=M "_law_marks" ziI 685 λF=>zid F;have oG:=M "_law_truth" zjn 735 λF=>zhK F;have oo:=M "_law_run_deed" zeM 742 λF=>zfX T og oj om oG F;have oU:=MX "_law_begun" ziW 747 λF=>zhQ aD T fc mkI okI bI og oO oQ oy oo F;have oH:=M "_law_run_word" zfg 778 λF=>zfT T oi F;have oV:=M "_law_named" zjc 764 λF=>zhN T F;have oI:=M "_law_new_word" zff 771 λF=>zfS T oi oV F;have o8:=M "_law_word" zoa 783 λF=>zjY T oi oH oI F;have F__law_kinds:=fF (P:=w.params) "_law_kinds" "_law_kinds" zi3 752;have b__law_kinds:=mkB (ps:=["_law_e"]) F__law_kinds;have m__law_kinds:mg "_law_kinds"=_:=YAY X G (v:=.ref 752) (by kernel_rfl);have oW:=zhC (P:=l.prog) (w:=w) (base:=base) T xk xv F__law_kinds m__law_kinds b__law_kinds;have oX:=MX "_law_tried" zjP 759 λF=>ziw aD xk m_deed oW F;have oN:=MX "_law_judged" zgG 790 λF=>zg4 aD (Cal.of F__law_same (r__law_same 6) m__law_same b__law_same) oy o8 oX F;have oC:=M "_law_bent_deed" zdW 797 λF=>zfF T og om F;have qc:=M "marks_of" zfh 274 λF=>zkE F;have m_marks:=MM (C:=aD.fen) cls "marks" "Fen.marks" zdl 529 λF=>zjK aD m_now qc F;have m_hands:=MM (C:=aD.fen) cls "hands" "Fen.hands" zdg 536 λF=>zjw aD T m_now F;have m_asides:=MM (C:=aD.fen) cls "asides" "Fen.asides" zcA 541 λF=>zhW aD m_now F;have m_stands:=MM (C:=aD.fen) cls "stands" "Fen.stands" zcG 548 λF=>ziy aD T m_now F;have m_allowed:=MM (C:=aD.fen) cls "allowed" "Fen.allowed" zch 555 λF=>zg9 aD m_now F;have m_runs:=MM (C:=aD.fen) cls "runs" "Fen.runs" zdR 562 λF=>zkm aD T m_now F;have oz:=M "rows_that_count" zbx 403 λF=>zeP F;have m_counting:=MM (C:=aD.fen) cls "counting" "Fen.counting" zbR 567 λF=>zgH aD m_now oz F;have m_deeds:=MM (C:=aD.fen) cls "deeds" "Fen.deeds" zde 515 λF=>zjX aD T fc F;have o9:=M "_law_seen" znm 716 λF=>ziP aD m_marks m_hands m_asides m_stands m_allowed m_runs m_counting m_deeds F;have oJ:=M "_law_counted" zeW 690 λF=>zgs F;have qd:=M "_law_due" sDue 721 λF=>zkA T om oJ F;have oY:=M "_law_right" zi2 728 λF=>zii aD (Cal.of F__law_same (r__law_same 6) m__law_same b__law_same) o9 qd F;exact zsR aD T og oo oU oN oC oY F cB (zr4 aD)
def walk{l:PySem.W.OpenLaw}{q:Program}{loose:List Str}{XP:(Str->Option Value)->Heap->Prop}{YP:PySem.World->Heap->Prop}{d:DefRec}{K:Params->qk}(hn:l.most=some 63)(hdf:d.params.defaults=[])
  (hY:∀(w:PySem.World)(h:Heap),YP w h->(K w.params).In h)
  (F:∀(w:PySem.World)(mg:Str->Option Value)(fa:Addr)(h:Heap),(K w.params).In h->h.Ns mainGlobals mg->mg d.name=some (.ref fa) ->
   ∃fd:FuncData,(∀(s:Shared)(u:Value),BindsTo s fd ⟨[u],[]⟩ [("_law_script",u)])/\∀base:Heap,(K w.params).In base->base.Ns mainGlobals mg->FnOk l.prog w (K w.params) mg base CX0 10 fa fd ["_law_script"] (zoz (K w.params))) :
  PySem.W.WalkO q loose XP YP l.row.toRowW d [] (λf vs=>PySem.call f vs):=
 L2.zsI (n:=63) (k:=10) (x:="_law_script") (CX:=λ_=>CX0) (sp:=λw=>zoz (K w.params)) hn (by decide) hdf ⟨rfl,by decide,by decide⟩ hY F (λ_ _ a ns hl _ hS=>⟨a,ns,rfl,hS,hl,λ_=>rfl⟩) λ_ _ _ _ _ z=>z
end Fd
open PySem PySem.W PyProof.Rows
set_option maxRecDepth 100000 in
set_option maxHeartbeats 0 in
theorem PySem.Challenge.cw_fenlevel_k27_set_aside_and_heeded_holds : PySem.Challenge.rw_fenlevel_k27_set_aside_and_heeded.Holds := by
 w_on;o_law
 refine holds_open (q:=Hd.vw) (loose:=["ACTIONS"]) (Xt:=Hd.xT) (XP:=XL Hd.vw []) (Yf:=Hd.hH.obs) (Ya:=Hd.hH.val) (YP:=Hd.hH.says) (N:=14198) Hd.left_o Hd.hH.of Hd.hH.keeps (λs e=>xl_of s (YCw.mp e).1) XL.keeps (by rfl) (by rfl) (by rfl) (λs e=>recFacts_of (YCw.mp e).2) (by rfl) (by first|assumption|decide +kernel) (by decide +kernel) ⟨rfl,rfl,rfl,rfl,rfl,by decide +kernel⟩ ?hw ?hc
 (case hw=>w_witness2)
 exact Fd.walk (l:=PySem.Challenge.rw_fenlevel_k27_set_aside_and_heeded) rfl rfl (λw h Y=>PySem.W.kIn_of Y) (λw mg fa h KX G hmg=>Fd.all_mk KX G hmg)
